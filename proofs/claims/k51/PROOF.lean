import PyProof.Rows.All
import Wide.All
import OpenK.AllK
import Wide.FinOn
import Lean
import PyProof.EqAt
import PyProof.EqKinds
import PyProof.TupleCall
import PyProof.CompUse
import PyProof.Cells
import PyProof.CompFree
import PyProof.PlainList
import PyProof.ListMulRoad
import PyProof.AutoListH
import PyProof.TupleIter
import PyProof.FactsAll.tuple_2
import KE.KIsAll
import OpenK.KOwn
import PyProof.ExcInit
import PyProof.ExcArgsOwn
import PyProof.ExcAttrAll.ValueError
import PyProof.DictRoadsH
import PyProof.P3Eq
import KE.KDictOf
import PyProof.DictIter
import PyProof.ZipIter
import PyProof.NeData
import PyProof.Rows.SumAny
import PyProof.EnumMake
import PyProof.Draws
import PyProof.EnumFor
import PyProof.EnumStmt
import PyProof.Rows.SeqMore
import PyProof.DictCompW
import PyProof.StationsW
import PyProof.RulesAs
import PyProof.NsDelKeeps
import PySem.Challenge.RW_carrytower_k51_maps
set_option Elab.async false
set_option linter.all false
set_option maxRecDepth 100000
set_option maxHeartbeats 4000000
set_option exponentiation.threshold 200000
set_option bootstrap.genMatcherCode false
set_option genSizeOf false
set_option compiler.extract_closed false
namespace L2
open PySem PySem.Spec PyProof.Rows
noncomputable abbrev Key:=Sum Int Str
noncomputable def uZ:Key->Value->Bool
 |.inl k,v=>Value.isInt k v
 |.inr x,v=>Value.isStrOf x v
noncomputable def BV (w:World):Key->Int
 |.inl k=>hashInt k
 |.inr x=>hashStr w x
theorem bc:∀{k:Key} {v:Value},uZ k v=true->(∃i t,k=Sum.inl i∧v=Value.int i t)∨(∃x t,k=Sum.inr x∧v=Value.str x t)
 |.inl i,v,h=>by
  obtain ⟨t,e⟩:=Value.isInt_shape (k:=i) (v:=v) h
  exact .inl ⟨i,t,rfl,e⟩
 |.inr x,v,h=>by
  obtain ⟨t,e⟩:=Value.isStrOf_shape (x:=x) (v:=v) h
  exact .inr ⟨x,t,rfl,e⟩
theorem yB (a b:Int):decide ((Sum.inl a:Key)=Sum.inl b)=(a==b):=by
 by_cases e:a=b
 ·subst e;simp
 ·have h:¬(Sum.inl a:Key)=Sum.inl b:=fun q=>e (Sum.inl.inj q)
  rw [decide_eq_false h]
  exact (beq_eq_false_iff_ne.mpr e).symm
theorem yT (a b:Str):decide ((Sum.inr a:Key)=Sum.inr b)=decide (a=b):=by
 by_cases e:a=b
 ·subst e;simp
 ·have h:¬(Sum.inr a:Key)=Sum.inr b:=fun q=>e (Sum.inr.inj q)
  rw [decide_eq_false h,decide_eq_false e]
theorem zW (a:Int) (b:Str):decide ((Sum.inl a:Key)=Sum.inr b)=false:=decide_eq_false (fun q=>nomatch q)
theorem xU (a:Str) (b:Int):decide ((Sum.inr a:Key)=Sum.inl b)=false:=decide_eq_false (fun q=>nomatch q)
noncomputable def nV (prog:Program) (w:World):PySem.KeyKind prog w Key where
 is:=uZ
 hash:=BV w
 inj:=fun v a b ha hb=>by
  rcases bc ha with ⟨i,t,rfl,rfl⟩|⟨x,t,rfl,rfl⟩
  ·rcases bc hb with ⟨j,u,rfl,e⟩|⟨y,u,rfl,e⟩
   ·injection e with e1 _;rw [e1]
   ·exact nomatch e
  ·rcases bc hb with ⟨j,u,rfl,e⟩|⟨y,u,rfl,e⟩
   ·exact nomatch e
   ·injection e with e1 _;rw [e1]
 byValue:=fun k v h=>by
  rcases bc h with ⟨i,t,rfl,rfl⟩|⟨x,t,rfl,rfl⟩<;>rfl
 pyHash:=fun hv h=>by
  rcases bc hv with ⟨i,t,rfl,rfl⟩|⟨x,t,rfl,rfl⟩
  ·exact wpAny_pyHash_int h
  ·exact wpAny_pyHash_str h
 eqBool:=fun hu hv h=>by
  rcases bc hu with ⟨i,t,rfl,rfl⟩|⟨x,t,rfl,rfl⟩
  ·rcases bc hv with ⟨j,u,rfl,rfl⟩|⟨y,u,rfl,rfl⟩
   ·rw [yB] at h;exact wpAny_eqBool_int h
   ·rw [zW] at h;exact SeqAt.EqAt.int_str i t y u _ _ _ _ h
  ·rcases bc hv with ⟨j,u,rfl,rfl⟩|⟨y,u,rfl,rfl⟩
   ·rw [xU] at h;exact SeqAt.EqAt.str_int x t j u _ _ _ _ h
   ·rw [yT] at h;exact wpAny_eqBool_str h
 «strs»:=fun k x t v h=>by
  rcases bc h with ⟨i,u,rfl,e⟩|⟨y,u,rfl,e⟩
  ·exact nomatch e
  ·injection e with e1 _
   subst e1
   cases v<;>rfl
end L2
namespace L2
open PySem PySem.Spec PyProof.Rows
inductive V where
 |non|bl (b:Bool)|int (i:Int)|str (x:Str)|byt (b:Array UInt8)|flt (b:UInt64)|ref (a:Addr)|ty (n:String)
 deriving DecidableEq
noncomputable def RelV:V->Value->Prop
 |.non,u=>u=Value.none
 |.bl b,u=>u=Value.bool b
 |.int i,u=>∃t,u=Value.int i t
 |.str x,u=>∃t,u=Value.str x t
 |.byt b,u=>∃t,u=Value.bytes b t
 |.flt b,u=>∃t,u=Value.float b t
 |.ref a,u=>u=Value.ref a
 |.ty n,u=>u=Value.type n
noncomputable abbrev Vals:List V->List Value->Prop:=Paired RelV
theorem Vals.length {xs:List V} {us:List Value} (r:Vals xs us):xs.length=us.length:=Paired.length r
theorem Vals.get:∀{xs:List V} {us:List Value} {i:Nat} {x:V},Vals xs us->xs[i]?=some x->∃u,us[i]?=some u∧RelV x u
 |_,_,_,_,.nil,e=>by simp at e
 |_,_,0,_,.cons r _,e=>by simp at e;subst e;exact ⟨_,rfl,r⟩
 |_,_,i+1,x,.cons _ t,e=>by
  obtain ⟨u,h1,h2⟩:=Vals.get (i:=i) (x:=x) t (by simpa using e)
  exact ⟨u,by simpa using h1,h2⟩
theorem Vals.set {x:V} {u:Value} (r:RelV x u):∀{xs:List V} {us:List Value} (i:Nat),Vals xs us->Vals (xs.set i x) (us.set i u)
 |_,_,_,.nil=>.nil
 |_,_,0,.cons _ t=>.cons r t
 |_,_,i+1,.cons q t=>.cons q (Vals.set r i t)
theorem Vals.append:∀{xs ys:List V} {us ws:List Value},Vals xs us->Vals ys ws->Vals (xs++ys) (us++ws)
 |_,_,_,_,.nil,s=>s
 |_,_,_,_,.cons r t,s=>.cons r (Vals.append t s)
theorem Vals.take:∀{xs:List V} {us:List Value} (n:Nat),Vals xs us->Vals (xs.take n) (us.take n)
 |_,_,0,_=>.nil
 |_,_,_+1,.nil=>.nil
 |_,_,n+1,.cons r t=>.cons r (Vals.take n t)
theorem Vals.drop:∀{xs:List V} {us:List Value} (n:Nat),Vals xs us->Vals (xs.drop n) (us.drop n)
 |_,_,0,r=>r
 |_,_,_+1,.nil=>.nil
 |_,_,n+1,.cons _ t=>Vals.drop n t
noncomputable def cK:Option V->Option Value->Prop
 |some v,some u=>RelV v u
 |none,none=>True
 |_,_=>False
noncomputable def KV {κ:Type}:List (κ×V)->List (κ×Value)->Prop:=Paired fun (p:κ×V) (q:κ×Value)=>p.1=q.1∧RelV p.2 q.2
noncomputable def kV:Key->V
 |.inl i=>.int i
 |.inr x=>.str x
inductive HO where
 |lst (xs:List V)
 |tup (xs:List V)
 |dK (kvs:List (Key×V))|dT (kvs:List (List Key×V))
 |set (S:Int->Bool) (n:Nat)
 |ins (C dx:Addr) (fs:List (Str×V))
 |own (x:Addr)
 |xd (fs:List (Str×V))
 |met (f x:Addr)
 |rng (lo hi:Int)
 |frz (o:Obj) (u:HO)
 |tbl (ps:Array Value)
 |ext (φ:Heap->Prop)
noncomputable abbrev Hp:=Addr->Option HO
noncomputable def upd (H:Hp) (a:Addr) (o:HO):Hp:=fun b=>if b=a then some o else H b
theorem ao {H:Hp} {a:Addr} {o:HO}:upd H a o a=some o:=by unfold upd;rw [if_pos rfl]
theorem ag {H:Hp} {a b:Addr} {o:HO} (h:b≠a):upd H a o b=H b:=by unfold upd;rw [if_neg h]
theorem vH {H:Hp} {a:Addr} {o u:HO}:upd (upd H a o) a u=upd H a u:=by
 funext b;unfold upd;split<;>rfl
theorem aj {H:Hp} {a b:Addr} {o:HO} (h:H a=some o) (h':H b=none):a≠b:=by
 intro e;subst e;rw [h] at h';cases h'
section
variable (P:Program) (w:World)
noncomputable def aT (H:Hp) (h:Heap) (a:Addr):HO->Prop
 |.lst xs=>xs.length<=sizeLine∧∃(its:List Value) (n:Nat),Vals xs its∧h.get? a=some {cls:=.type "list",data:=.seq its.toArray n}
 |.tup xs=>xs.length<=sizeLine∧∃its:List Value,Vals xs its∧IsTup h a its.toArray
 |.dK kvs=>kvs.length<=sizeLine∧(a==sysModules)=false∧∃vs,KV kvs vs∧h.DictOf (nV P w) a vs
 |.dT kvs=>kvs.length<=sizeLine∧(a==sysModules)=false∧∃xs:List (List Key×Addr×Value),
   Paired (fun (p:List Key×V) (q:List Key×Addr×Value)=>p.1=q.1∧H q.2.1=some (.tup (p.1.map kV))∧RelV p.2 q.2.2) kvs xs∧
   ∃o es ep,h.get? a=some o∧o.ExactDict∧o.data=.dict es ep∧es.toList=xs.map (entryOfKey (tupleKind (nV P w)))∧(xs.map (·.1)).Nodup
 |.set S n=>h.SetOf (intKind P w) a S n
 |.ins C dx fs=>H dx=some (.own a)∧fs.length<=1000∧dx≠a∧h.get? a=some (PySem.W.instObj C dx)∧
   ∃mA,h.Ns1 dx mA∧(∀f,cK (fs.lookup f) (mA f))∧PySem.Within mA (fs.map (·.1))
 |.own _=>∃o,h.get? a=some o
 |.xd fs=>∃mA,h.Ns1 a mA∧∀f,cK (fs.lookup f) (mA f)
 |.rng lo hi=>∃t u v,h.get? a=some {cls:=.type "range",data:=.fields #[.int lo t,.int hi u,.int 1 v]}
 |.frz o u=>h.get? a=some o∧aT H h a u
 |.tbl ps=>h.get? a=some {cls:=.none,data:=.fields ps}
 |.met f x=>h.get? a=some (PySem.W.methodObj (.ref f) (.ref x))
 |.ext φ=>φ h∧(∃o,h.get? a=some o)∧∀h1 h2:Heap,φ h1->(∀o,h1.get? a=some o->h2.get? a=some o)->φ h2
noncomputable def HOk (H:Hp) (h:Heap):Prop:=∀a o,H a=some o->aT P w H h a o
end
section
variable {P:Program} {w:World} {H H':Hp} {h h':Heap} {a:Addr} {o:HO}
theorem aT.lt (x:aT P w H h a o):a<h.objs.size:=by
 cases o with
 |lst xs=>obtain ⟨_,_,_,_,e⟩:=x;exact Heap.lt_size e
 |tup xs=>obtain ⟨_,_,_,p⟩:=x;exact p.lt
 |dK kvs=>obtain ⟨_,_,_,_,o,_,_,e,_⟩:=x;exact Heap.lt_size e
 |dT kvs=>obtain ⟨_,_,_,_,o,_,_,e,_⟩:=x;exact Heap.lt_size e
 |set S n=>obtain ⟨o,_,_,_,e,_⟩:=x;exact Heap.lt_size e
 |ins C dx fs=>obtain ⟨_,_,_,e,_⟩:=x;exact Heap.lt_size e
 |own y=>obtain ⟨_,e⟩:=x;exact Heap.lt_size e
 |xd fs=>obtain ⟨_,⟨_,_,_,e,_⟩,_⟩:=x;exact Heap.lt_size e
 |rng lo hi=>obtain ⟨_,_,_,e⟩:=x;exact Heap.lt_size e
 |frz ob u=>obtain ⟨e,_⟩:=x;exact Heap.lt_size e
 |tbl ps=>exact Heap.lt_size (show h.get? a=some _ from x)
 |met f y=>exact Heap.lt_size (show h.get? a=some _ from x)
 |ext φ=>obtain ⟨_,⟨_,e⟩,_⟩:=x;exact Heap.lt_size e
theorem Paired.zc {α β:Type} {F G:α->β->Prop}:∀{l₁:List α} {l₂:List β},Paired F l₁ l₂->(∀a b,F a b->G a b)->Paired G l₁ l₂
 |_,_,.nil,_=>.nil
 |_,_,.cons r t,f=>.cons (f _ _ r) (Paired.zc t f)
theorem aT.eO (x:aT P w H h a o) (k:∀b u,(b=a∨H b=some (.own a))->h.get? b=some u->h'.get? b=some u)
  (ho:∀b,H b=some (.own a)->H' b=some (.own a)) (ht:∀b xs,H b=some (.tup xs)->H' b=some (.tup xs)):aT P w H' h' a o:=by
 induction o with
 |lst xs=>obtain ⟨z,its,n,r,e⟩:=x;exact ⟨z,its,n,r,k _ _ (.inl rfl) e⟩
 |tup xs=>obtain ⟨z,its,r,ob,e,c⟩:=x;exact ⟨z,its,r,ob,k _ _ (.inl rfl) e,c⟩
 |dK kvs=>obtain ⟨z,y,vs,r,ob,es,ep,e,c⟩:=x;exact ⟨z,y,vs,r,ob,es,ep,k _ _ (.inl rfl) e,c⟩
 |dT kvs=>
  obtain ⟨z,y,xs,r,ob,es,ep,e,c⟩:=x
  exact ⟨z,y,xs,Paired.zc r fun p q z=>⟨z.1,ht _ _ z.2.1,z.2.2⟩,ob,es,ep,k _ _ (.inl rfl) e,c⟩
 |set S n=>obtain ⟨ob,es,ep,t,e,c⟩:=x;exact ⟨ob,es,ep,t,k _ _ (.inl rfl) e,c⟩
 |ins C dx fs=>
  obtain ⟨d,z,ne,e,mA,⟨od,es,ep,e2,c⟩,r⟩:=x
  exact ⟨ho _ d,z,ne,k _ _ (.inl rfl) e,mA,⟨od,es,ep,k _ _ (.inr d) e2,c⟩,r⟩
 |own y=>obtain ⟨ob,e⟩:=x;exact ⟨ob,k _ _ (.inl rfl) e⟩
 |xd fs=>obtain ⟨mA,⟨od,es,ep,e,c⟩,r⟩:=x;exact ⟨mA,⟨od,es,ep,k _ _ (.inl rfl) e,c⟩,r⟩
 |rng lo hi=>obtain ⟨t,u,v,e⟩:=x;exact ⟨t,u,v,k _ _ (.inl rfl) e⟩
 |frz ob u ih=>obtain ⟨e,q⟩:=x;exact ⟨k _ _ (.inl rfl) e,ih q⟩
 |tbl ps=>
  have e:h.get? a=some {cls:=.none,data:=.fields ps}:=x
  show h'.get? a=some {cls:=.none,data:=.fields ps}
  exact k a _ (.inl rfl) e
 |met f y=>
  have e:h.get? a=some (PySem.W.methodObj (.ref f) (.ref y)):=x
  show h'.get? a=some (PySem.W.methodObj (.ref f) (.ref y))
  exact k a _ (.inl rfl) e
 |ext φ=>obtain ⟨p,⟨o,e⟩,st⟩:=x;exact ⟨st _ _ p fun o q=>k _ _ (.inl rfl) q,⟨o,k _ _ (.inl rfl) e⟩,st⟩
theorem HOk.lt (x:HOk P w H h) (e:H a=some o):a<h.objs.size:=(x a o e).lt
theorem HOk.fresh (x:HOk P w H h) (e:h.objs.size<=a):H a=none:=by
 cases q:H a with
 |none=>rfl
 |some u=>exact absurd (Nat.lt_of_lt_of_le (x.lt q) e) (Nat.lt_irrefl _)
theorem HOk.kept (x:HOk P w H h) (k:∀b u,h.get? b=some u->h'.get? b=some u):HOk P w H h':=fun a o e=>
 (x a o e).eO (fun b u _ q=>k b u q) (fun _ q=>q) fun _ _ q=>q
theorem HOk.laid (x:HOk P w H h) (k:∀b u,h.get? b=some u->h'.get? b=some u) (hp:h.objs.size<=a) (new:aT P w (upd H a o) h' a o):HOk P w (upd H a o) h':=fun b u e=>by
 have hn:=x.fresh hp
 by_cases hb:b=a
 ·subst hb;rw [ao] at e;cases e;exact new
 ·rw [ag hb] at e
  exact (x b u e).eO (fun c v _ q=>k c v q) (fun c q=>by rw [ag (aj q hn)];exact q) fun c xs q=>by rw [ag (aj q hn)];exact q
end
noncomputable def Rd (H:Hp) (a:Addr) (u:HO):Prop:=H a=some u∨∃o,H a=some (.frz o u)
theorem Rd.ok {P:Program} {w:World} {H:Hp} {h:Heap} {a:Addr} {u:HO} (r:Rd H a u) (x:HOk P w H h):aT P w H h a u:=by
 rcases r with r|⟨o,r⟩
 ·exact x a u r
 ·obtain ⟨_,q⟩:=x a _ r
  exact q
noncomputable def Mut:Option HO->Prop
 |some (.lst _)=>True
 |some (.dK _)=>True
 |some (.dT _)=>True
 |some (.set _ _)=>True
 |some (.ins _ _ _)=>True
 |some (.ext _)=>True
 |_=>False
section
variable {P:Program} {w:World} {H:Hp} {h h':Heap} {x e:Addr} {o':HO}
theorem HOk.write (ok:HOk P w H h) (mu:Mut (H x)) (he:e=x∨H e=some (.own x)) (k:∀b u,b≠e->h.get? b=some u->h'.get? b=some u) (heo:∃u,h'.get? e=some u)
  (new:aT P w (upd H x o') h' x o'):HOk P w (upd H x o') h':=fun b u q=>by
 have nown:∀c y,H c=some (.own y)->c≠x:=fun c y r z=>by subst z;rw [r] at mu;exact mu
 have ntup:∀c xs,H c=some (.tup xs)->c≠x:=fun c xs r z=>by subst z;rw [r] at mu;exact mu
 by_cases hb:b=x
 ·subst hb;rw [ao] at q;cases q;exact new
 ·rw [ag hb] at q
  by_cases hbe:b=e
  ·have q':H b=some (.own x):=by
    rcases he with z|z
    ·exact absurd (hbe.trans z) hb
    ·rw [hbe];exact z
   rw [q] at q';cases q'
   obtain ⟨v,hv⟩:=heo
   exact ⟨v,by rw [hbe];exact hv⟩
  ·refine (ok b u q).eO (fun c v hc r=>k c v ?_ r) (fun c r=>by rw [ag (nown c b r)];exact r) fun c xs r=>by rw [ag (ntup c xs r)];exact r
   rcases hc with rfl|hc
   ·exact hbe
   ·rintro rfl
    rcases he with z|z
    ·exact nown c b hc z
    ·rw [hc] at z;cases z;exact hb rfl
end
structure Un (fs ex:List Addr) (H H':Hp) (h h':Heap):Prop where
 keep:∀b o,h.get? b=some o->H b=none->b∉fs->b∉ex->h'.get? b=some o
 slot:∀b o,h.get? b=some o->H b=none->b∈fs->b∉ex->∃sl,h'.get? b=some {o with slots:=sl}
 free:∀b o,h.get? b=some o->H b=none->b∉ex->H' b=none
 there:∀b o,h.get? b=some o->b∉ex->∃o',h'.get? b=some o'
 fi:∀b xs,H b=some (.tup xs)->H' b=some (.tup xs)
 eM:∀b o u,H b=some (.frz o u)->H' b=some (.frz o u)
 e_:∀b ps,H b=some (.tbl ps)->∃more,H' b=some (.tbl (ps++more))
section
variable {fs fs' ex ex':List Addr} {H H1 H2:Hp} {h h1 h2 h':Heap} {a x e:Addr} {o:HO}
theorem Un.any (u:Un fs ex H H1 h h1) {b:Addr} {ob:Obj} (q:h.get? b=some ob) (n:H b=none) (hx:b∉ex):∃sl,h1.get? b=some {ob with slots:=sl}:=by
 by_cases hb:b∈fs
 ·exact u.slot b ob q n hb hx
 ·exact ⟨ob.slots,u.keep b ob q n hb hx⟩
theorem Un.kept (k:∀b u,h.get? b=some u->h'.get? b=some u):Un fs ex H H h h':=
 ⟨fun b ob q _ _ _=>k b ob q,fun b ob q _ _ _=>⟨ob.slots,k b ob q⟩,fun _ _ _ n _=>n,fun b ob q _=>⟨ob,k b ob q⟩,fun _ _ q=>q,fun _ _ _ q=>q,fun _ ps q=>⟨#[],by rw [q];simp⟩⟩
theorem Un.refl:Un fs ex H H h h:=Un.kept fun _ _ q=>q
theorem Un.laid (k:∀b u,h.get? b=some u->h'.get? b=some u) (hp:h.objs.size<=a) (hn:H a=none):Un fs ex H (upd H a o) h h' where
 keep:=fun b u q _ _ _=>k b u q
 slot:=fun b u q _ _ _=>⟨u.slots,k b u q⟩
 free:=fun b u q n _=>by rw [ag (Nat.ne_of_lt (Nat.lt_of_lt_of_le (Heap.lt_size q) hp))];exact n
 there:=fun b u q _=>⟨u,k b u q⟩
 fi:=fun b xs q=>by rw [ag (aj q hn)];exact q
 eM:=fun b u xs q=>by rw [ag (aj q hn)];exact q
 e_:=fun b ps q=>⟨#[],by rw [ag (aj q hn),q];simp⟩
theorem Un.write (mu:Mut (H x)) (he:e=x∨H e=some (.own x)) (k:∀b u,b≠e->h.get? b=some u->h'.get? b=some u) (heo:∃u,h'.get? e=some u):Un fs ex H (upd H x o) h h':=by
 have hx:∀b,H b=none->b≠x:=fun b n z=>by subst z;rw [n] at mu;exact mu
 have hb:∀b,H b=none->b≠e:=fun b n z=>by
  subst z
  rcases he with r|r
  ·exact hx b n r
  ·rw [n] at r;cases r
 have hm:∀b u,H b=some u->¬Mut (some u)->b≠x:=fun b u q nm z=>by subst z;rw [q] at mu;exact nm mu
 refine ⟨fun b u q n _ _=>k b u (hb b n) q,fun b u q n _ _=>⟨u.slots,k b u (hb b n) q⟩,fun b u q n _=>by rw [ag (hx b n)];exact n,fun b u q _=>?_,
  fun b xs q=>by rw [ag (hm b _ q fun z=>z)];exact q,fun b u xs q=>by rw [ag (hm b _ q fun z=>z)];exact q,fun b ps q=>⟨#[],by rw [ag (hm b _ q fun z=>z),q];simp⟩⟩
 by_cases hbe:b=e
 ·subst hbe;exact heo
 ·exact ⟨u,k b u hbe q⟩
end
noncomputable def trk (h:Heap) (H:Hp):List Addr:=(List.range h.objs.size).filter fun a=>(H a).isSome
noncomputable def fZ (h:Heap) (H:Hp):Heap:=PySem.W.hideAll h (trk h H)
theorem qx (h:Heap) (H:Hp):(fZ h H).objs.size=h.objs.size:=PySem.W.hideAll_size _ _
theorem uo {h:Heap} {H:Hp} {b:Addr} {o:Obj} (e:h.get? b=some o) (n:H b=none):(fZ h H).get? b=some o:=
 PySem.W.hideAll_get _ e fun hm=>by
  have q:(H b).isSome=true:=(List.mem_filter.mp hm).2
  rw [n] at q;simp at q
theorem wV {h:Heap} {H:Hp} {b:Addr} {o:Obj} (e:(fZ h H).get? b=some o):h.get? b=some o∧H b=none:=by
 have e':h.get? b=some o:=PySem.W.of_hideAll (trk h H) e
 refine ⟨e',?_⟩
 cases q:H b with
 |none=>rfl
 |some x=>
  have hm:b∈trk h H:=List.mem_filter.mpr ⟨List.mem_range.mpr (Heap.lt_size e'),by simp [q]⟩
  have z:(fZ h H).get? b=none:=PySem.W.hideAll_none (trk h H) hm
  rw [z] at e;cases e
noncomputable def vZ (g h:Heap) (L:Addr):List (Addr×Obj):=(List.range h.objs.size).filterMap fun a=>if a=L∨(g.get? a).isSome=true then none else (h.get? a).map fun o=>(a,o)
noncomputable def rest (g h:Heap) (L d:Addr):List (Addr×Obj):=(vZ g h L).filter fun p=>decide (p.1≠d)
end L2
namespace L2
open PySem PySem.Spec PyProof.Rows
structure Mod (K:PySem.W.Frag) (mg:Str->Option Value) (base:Heap):Prop where
 kin:K.In base
 glob:base.Ns mainGlobals mg
 blt:∃mb,base.Ns builtinsNs mb∧∀x:Str,x≠"__name__"->mb x=bootBuiltins x
 nolimit:base.NoLimit
structure Cx where
 prog:Program
 w:World
 K:PySem.W.Frag
 mg:Str->Option Value
 base:Heap
 A:Around
 N:List Str
 s₀:Shared
 H₀:Hp
 env:Env
 outer:List Env
 stack:List Env
 ex:List Addr
 fn:Str->Bool
 calm:Bool
 pn:List (Addr×Obj)
 xe:Value->Shared->Prop
noncomputable def frs (l:List Env):List Addr:=l.filterMap (·.frame)
noncomputable abbrev Cx.fs (X:Cx):List Addr:=frs X.outer
noncomputable def Vis (sc:Scope) (x:Str):Prop:=sc.names.lookup x=some .local∨sc.names.lookup x=some .cell∨sc.names.lookup x=some .free
noncomputable def Loc (sc:Scope) (x:Str):Prop:=sc.names.lookup x=some .local∨sc.names.lookup x=some .cell
noncomputable def Look (env:Env) (h:Heap) (m:Str->Option Value) (x:Str) (u:Value):Prop:=
 (env.kindOf x=some .local∧m x=some u)∨((env.kindOf x=some .cell∨env.kindOf x=some .free)∧∃c,env.cells.lookup x=some c∧h.IsCell c (some u))
structure Cx.Ok (X:Cx):Prop where
 mod:Mod X.K X.mg X.base
 kind:X.env.scope.kind=.function
 glob:X.env.globals=mainGlobals
 blt:X.env.builtins=builtinsNs
 above:X.s₀.heap.objs.size<=X.env.locals
 inj:∀x y c,X.env.cells.lookup x=some c->X.env.cells.lookup y=some c->x=y
 has:∀x,(X.env.kindOf x=some .cell∨X.env.kindOf x=some .free)->∃c,X.env.cells.lookup x=some c
 cab:∀x c,X.fn x=true->X.env.cells.lookup x=some c->X.s₀.heap.objs.size<=c
 hd:X.calm=true->X.A.handled=none
 frames:X.A.frames=some X.stack
 stk:X.stack=X.outer∨(X.stack=X.env::X.outer∧X.env.frame=some X.env.locals)
 exf:∀b∈X.ex,b≠X.env.locals∧∀x c,X.env.cells.lookup x=some c->c≠b
 bs:∀b o,X.base.get? b=some o->X.s₀.heap.get? b=some o∧X.H₀ b=none
 bsz:X.base.objs.size<=X.s₀.heap.objs.size
 fI:∀b o,X.base.get? b=some o->b∉X.ex
 hV:∀b∈X.ex,b∉X.fs
 cV:X.s₀.heap.FunFrames X.base X.outer
 frf:∀b∈X.fs,X.H₀ b=none
structure Inv (X:Cx) (pins:List (Addr×Obj)) (σ:List (Option V)) (H:Hp) (s:Shared):Prop where
 ok:X.Ok
 os:s.os=X.s₀.os
 bare:AllBare s.gens
 base:Un X.fs X.ex X.H₀ H X.s₀.heap s.heap
 loc:∃m,s.heap.Ns X.env.locals m∧∀(i:Nat) (x:Str) (v:V),X.N[i]?=some x->σ[i]?=some (some v)->Vis X.env.scope x->∃u,RelV v u∧Look X.env s.heap m x u
 cell:∀x c,X.env.cells.lookup x=some c->∃v,s.heap.IsCell c v
 free:H X.env.locals=none
 bM:∀x c,X.env.cells.lookup x=some c->H c=none
 pin:∀p∈X.pn++pins,s.heap.get? p.1=some p.2∧H p.1=none∧p.1≠X.env.locals∧p.1∉X.fs∧∀v,p.2.data≠.cell v
 hok:HOk X.prog X.w H s.heap
 len:σ.length=X.N.length
section
variable {X:Cx} {pins:List (Addr×Obj)} {σ:List (Option V)} {H H':Hp} {s:Shared} {h':Heap}
theorem Cx.Ok.CQ (ok:X.Ok) {b:Addr} {o:Obj} (e:X.base.get? b=some o):b∉X.fs:=fun hb=>by
 have:=(ok.cV.mem hb).1
 rw [e] at this;cases this
theorem Inv.bs (I:Inv X pins σ H s):∀b o,X.base.get? b=some o->s.heap.get? b=some o∧H b=none:=fun b o e=>
 ⟨I.base.keep b o (I.ok.bs b o e).1 (I.ok.bs b o e).2 (I.ok.CQ e) (I.ok.fI b o e),I.base.free b o (I.ok.bs b o e).1 (I.ok.bs b o e).2 (I.ok.fI b o e)⟩
theorem Inv.bk (I:Inv X pins σ H s):∀b o,X.base.get? b=some o->s.heap.get? b=some o:=fun b o e=>(I.bs b o e).1
theorem Inv.mod (I:Inv X pins σ H s):Mod X.K X.mg X.base:=I.ok.mod
theorem Inv.kIn (I:Inv X pins σ H s):X.K.In s.heap:=I.ok.mod.kin.keeps I.bk
theorem Inv.lt (I:Inv X pins σ H s):X.env.locals<s.heap.objs.size:=let ⟨_,hn,_⟩:=I.loc;hn.lt
theorem Inv.sz (I:Inv X pins σ H s):X.s₀.heap.objs.size<=s.heap.objs.size:=Nat.le_trans I.ok.above (Nat.le_of_lt I.lt)
theorem Inv.yY (I:Inv X pins σ H s) {a:Addr} (h:s.heap.objs.size<=a):a∉X.fs:=fun hb=>by
 obtain ⟨_,o,ho,_⟩:=I.ok.cV.mem hb
 exact absurd (Nat.lt_of_lt_of_le (Heap.lt_size ho) (Nat.le_trans I.sz h)) (Nat.lt_irrefl _)
theorem Inv.cne (I:Inv X pins σ H s):∀x c,X.env.cells.lookup x=some c->c≠X.env.locals:=fun x c e z=>by
 obtain ⟨v,o,ho,hd⟩:=I.cell x c e
 obtain ⟨m,⟨o',es,ep,ho',hd',_⟩,_⟩:=I.loc
 rw [z,ho'] at ho;cases ho;rw [hd'] at hd;cases hd
theorem Inv.cV (I:Inv X pins σ H s):s.heap.FunFrames X.base X.outer:=by
 have all:∀(l:List Env),(∀b∈frs l,b∈X.fs)->X.s₀.heap.FunFrames X.base l->s.heap.FunFrames X.base l:=by
  intro l
  induction l with
  |nil=>intro _ _;trivial
  |cons env r ih=>
   intro hs hl
   obtain ⟨hk,⟨L,o,hf,hn,ho,hd⟩,hr⟩:=hl
   have hL:L∈X.fs:=hs L (by unfold frs;rw [List.filterMap_cons,hf];exact List.mem_cons_self)
   obtain ⟨sl,e⟩:=I.base.slot L o ho (I.ok.frf L hL) hL fun z=>I.ok.hV L z hL
   exact ⟨hk,⟨L,_,hf,hn,e,hd⟩,ih (fun b hb=>hs b (by unfold frs;rw [List.filterMap_cons,hf];exact List.mem_cons_of_mem _ hb)) hr⟩
 exact all X.outer (fun _ hb=>hb) I.ok.cV
theorem Inv.stack (I:Inv X pins σ H s):s.heap.FunFrames X.base X.stack:=by
 rcases I.ok.stk with e|⟨e,hf⟩
 ·rw [e];exact I.cV
 ·rw [e]
  obtain ⟨m,hn,_⟩:=I.loc
  refine .cons (by rw [I.ok.kind];decide) hf hn ?_ I.cV
  exact Heap.get?_none_of_le (Nat.le_trans I.ok.bsz I.ok.above)
theorem Inv.fy (I:Inv X pins σ H s):∀b∈frs X.stack,b∈X.env.locals::X.fs:=fun b hb=>by
 rcases I.ok.stk with e|⟨e,hf⟩
 ·rw [e] at hb;exact List.mem_cons_of_mem _ hb
 ·rw [e] at hb
  unfold frs at hb
  rw [List.filterMap_cons,hf] at hb
  exact hb
theorem Inv.jK (I:Inv X pins σ H s):∀b∈frs X.stack,H b=none:=fun b hb=>by
 rcases List.mem_cons.mp (I.fy b hb) with e|hb
 ·rw [e];exact I.free
 ·obtain ⟨_,o,ho,_⟩:=I.ok.cV.mem hb
  exact I.base.free b o ho (I.ok.frf b hb) fun z=>I.ok.hV b z hb
theorem Inv.step {g':Array GenState} {t':Nat} {d':Drawn} {ch:List Addr} (I:Inv X pins σ H s)
  (hch:∀b∈ch,(b∈X.ex∨X.s₀.heap.objs.size<=b)∧b≠X.env.locals∧(∀x c,X.env.cells.lookup x=some c->c≠b)∧∀p∈X.pn++pins,p.1≠b)
  (keep:∀b o,b≠X.env.locals->b∉X.fs->b∉ch->s.heap.get? b=some o->H b=none->h'.get? b=some o)
  (slot:∀b o,b≠X.env.locals->b∈X.fs->b∉ch->s.heap.get? b=some o->H b=none->∃sl,h'.get? b=some {o with slots:=sl}) (free:∀b o,b∉ch->s.heap.get? b=some o->H b=none->H' b=none)
  (there:∀b o,b∉ch->s.heap.get? b=some o->∃o',h'.get? b=some o')
  (fi:∀b xs,H b=some (.tup xs)->H' b=some (.tup xs)) (eM:∀b o u,H b=some (.frz o u)->H' b=some (.frz o u)) (e_:∀b ps,H b=some (.tbl ps)->∃more,H' b=some (.tbl (ps++more)))
  (ns:∀m,s.heap.Ns X.env.locals m->h'.Ns X.env.locals m) (hok:HOk X.prog X.w H' h') (hg:AllBare g'):
  Inv X pins σ H' {s with heap:=h',gens:=g',drawn:=d',toks:=t'}:=by
 have neL:∀b o,X.s₀.heap.get? b=some o->b≠X.env.locals:=fun b o e=>Nat.ne_of_lt (Nat.lt_of_lt_of_le (Heap.lt_size e) I.ok.above)
 have neC:∀b o,X.s₀.heap.get? b=some o->b∉X.ex->b∉ch:=fun b o e hx hb=>by
  rcases (hch b hb).1 with z|z
  ·exact hx z
  ·exact absurd (Nat.lt_of_lt_of_le (Heap.lt_size e) z) (Nat.lt_irrefl _)
 have cellK:∀x c,X.env.cells.lookup x=some c->∀v,s.heap.IsCell c v->h'.IsCell c v:=fun x c e v ⟨o,ho,hd⟩=>by
  have nch:c∉ch:=fun z=>(hch c z).2.2.1 x c e rfl
  by_cases hc:c∈X.fs
  ·obtain ⟨sl,q⟩:=slot c o (I.cne x c e) hc nch ho (I.bM x c e)
   exact ⟨_,q,hd⟩
  ·exact ⟨o,keep c o (I.cne x c e) hc nch ho (I.bM x c e),hd⟩
 refine ⟨I.ok,I.os,hg,⟨fun b o e n hb hx=>?_,fun b o e n hb hx=>?_,fun b o e n hx=>?_,fun b o e hx=>?_,fun b xs e=>fi b xs (I.base.fi b xs e),fun b o xs e=>eM b o xs (I.base.eM b o xs e),fun b ps e=>?_⟩,?_,fun x c e=>?_,?_,fun x c e=>?_,fun p hp=>?_,hok,I.len⟩
 ·exact keep b o (neL b o e) hb (neC b o e hx) (I.base.keep b o e n hb hx) (I.base.free b o e n hx)
 ·obtain ⟨sl,e1⟩:=I.base.slot b o e n hb hx
  obtain ⟨sl',e2⟩:=slot b _ (neL b o e) hb (neC b o e hx) e1 (I.base.free b o e n hx)
  exact ⟨sl',e2⟩
 ·obtain ⟨o',e1⟩:=I.base.there b o e hx
  exact free b o' (neC b o e hx) e1 (I.base.free b o e n hx)
 ·obtain ⟨o',e1⟩:=I.base.there b o e hx
  exact there b o' (neC b o e hx) e1
 ·obtain ⟨m1,e1⟩:=I.base.e_ b ps e
  obtain ⟨m2,e2⟩:=e_ b _ e1
  exact ⟨m1++m2,by rw [e2,Array.append_assoc]⟩
 ·obtain ⟨m,hn,hl⟩:=I.loc
  refine ⟨m,ns m hn,fun i x v e1 e2 e3=>?_⟩
  obtain ⟨u,r,l⟩:=hl i x v e1 e2 e3
  refine ⟨u,r,?_⟩
  rcases l with l|⟨k,c,e,z⟩
  ·exact .inl l
  ·exact .inr ⟨k,c,e,cellK x c e _ z⟩
 ·obtain ⟨v,z⟩:=I.cell x c e
  exact ⟨v,cellK x c e v z⟩
 ·obtain ⟨m,⟨o,_,_,ho,_⟩,_⟩:=I.loc
  exact free _ o (fun z=>(hch _ z).2.1 rfl) ho I.free
 ·obtain ⟨v,o,ho,hd⟩:=I.cell x c e
  exact free c o (fun z=>(hch c z).2.2.1 x c e rfl) ho (I.bM x c e)
 ·obtain ⟨e,n,ne,nf,d⟩:=I.pin p hp
  have nch:p.1∉ch:=fun z=>(hch p.1 z).2.2.2 p hp rfl
  exact ⟨keep p.1 p.2 ne nf nch e n,free p.1 p.2 nch e n,ne,nf,d⟩
theorem Inv.un {t':Nat} (I:Inv X pins σ H s) (u:Un X.fs [] H H' s.heap h') (hok:HOk X.prog X.w H' h'):Inv X pins σ H' {s with heap:=h',toks:=t'}:=by
 obtain ⟨m,⟨o,es,ep,ho,r⟩,_⟩:=id I.loc
 obtain ⟨sl,hL⟩:=u.any ho I.free (by simp)
 exact I.step (g':=s.gens) (d':=s.drawn) (ch:=[]) (fun _ z=>nomatch z) (fun b o _ hb _ e n=>u.keep b o e n hb (by simp)) (fun b o _ hb _ e n=>u.slot b o e n hb (by simp)) (fun b o _ e n=>u.free b o e n (by simp)) (fun b o _ e=>u.there b o e (by simp)) u.fi u.eM u.e_ (fun m' hm=>by
  obtain ⟨o',es',ep',ho',r'⟩:=hm
  rw [ho] at ho';cases ho'
  exact ⟨_,es',ep',hL,r'⟩) hok I.bare
theorem Inv.call {g':Array GenState} {t':Nat} {d':Drawn} {ch:List Addr} (I:Inv X pins σ H s) (u:Un (frs X.stack) ch H H' s.heap h') (hok:HOk X.prog X.w H' h') (hg:AllBare g')
  (hch:∀b∈ch,(b∈X.ex∨X.s₀.heap.objs.size<=b)∧b≠X.env.locals∧(∀x c,X.env.cells.lookup x=some c->c≠b)∧∀p∈X.pn++pins,p.1≠b):
  Inv X pins σ H' {s with heap:=h',gens:=g',drawn:=d',toks:=t'}:=by
 obtain ⟨m,⟨o,es,ep,ho,r⟩,_⟩:=id I.loc
 obtain ⟨sl,hL⟩:=u.any ho I.free fun z=>(hch _ z).2.1 rfl
 exact I.step (ch:=ch) hch (fun b o hL hb hc e n=>u.keep b o e n (fun z=>(List.mem_cons.mp (I.fy b z)).elim hL hb) hc) (fun b o _ _ hc e n=>u.any e n hc) (fun b o hc e n=>u.free b o e n hc) (fun b o hc e=>u.there b o e hc) u.fi u.eM u.e_ (fun m' hm=>by
  obtain ⟨o',es',ep',ho',r'⟩:=hm
  rw [ho] at ho';cases ho'
  exact ⟨_,es',ep',hL,r'⟩) hok hg
theorem Inv.turned {t':Nat} {it:Addr} (I:Inv X pins σ H s) (k:∀b o,b≠it->s.heap.get? b=some o->h'.get? b=some o) (hn:H it=none) (hL:it≠X.env.locals)
  (h1:it∈X.ex∨X.s₀.heap.objs.size<=it) (h2:∀x c,X.env.cells.lookup x=some c->c≠it) (h3:∀p∈X.pn++pins,p.1≠it):Inv X pins σ H {s with heap:=h',toks:=t'}:=by
 have nit:∀b u,H b=some u->b≠it:=fun b u e z=>by rw [z,hn] at e;cases e
 refine I.step (g':=s.gens) (d':=s.drawn) (ch:=[it]) (fun b hb=>?_) (fun b o _ _ hc e _=>k b o (fun z=>hc (by simp [z])) e) (fun b o _ _ hc e _=>⟨o.slots,k b o (fun z=>hc (by simp [z])) e⟩) (fun _ _ _ _ n=>n)
  (fun b o hc e=>⟨o,k b o (fun z=>hc (by simp [z])) e⟩) (fun _ _ e=>e) (fun _ _ _ e=>e) (fun b ps e=>⟨#[],by rw [e];simp⟩) (fun m hm=>?_) (fun b u e=>?_) I.bare
 ·have e:b=it:=by simpa using hb
  subst e
  exact ⟨h1,hL,h2,h3⟩
 ·obtain ⟨o,es,ep,ho,r⟩:=hm
  exact ⟨o,es,ep,k _ o (Ne.symm hL) ho,r⟩
 ·refine (I.hok b u e).eO (fun c v hc q=>k c v ?_ q) (fun _ q=>q) fun _ _ q=>q
  rcases hc with z|z
  ·rw [z];exact nit b u e
  ·exact nit c _ z
theorem Inv.tok (I:Inv X pins σ H s) (t:Nat):Inv X pins σ H {s with toks:=t}:=I.un (h':=s.heap) (t':=t) Un.refl I.hok
theorem Inv.kept {t':Nat} (I:Inv X pins σ H s) (k:∀b u,s.heap.get? b=some u->h'.get? b=some u):Inv X pins σ H {s with heap:=h',toks:=t'}:=I.un (Un.kept k) (I.hok.kept k)
theorem Inv.laid {a:Addr} {o:HO} {t':Nat} (I:Inv X pins σ H s) (k:∀b u,s.heap.get? b=some u->h'.get? b=some u) (hp:s.heap.objs.size<=a) (new:aT X.prog X.w (upd H a o) h' a o):
  Inv X pins σ (upd H a o) {s with heap:=h',toks:=t'}:=I.un (Un.laid k hp (I.hok.fresh hp)) (I.hok.laid k hp new)
theorem Inv.write {x e:Addr} {o:HO} {t':Nat} (I:Inv X pins σ H s) (mu:Mut (H x)) (he:e=x∨H e=some (.own x)) (k:∀b u,b≠e->s.heap.get? b=some u->h'.get? b=some u) (heo:∃u,h'.get? e=some u)
  (new:aT X.prog X.w (upd H x o) h' x o):Inv X pins σ (upd H x o) {s with heap:=h',toks:=t'}:=I.un (Un.write mu he k heo) (I.hok.write mu he k heo new)
theorem Inv.weak {σ':List (Option V)} (I:Inv X pins σ H s) (hl:σ'.length=σ.length) (w:∀(i:Nat) v,σ'[i]?=some (some v)->σ[i]?=some (some v)):Inv X pins σ' H s:=
 ⟨I.ok,I.os,I.bare,I.base,let ⟨m,hn,hl'⟩:=I.loc;⟨m,hn,fun i x v e1 e2 e3=>hl' i x v e1 (w i v e2) e3⟩,I.cell,I.free,I.bM,I.pin,I.hok,hl.trans I.len⟩
theorem Inv.jq {pins':List (Addr×Obj)} (I:Inv X pins σ H s) (h:∀p∈pins',s.heap.get? p.1=some p.2∧H p.1=none∧p.1≠X.env.locals∧p.1∉X.fs∧∀v,p.2.data≠.cell v):Inv X pins' σ H s:=
 ⟨I.ok,I.os,I.bare,I.base,I.loc,I.cell,I.free,I.bM,fun p hp=>(List.mem_append.mp hp).elim (fun z=>I.pin p (List.mem_append_left _ z)) (h p),I.hok,I.len⟩
theorem il {N:List Str} (hN:N.Nodup) {i j:Nat} {x:Str} (a:N[i]?=some x) (b:N[j]?=some x):i=j:=by
 obtain ⟨h1,e1⟩:=List.getElem?_eq_some_iff.mp a
 obtain ⟨h2,e2⟩:=List.getElem?_eq_some_iff.mp b
 exact (List.getElem_inj hN).mp (e1.trans e2.symm)
theorem jU {M:Model} {A:Around} {E:Value->Shared->Prop} {i:Nat} {x:Str} {v:V} {u:Value} {Q:Unit->Shared->Prop} (I:Inv X pins σ H s) (hN:X.N.Nodup) (hi:X.N[i]?=some x) (hx:Loc X.env.scope x) (r:RelV v u)
  (h:∀s',Inv X pins (σ.set i (some v)) H s'->(∃a,Heap.SameBut a s.heap s'.heap∧(a=X.env.locals∨X.env.cells.lookup x=some a))->Q () s') (hf:X.fn x=true∨X.env.scope.names.lookup x=some .local:=by first|exact .inl rfl|exact .inr rfl|assumption):wpAny M A (storeName X.env x u) Q E s:=by
 obtain ⟨m,hn,hl⟩:=id I.loc
 have hcls:(X.env.scope.kind==.class||(X.env.scope.kind==.module&&X.env.locals !=X.env.globals))=false:=by rw [I.ok.kind];rfl
 have hiσ:i<σ.length:=by rw [I.len];exact (List.getElem?_eq_some_iff.mp hi).1
 have cne:=I.cne
 have tracked:∀{a:Addr} {h':Heap},(∃o,s.heap.get? a=some o∧H a=none)->Heap.SameBut a s.heap h'->HOk X.prog X.w H h':=fun {a h'} ha hs b ob e=>by
  obtain ⟨_,_,hfree⟩:=ha
  refine (I.hok b ob e).eO (fun c w' hc q=>(hs.2 c ?_).trans q) (fun _ q=>q) fun _ _ q=>q
  rintro rfl
  rcases hc with rfl|hc
  ·rw [hfree] at e;cases e
  ·rw [hfree] at hc;cases hc
 rcases hx with hk|hk
 ·refine wpAny_storeName_local hk hn (fun h' hn' hs=>?_) hcls
  obtain ⟨oL,_,_,hoL,_⟩:=id hn
  refine h _ ⟨I.ok,I.os,I.bare,⟨fun b o e n hb hx=>?_,fun b o e n hb hx=>?_,I.base.free,fun b o e hx=>?_,I.base.fi,I.base.eM,I.base.e_⟩,⟨_,hn',fun j y v' e1 e2 e3=>?_⟩,fun y c e=>?_,I.free,I.bM,fun p hp=>?_,tracked ⟨oL,hoL,I.free⟩ hs,by simpa using I.len⟩ ⟨_,hs,.inl rfl⟩
  ·exact (hs.2 b (Nat.ne_of_lt (Nat.lt_of_lt_of_le (Heap.lt_size e) I.ok.above))).trans (I.base.keep b o e n hb hx)
  ·obtain ⟨sl,e1⟩:=I.base.slot b o e n hb hx
   exact ⟨sl,(hs.2 b (Nat.ne_of_lt (Nat.lt_of_lt_of_le (Heap.lt_size e) I.ok.above))).trans e1⟩
  ·obtain ⟨o',e1⟩:=I.base.there b o e hx
   exact ⟨o',(hs.2 b (Nat.ne_of_lt (Nat.lt_of_lt_of_le (Heap.lt_size e) I.ok.above))).trans e1⟩
  ·by_cases hj:j=i
   ·subst hj
    rw [hi] at e1;cases e1
    rw [List.getElem?_set_self hiσ] at e2
    cases e2
    exact ⟨u,r,.inl ⟨hk,by simp⟩⟩
   ·rw [List.getElem?_set_ne (Ne.symm hj)] at e2
    obtain ⟨u',r',q⟩:=hl j y v' e1 e2 e3
    refine ⟨u',r',?_⟩
    rcases q with ⟨k,e⟩|⟨k,c,e,z⟩
    ·refine .inl ⟨k,?_⟩
     have:y≠x:=fun e=>hj (il hN e1 (e▸hi))
     simp [this,e]
    ·exact .inr ⟨k,c,e,z.sameBut hs (cne y c e)⟩
  ·obtain ⟨w',z⟩:=I.cell y c e
   exact ⟨w',z.sameBut hs (cne y c e)⟩
  ·obtain ⟨e,n,ne,nf,d⟩:=I.pin p hp
   exact ⟨(hs.2 p.1 ne).trans e,n,ne,nf,d⟩
 ·have hfn:X.fn x=true:=by
   rcases hf with z|z
   ·exact z
   ·rw [z] at hk;cases hk
  obtain ⟨c,hc⟩:=I.ok.has x (.inl hk)
  obtain ⟨w',z⟩:=I.cell x c hc
  refine wpAny_storeName_cell I.ok.kind hk hc z (fun h' hc' hs=>?_)
  obtain ⟨oc,hoc,hocd⟩:=id z
  refine h {s with heap:=h'} ⟨I.ok,I.os,I.bare,⟨fun b o e n hb hx=>?_,fun b o e n hb hx=>?_,I.base.free,fun b o e hx=>?_,I.base.fi,I.base.eM,I.base.e_⟩,⟨m,hn.sameBut hs (Ne.symm (cne x c hc)),fun j y v' e1 e2 e3=>?_⟩,fun y c' e=>?_,I.free,I.bM,fun p hp=>?_,tracked ⟨oc,hoc,I.bM x c hc⟩ hs,by simpa using I.len⟩ ⟨c,hs,.inr hc⟩
  ·exact (hs.2 b (Nat.ne_of_lt (Nat.lt_of_lt_of_le (Heap.lt_size e) (I.ok.cab x c hfn hc)))).trans (I.base.keep b o e n hb hx)
  ·obtain ⟨sl,e1⟩:=I.base.slot b o e n hb hx
   exact ⟨sl,(hs.2 b (Nat.ne_of_lt (Nat.lt_of_lt_of_le (Heap.lt_size e) (I.ok.cab x c hfn hc)))).trans e1⟩
  ·obtain ⟨o',e1⟩:=I.base.there b o e hx
   exact ⟨o',(hs.2 b (Nat.ne_of_lt (Nat.lt_of_lt_of_le (Heap.lt_size e) (I.ok.cab x c hfn hc)))).trans e1⟩
  ·by_cases hj:j=i
   ·subst hj
    rw [hi] at e1;cases e1
    rw [List.getElem?_set_self hiσ] at e2
    cases e2
    exact ⟨u,r,.inr ⟨.inl hk,c,hc,hc'⟩⟩
   ·rw [List.getElem?_set_ne (Ne.symm hj)] at e2
    obtain ⟨u',r',q⟩:=hl j y v' e1 e2 e3
    refine ⟨u',r',?_⟩
    rcases q with q|⟨k,c',e,z'⟩
    ·exact .inl q
    ·refine .inr ⟨k,c',e,z'.sameBut hs ?_⟩
     rintro rfl
     exact hj (il hN e1 (I.ok.inj _ _ _ e hc▸hi))
  ·by_cases hcc:c'=c
   ·subst hcc;exact ⟨_,hc'⟩
   ·obtain ⟨w2,z2⟩:=I.cell y c' e
    exact ⟨w2,z2.sameBut hs hcc⟩
  ·obtain ⟨e,n,ne,nf,d⟩:=I.pin p hp
   refine ⟨(hs.2 p.1 ?_).trans e,n,ne,nf,d⟩
   intro q
   rw [q,hoc] at e
   have q':oc=p.2:=Option.some.inj e
   exact d w' (by rw [←q'];exact hocd)
theorem dE {M:Model} {A:Around} {E:Value->Shared->Prop} {i:Nat} {x:Str} {v:V} {u:Value} {Q:Unit->Shared->Prop} (I:Inv X pins σ H s) (hN:X.N.Nodup) (hi:X.N[i]?=some x) (hx:Loc X.env.scope x) (r:RelV v u)
  (h:∀s',Inv X pins (σ.set i (some v)) H s'->Q () s') (hf:X.fn x=true∨X.env.scope.names.lookup x=some .local:=by first|exact .inl rfl|exact .inr rfl|assumption):wpAny M A (storeName X.env x u) Q E s:=
 jU I hN hi hx r (fun s' I' _=>h s' I') hf
theorem Inv.uA {s':Shared} {ch:List Addr} (I:Inv X pins σ H s) (ho:s'.os=s.os) (u:Un (frs X.stack) ch H H' s.heap s'.heap) (hok:HOk X.prog X.w H' s'.heap) (hg:AllBare s'.gens)
  (hch:∀b∈ch,(b∈X.ex∨X.s₀.heap.objs.size<=b)∧b≠X.env.locals∧(∀x c,X.env.cells.lookup x=some c->c≠b)∧∀p∈X.pn++pins,p.1≠b):Inv X pins σ H' s':=by
 obtain ⟨h',g',d',t',o'⟩:=s'
 have e:o'=s.os:=ho
 subst e
 exact I.call (g':=g') (t':=t') (d':=d') u hok hg hch
end
noncomputable abbrev XK:=Value->Option Addr->Hp->Prop
noncomputable abbrev St:=List (Option V)
noncomputable abbrev VK:=V->Hp->Prop
noncomputable abbrev TE:=St->Hp->VK->Prop
noncomputable abbrev TT:=St->Hp->(Bool->Hp->Prop)->Prop
noncomputable abbrev TA:=St->Hp->(List V->Hp->Prop)->Prop
structure Ends where
 nx:St->Hp->Prop
 rt:VK
 bk:St->Hp->Prop:=fun _ _=>False
 ct:St->Hp->Prop:=fun _ _=>False
noncomputable abbrev TS:=Ends->St->Hp->Prop
noncomputable def EP (X:Cx) (pins:List (Addr×Obj)) (σ:St) (Q:VK) (u:Value) (s':Shared):Prop:=∃v H',Inv X pins σ H' s'∧RelV v u∧Q v H'
noncomputable def TP (X:Cx) (pins:List (Addr×Obj)) (σ:St) (Q:Bool->Hp->Prop) (b:Bool) (s':Shared):Prop:=∃H',Inv X pins σ H' s'∧Q b H'
noncomputable def AP (X:Cx) (pins:List (Addr×Obj)) (σ:St) (Q:List V->Hp->Prop) (us:List Value) (s':Shared):Prop:=∃vs H',Inv X pins σ H' s'∧Vals vs us∧Q vs H'
noncomputable def SP (X:Cx) (pins:List (Addr×Obj)) (D:Ends) (f:Flow) (s':Shared):Prop:=
 match f with
 |.next=>∃σ' H',Inv X pins σ' H' s'∧D.nx σ' H'
 |.brk=>∃σ' H',Inv X pins σ' H' s'∧D.bk σ' H'
 |.cont=>∃σ' H',Inv X pins σ' H' s'∧D.ct σ' H'
 |.ret u=>∃v σ' H',Inv X pins σ' H' s'∧RelV v u∧D.rt v H'
noncomputable def PE (X:Cx) (e:Expr) (t:TE):Prop:=
 ∀(pins:List (Addr×Obj)) (s:Shared) (σ:St) (H:Hp) (Q:VK),Inv X pins σ H s->t σ H Q->wpAny (model X.prog X.w) X.A (eval e X.env) (EP X pins σ Q) X.xe s
noncomputable def PT (X:Cx) (e:Expr) (t:TT):Prop:=
 ∀(pins:List (Addr×Obj)) (s:Shared) (σ:St) (H:Hp) (Q:Bool->Hp->Prop),Inv X pins σ H s->t σ H Q->wpAny (model X.prog X.w) X.A (isTrue e X.env (eval e X.env)) (TP X pins σ Q) X.xe s
noncomputable def PW (X:Cx) (e:Expr) (t:TT):Prop:=
 ∀(whole:Sem Value) (pins:List (Addr×Obj)) (s:Shared) (σ:St) (H:Hp) (Q:Bool->Hp->Prop),Inv X pins σ H s->t σ H Q->wpAny (model X.prog X.w) X.A (isTrue e X.env whole) (TP X pins σ Q) X.xe s
theorem PW.pt {X:Cx} {e:Expr} {t:TT} (h:PW X e t):PT X e t:=h _
noncomputable def PA (X:Cx) (es:List Expr) (t:TA):Prop:=
 ∀(pos:Pos) (pins:List (Addr×Obj)) (s:Shared) (σ:St) (H:Hp) (Q:List V->Hp->Prop),Inv X pins σ H s->t σ H Q->wpAny (model X.prog X.w) X.A (spliced (backTo pos (starEach es X.env))) (AP X pins σ Q) X.xe s
noncomputable def PS (X:Cx) (st:Stmt) (t:TS):Prop:=
 ∀(pins:List (Addr×Obj)) (s:Shared) (σ:St) (H:Hp) (D:Ends),Inv X pins σ H s->t D σ H->wpAny (model X.prog X.w) X.A (exec st X.env) (SP X pins D) X.xe s
noncomputable def PSs (X:Cx) (st:List Stmt) (t:TS):Prop:=
 ∀(pins:List (Addr×Obj)) (s:Shared) (σ:St) (H:Hp) (D:Ends),Inv X pins σ H s->t D σ H->wpAny (model X.prog X.w) X.A (execs st X.env) (SP X pins D) X.xe s
theorem thn {α:Type} {t:Sem α} {Q Q':α->Shared->Prop} {M:Model} {A:Around} {E:Value->Shared->Prop} {s:Shared} (h:wpAny M A t Q E s) (hQ:∀a s,Q a s->Q' a s):wpAny M A t Q' E s:=wpAny_mono h hQ fun _ _ x=>x
end L2
namespace L2
open PySem PySem.Spec PyProof.Rows
section
variable {X:Cx}
noncomputable def CC (i:Nat):TE:=fun σ H Q=>∃v,σ[i]?=some (some v)∧Q v H
noncomputable def tC (v:V):TE:=fun _ H Q=>Q v H
theorem dM {i:Nat} {x:Str} {pos:Pos} (hN:X.N[i]?=some x) (hv:Vis X.env.scope x) (hd:(x==("__debug__":Str))=false:=by decide) (hcd:(x==("__classdict__":Str))=false:=by decide):PE X (.Name x pos) (CC i):=by
 intro pins s σ H Q I h
 obtain ⟨v,e,h⟩:=h
 obtain ⟨m,hn,hl⟩:=I.loc
 obtain ⟨u,r,l⟩:=hl i x v hN e hv
 have fin:EP X pins σ Q u s:=⟨v,H,I,r,h⟩
 rcases l with ⟨hk,hm⟩|⟨hk,c,hc,hcell⟩
 ·exact wpAny_Name (wpAny_loadName_local I.ok.kind hk hn hm fin) hd
 ·rcases hk with hk|hk
  ·exact wpAny_Name (wpAny_loadName_cell I.ok.kind hk hc hcell fin) hd
  ·exact wpAny_Name (wpAny_loadName_free I.ok.kind hk hc hcell fin hcd) hd
theorem Ax {i j pos}:PE X (.Constant (.int i) j pos) (tC (.int i)):=fun _ _ _ H _ I h=>wpAny_Constant_int ⟨.int i,H,I.tok _,⟨_,rfl⟩,h⟩
theorem Bo {b j pos}:PE X (.Constant (.bool b) j pos) (tC (.bl b)):=fun _ _ _ H _ I h=>Constant_bool ⟨.bl b,H,I,rfl,h⟩
theorem y9 {j pos}:PE X (.Constant .none j pos) (tC .non):=fun _ _ _ H _ I h=>Constant_none ⟨.non,H,I,rfl,h⟩
theorem As {x j pos}:PE X (.Constant (.str x) j pos) (tC (.str x)):=fun _ _ _ H _ I h=>Calls.Constant_str ⟨.str x,H,I.tok _,⟨_,rfl⟩,h⟩
noncomputable def Gl (X:Cx) (x:Str):Prop:=X.env.kindOf x=some .globalImplicit
theorem c4 {E:Value->Shared->Prop} {pins:List (Addr×Obj)} {s:Shared} {σ:St} {H:Hp} {x:Str} {u:Value} {pos:Pos} {Q:Value->Shared->Prop} (I:Inv X pins σ H s) (hg:Gl X x) (hm:X.mg x=some u) (h:Q u s)
  (hd:(x==("__debug__":Str))=false:=by decide):wpAny (model X.prog X.w) X.A (eval (.Name x pos) X.env) Q E s:=
 Calls.Name_function_global I.ok.kind hg (Calls.loadGlobal_global (by rw [I.ok.glob];exact I.mod.glob.keeps I.bk) hm h) hd
theorem dR {E:Value->Shared->Prop} {pins:List (Addr×Obj)} {s:Shared} {σ:St} {H:Hp} {x:Str} {u:Value} {pos:Pos} {Q:Value->Shared->Prop} (I:Inv X pins σ H s) (hg:Gl X x) (hm:X.mg x=none) (hv:bootBuiltins x=some u) (h:Q u s)
  (hn:x≠"__name__":=by decide) (hd:(x==("__debug__":Str))=false:=by decide):wpAny (model X.prog X.w) X.A (eval (.Name x pos) X.env) Q E s:=by
 obtain ⟨mb,h1,h2⟩:=I.mod.blt
 exact Calls.Name_function_global I.ok.kind hg (Calls.loadGlobal_builtin (by rw [I.ok.glob];exact I.mod.glob.keeps I.bk) hm (by rw [I.ok.blt];exact h1.keeps I.bk) ((h2 x hn).trans hv) h) hd
theorem nK {x:Str} {v:V} {u:Value} {pos:Pos} (hg:Gl X x) (hm:X.mg x=some u) (r:RelV v u) (hd:(x==("__debug__":Str))=false:=by decide):PE X (.Name x pos) (tC v):=
 fun _ _ _ H _ I h=>c4 I hg hm ⟨v,H,I,r,h⟩ hd
theorem xj {x:Str} {v:V} {u:Value} {pos:Pos} (hg:Gl X x) (hm:X.mg x=none) (hv:bootBuiltins x=some u) (r:RelV v u) (hn:x≠"__name__":=by decide) (hd:(x==("__debug__":Str))=false:=by decide):PE X (.Name x pos) (tC v):=
 fun _ _ _ H _ I h=>dR I hg hm hv ⟨v,H,I,r,h⟩ hn hd
variable {a b:Expr} {ta tb:TE} {pos:Pos}
noncomputable def tB (t:TE):TT:=fun σ H Q=>t σ H fun x H1=>∃c,x=.bl c∧Q c H1
theorem yh {e:Expr} {t:TE} (h:PE X e t) (he:∀whole,isTrue e X.env whole=(do let v←whole;standAt e.pos;holding [v] (truthy v)):=by intro _;rfl):PT X e (tB t):=by
 intro pins s σ H Q I hw
 refine isTrue_plain (thn (h pins s σ H _ I hw) fun v s1 ⟨x,H1,I1,r1,q1⟩=>?_) (he _)
 obtain ⟨d,rfl,q⟩:=q1
 cases r1
 exact wpAny_truthy_bool ⟨H1,I1,q⟩
variable {tA tB':TT} {rest:List Expr}
noncomputable def Ca (t u:TT):TT:=fun σ H Q=>t σ H fun c H1=>if c=true then u σ H1 Q else Q false H1
noncomputable def tOr (t u:TT):TT:=fun σ H Q=>t σ H fun c H1=>if c=true then Q true H1 else u σ H1 Q
noncomputable def Cj (t:TT):TT:=fun σ H Q=>t σ H fun c H1=>Q (!c) H1
theorem wq (ha:PT X a tA):PW X (.BoolOp .And [a] pos) tA:=by
 intro wh pins s σ H Q I h
 refine isTrue_and (thn (ha pins s σ H Q I h) fun c s1 e=>?_)
 cases c with
 |true=>exact isTrue_and_nil e
 |false=>exact e
theorem Aa (ha:PT X a tA):PW X (.BoolOp .Or [a] pos) tA:=by
 intro wh pins s σ H Q I h
 refine isTrue_or (thn (ha pins s σ H Q I h) fun c s1 e=>?_)
 cases c with
 |false=>exact isTrue_or_nil e
 |true=>exact e
theorem rD (ha:PT X a tA) (hb:PW X (.BoolOp .And (b::rest) pos) tB'):PW X (.BoolOp .And (a::b::rest) pos) (Ca tA tB'):=by
 intro wh pins s σ H Q I h
 refine isTrue_and (thn (ha pins s σ H _ I h) fun c s1 ⟨H1,I1,q1⟩=>?_)
 cases c with
 |true=>exact hb wh pins s1 σ H1 Q I1 q1
 |false=>exact ⟨H1,I1,q1⟩
theorem uT (ha:PT X a tA) (hb:PW X (.BoolOp .Or (b::rest) pos) tB'):PW X (.BoolOp .Or (a::b::rest) pos) (tOr tA tB'):=by
 intro wh pins s σ H Q I h
 refine isTrue_or (thn (ha pins s σ H _ I h) fun c s1 ⟨H1,I1,q1⟩=>?_)
 cases c with
 |true=>exact ⟨H1,I1,q1⟩
 |false=>exact hb wh pins s1 σ H1 Q I1 q1
theorem yo (ha:PT X a tA):PT X (.UnaryOp .Not a pos) (Cj tA):=by
 intro pins s σ H Q I h
 exact isTrue_not (ha pins s σ H (fun c H1=>Q (!c) H1) I h)
noncomputable def AW (ta tb:TE):TE:=fun σ H Q=>ta σ H fun x H1=>∃c,x=.bl c∧if c=true then tb σ H1 Q else Q (.bl false) H1
noncomputable def B0 (ta tb:TE):TE:=fun σ H Q=>ta σ H fun x H1=>∃c,x=.bl c∧if c=true then Q (.bl true) H1 else tb σ H1 Q
noncomputable def AM (ta:TE):TE:=fun σ H Q=>ta σ H fun x H1=>∃c,x=.bl c∧Q (.bl (!c)) H1
theorem yZ {op} {t:TE} (h:PE X a t):PE X (.BoolOp op [a] pos) t:=fun pins s σ H Q I hw=>BoolOp_one (h pins s σ H Q I hw)
theorem rA (ha:PE X a ta) (hb:PE X (.BoolOp .And (b::rest) pos) tb):PE X (.BoolOp .And (a::b::rest) pos) (AW ta tb):=by
 intro pins s σ H Q I h
 refine BoolOp_and (thn (ha pins s σ H _ I h) fun v s1 ⟨x,H1,I1,r1,q1⟩=>?_)
 obtain ⟨c,rfl,q1⟩:=q1
 cases r1
 refine wpAny_truthy_bool ?_
 cases c with
 |true=>exact hb pins s1 σ H1 Q I1 q1
 |false=>exact ⟨.bl false,H1,I1,rfl,q1⟩
theorem u4 (ha:PE X a ta) (hb:PE X (.BoolOp .Or (b::rest) pos) tb):PE X (.BoolOp .Or (a::b::rest) pos) (B0 ta tb):=by
 intro pins s σ H Q I h
 refine BoolOp_or (thn (ha pins s σ H _ I h) fun v s1 ⟨x,H1,I1,r1,q1⟩=>?_)
 obtain ⟨c,rfl,q1⟩:=q1
 cases r1
 refine wpAny_truthy_bool ?_
 cases c with
 |false=>exact hb pins s1 σ H1 Q I1 q1
 |true=>exact ⟨.bl true,H1,I1,rfl,q1⟩
theorem yt (ha:PE X a ta):PE X (.UnaryOp .Not a pos) (AM ta):=by
 intro pins s σ H Q I h
 refine UnaryOp_ (thn (ha pins s σ H _ I h) fun v s1 ⟨x,H1,I1,r1,q1⟩=>?_)
 obtain ⟨c,rfl,q1⟩:=q1
 cases r1
 exact not_of (wpAny_truthy_bool ⟨.bl (!c),H1,I1,rfl,q1⟩)
noncomputable def tIf (t:TT) (ta tb:TE):TE:=fun σ H Q=>t σ H fun c H1=>if c=true then ta σ H1 Q else tb σ H1 Q
theorem mE {c:Expr} (hc:PT X c tA) (ha:PE X a ta) (hb:PE X b tb):PE X (.IfExp c a b pos) (tIf tA ta tb):=by
 intro pins s σ H Q I h
 refine wpAny_IfExp (thn (hc pins s σ H _ I h) fun d s1 ⟨H1,I1,q1⟩=>?_)
 cases d with
 |true=>exact ha pins s1 σ H1 Q I1 q1
 |false=>exact hb pins s1 σ H1 Q I1 q1
end
end L2
namespace L2
open PySem PySem.Spec PyProof.Rows
noncomputable def SqL (K:PySem.W.Frag) (H:Hp) (a:Addr) (xs:List V):Prop:=
 Rd H a (.lst xs)∨
  ∃(o:Obj) (its:Array Value) (n:Nat),K.lookup a=some o∧o.cls=.type "list"∧o.dict=none∧o.data=.seq its n∧its.size<=sizeLine∧Vals xs its.toList
noncomputable def SqT (K:PySem.W.Frag) (H:Hp) (a:Addr) (xs:List V):Prop:=
 Rd H a (.tup xs)∨
  ∃(o:Obj) (its:Array Value) (n:Nat),K.lookup a=some o∧o.cls=.type "tuple"∧o.data=.seq its n∧its.size<=sizeLine∧Vals xs its.toList
noncomputable def Cs:Value->Option V
 |.none=>some .non
 |.bool b=>some (.bl b)
 |.int i _=>some (.int i)
 |.str x _=>some (.str x)
 |.bytes b _=>some (.byt b)
 |.float b _=>some (.flt b)
 |.ref a=>some (.ref a)
 |.type n=>some (.ty n)
 |_=>none
theorem RelV.abs {x:V} {u:Value} (r:RelV x u):Cs u=some x:=by
 cases x with
 |non=>cases r;rfl
 |bl _=>cases r;rfl
 |int _=>obtain ⟨t,rfl⟩:=r;rfl
 |str _=>obtain ⟨t,rfl⟩:=r;rfl
 |byt _=>obtain ⟨t,rfl⟩:=r;rfl
 |flt _=>obtain ⟨t,rfl⟩:=r;rfl
 |ref _=>cases r;rfl
 |ty _=>cases r;rfl
theorem RelV.inj {x y:V} {u:Value} (r:RelV x u) (q:RelV y u):x=y:=Option.some.inj (r.abs.symm.trans q.abs)
theorem Vals.inj:∀{xs ys:List V} {us:List Value},Vals xs us->Vals ys us->xs=ys
 |_,_,_,.nil,.nil=>rfl
 |_,_,_,.cons r t,.cons r' t'=>by rw [r.inj r',Vals.inj t t']
section
variable {X:Cx} {pins:List (Addr×Obj)} {σ:St} {H:Hp} {s:Shared} {a:Addr} {xs ys:List V}
theorem Inv.list (I:Inv X pins σ H s) (h:SqL X.K H a xs):∃its:List Value,Vals xs its∧PlainL s.heap a its.toArray∧xs.length<=sizeLine:=by
 rcases h with h|⟨o,its,n,hk,hc,hd,hs,hz,r⟩
 ·obtain ⟨z,its,n,r,e⟩:=h.ok I.hok
  exact ⟨its,r,⟨_,n,e,rfl,rfl,rfl⟩,z⟩
 ·refine ⟨its.toList,r,⟨o,n,I.kIn a o hk,hc,hd,by simpa using hs⟩,?_⟩
  have e:=r.length
  simp only [Array.length_toList] at e
  omega
theorem Inv.tuple (I:Inv X pins σ H s) (h:SqT X.K H a xs):∃its:List Value,Vals xs its∧IsTup s.heap a its.toArray∧xs.length<=sizeLine:=by
 rcases h with h|⟨o,its,n,hk,hc,hs,hz,r⟩
 ·obtain ⟨z,its,r,p⟩:=h.ok I.hok
  exact ⟨its,r,p,z⟩
 ·refine ⟨its.toList,r,⟨o,I.kIn a o hk,hc,n,by simpa using hs⟩,?_⟩
  have e:=r.length
  simp only [Array.length_toList] at e
  omega
theorem Inv.ma (I:Inv X pins σ H s) (h:SqL X.K H a xs) (h':SqL X.K H a ys):xs=ys:=by
 obtain ⟨its,r,⟨o,n,e,_,_,d⟩,_⟩:=I.list h
 obtain ⟨its',r',⟨o',n',e',_,_,d'⟩,_⟩:=I.list h'
 rw [e] at e';cases e'
 rw [d] at d'
 injection d' with d1 _
 have:its=its':=by simpa using congrArg Array.toList d1
 subst this
 exact r.inj r'
theorem Inv.j_ (I:Inv X pins σ H s) (h:SqT X.K H a xs) (h':SqT X.K H a ys):xs=ys:=by
 obtain ⟨its,r,⟨o,e,_,n,d⟩,_⟩:=I.tuple h
 obtain ⟨its',r',⟨o',e',_,n',d'⟩,_⟩:=I.tuple h'
 rw [e] at e';cases e'
 rw [d] at d'
 injection d' with d1 _
 have:its=its':=by simpa using congrArg Array.toList d1
 subst this
 exact r.inj r'
end
noncomputable abbrev Cx.eE (X:Cx) (E:Value->Shared->Prop):Cx:={X with xe:=E}
noncomputable abbrev Cx.nox (X:Cx):Cx:=X.eE fun _ _=>False
theorem Cx.Ok.eE {X:Cx} (ok:X.Ok) (E:Value->Shared->Prop):(X.eE E).Ok:=
 ⟨ok.mod,ok.kind,ok.glob,ok.blt,ok.above,ok.inj,ok.has,ok.cab,ok.hd,ok.frames,ok.stk,ok.exf,ok.bs,ok.bsz,ok.fI,ok.hV,ok.cV,ok.frf⟩
theorem Cx.Ok.dA {X:Cx} {E:Value->Shared->Prop} (ok:(X.eE E).Ok):X.Ok:=
 ⟨ok.mod,ok.kind,ok.glob,ok.blt,ok.above,ok.inj,ok.has,ok.cab,ok.hd,ok.frames,ok.stk,ok.exf,ok.bs,ok.bsz,ok.fI,ok.hV,ok.cV,ok.frf⟩
section
variable {X:Cx} {pins:List (Addr×Obj)} {σ:St} {H:Hp} {s:Shared} {E:Value->Shared->Prop}
theorem Inv.eE (I:Inv X pins σ H s) (E:Value->Shared->Prop):Inv (X.eE E) pins σ H s:=⟨I.ok.eE E,I.os,I.bare,I.base,I.loc,I.cell,I.free,I.bM,I.pin,I.hok,I.len⟩
theorem Inv.dA (I:Inv (X.eE E) pins σ H s):Inv X pins σ H s:=⟨I.ok.dA,I.os,I.bare,I.base,I.loc,I.cell,I.free,I.bM,I.pin,I.hok,I.len⟩
theorem SP.dA {D:Ends} {f:Flow} {s':Shared} (h:SP (X.eE E) pins D f s'):SP X pins D f s':=by
 cases f with
 |next=>obtain ⟨σ',H',I,q⟩:=h;exact ⟨σ',H',I.dA,q⟩
 |brk=>obtain ⟨σ',H',I,q⟩:=h;exact ⟨σ',H',I.dA,q⟩
 |cont=>obtain ⟨σ',H',I,q⟩:=h;exact ⟨σ',H',I.dA,q⟩
 |ret u=>obtain ⟨v,σ',H',I,r,q⟩:=h;exact ⟨v,σ',H',I.dA,r,q⟩
theorem PSs.nox {st:List Stmt} {t:TS} (h:PSs X.nox st t):PSs X st t:=fun pins s σ H D I hw=>
 wpAny_mono (h pins s σ H D (I.eE _) hw) (fun _ _ q=>q.dA) fun _ _ z=>False.elim z
end
section
variable {X:Cx} {st:Stmt} {rest:List Stmt} {t u:TS} {e:Expr} {te:TE} {pos:Pos}
noncomputable def oz:TS:=fun D σ H=>D.nx σ H
noncomputable def CF (t u:TS):TS:=fun D σ H=>t {D with nx:=u D} σ H
theorem wW:PSs X [] oz:=fun _ _ σ H _ I h=>wpAny_execs_nil ⟨σ,H,I,h⟩
theorem fX (h1:PS X st t) (h2:PSs X rest u):PSs X (st::rest) (CF t u):=by
 intro pins s σ H D I h
 refine wpAny_execs_cons (thn (h1 pins s σ H {D with nx:=u D} I h) fun f s1 q=>?_)
 cases f with
 |next=>
  obtain ⟨σ',H',I',q⟩:=q
  exact h2 pins s1 σ' H' D I' q
 |ret v=>exact q
 |brk=>exact q
 |cont=>exact q
theorem vv (h1:PS X st t):PSs X [st] t:=by
 intro pins s σ H D I h
 refine wpAny_execs_cons (thn (h1 pins s σ H D I h) fun f s1 q=>?_)
 cases f with
 |next=>exact wpAny_execs_nil q
 |ret v=>exact q
 |brk=>exact q
 |cont=>exact q
theorem wF:PS X (.Pass pos) oz:=fun _ _ σ H _ I h=>wpAny_Pass ⟨σ,H,I,h⟩
theorem Inv.quiet {pins:List (Addr×Obj)} {σ:St} {H:Hp} {s:Shared} (I:Inv X pins σ H s):interactive X.env=false:=by simp [interactive,I.ok.kind]
theorem yF {x j pos pos'}:PS X (.Expr (.Constant (.str x) j pos) pos') oz:=fun _ s σ H _ I h=>wpAny_Expr (Calls.Constant_str (show SP X _ _ .next {s with toks:=s.toks+1} from ⟨σ,H,I.tok _,h⟩)) I.quiet
noncomputable def Bv (te:TE):TS:=fun D σ H=>te σ H fun _ H1=>D.nx σ H1
theorem gO (he:PE X e te) (hs:swapsWith e none pos.line X.env=pure false:=by rfl):PS X (.Expr e pos) (Bv te):=by
 intro pins s σ H D I h
 exact wpAny_Expr_any (thn (he pins s σ H _ I h) fun v s1 ⟨x,H1,I1,r1,q1⟩=>⟨σ,H1,I1,q1⟩) I.quiet hs
noncomputable def B7 (te:TE):TS:=fun D σ H=>te σ H D.rt
theorem iN (he:PE X e te):PS X (.Return (some e) pos) (B7 te):=by
 intro pins s σ H D I h
 exact wpAny_Return_some (thn (he pins s σ H _ I h) fun v s1 ⟨x,H1,I1,r1,q1⟩=>⟨x,σ,H1,I1,r1,q1⟩)
noncomputable def BG:TS:=fun D _ H=>D.rt .non H
theorem wK:PS X (.Return none pos) BG:=fun _ _ σ H _ I h=>wpAny_Return_none ⟨.non,σ,H,I,rfl,h⟩
noncomputable def B9 (c:TT) (t u:TS):TS:=fun D σ H=>c σ H fun b H1=>if b=true then t D σ H1 else u D σ H1
theorem uE {c:Expr} {a b:List Stmt} {tc:TT} (hc:PT X c tc) (ha:PSs X a t) (hb:PSs X b u):PS X (.If c a b pos) (B9 tc t u):=by
 intro pins s σ H D I h
 refine wpAny_If (thn (hc pins s σ H _ I h) fun d s1 ⟨H1,I1,q1⟩=>?_)
 cases d with
 |true=>exact ha pins s1 σ H1 D I1 q1
 |false=>exact hb pins s1 σ H1 D I1 q1
noncomputable def zM:TS:=fun _ _ _=>False
theorem kh {sts:List Stmt}:PSs X sts zM:=fun _ _ _ _ _ _ h=>h.elim
end
noncomputable abbrev TG:=V->St->Hp->(St->Hp->Prop)->Prop
noncomputable abbrev TGs:=List V->St->Hp->(St->Hp->Prop)->Prop
noncomputable def PG (X:Cx) (target:Expr) (t:TG):Prop:=
 ∀(pins:List (Addr×Obj)) (s:Shared) (σ:St) (H:Hp) (v:V) (u:Value) (Q:St->Hp->Prop),Inv X pins σ H s->RelV v u->t v σ H Q->
  wpAny (model X.prog X.w) X.A (assign target X.env u) (fun _ s'=>∃σ' H',Inv X pins σ' H' s'∧Q σ' H') X.xe s
noncomputable def PGs (X:Cx) (ts:List Expr) (t:TGs):Prop:=
 ∀(pins:List (Addr×Obj)) (s:Shared) (σ:St) (H:Hp) (vs:List V) (us:List Value) (Q:St->Hp->Prop),Inv X pins σ H s->Vals vs us->t vs σ H Q->
  wpAny (model X.prog X.w) X.A (assignInOrder ((assignEach ts X.env).map (·.2)) us) (fun _ s'=>∃σ' H',Inv X pins σ' H' s'∧Q σ' H') X.xe s
noncomputable abbrev Cw:=V->V->V->Hp->(Hp->Prop)->Prop
noncomputable def Cu (X:Cx) (t:Cw):Prop:=
 ∀(pins:List (Addr×Obj)) (s:Shared) (σ:St) (H:Hp) (o i v:V) (ov iv u:Value) (Q:Hp->Prop),Inv X pins σ H s->RelV o ov->RelV i iv->RelV v u->t o i v H Q->
  wpAny (model X.prog X.w) X.A (setItem ov iv u) (fun _ s'=>∃H',Inv X pins σ H' s'∧Q H') X.xe s
section
variable {X:Cx} {pos:Pos}
noncomputable def fU (i:Nat):TG:=fun v σ H Q=>Q (σ.set i (some v)) H
theorem xl {i:Nat} {x:Str} (hN:X.N.Nodup) (hi:X.N[i]?=some x) (hx:Loc X.env.scope x) (hf:X.fn x=true∨X.env.scope.names.lookup x=some .local:=by first|exact .inl rfl|exact .inr rfl|assumption):PG X (.Name x pos) (fU i):=by
 intro pins s σ H v u Q I r h
 exact wpAny_assign_Name (dE I hN hi hx r (fun s' I'=>⟨_,H,I',h⟩) hf)
noncomputable def Cb:TGs:=fun vs σ H Q=>vs=[]∧Q σ H
noncomputable def Bj (t:TG) (u:TGs):TGs:=fun vs σ H Q=>∃v r,vs=v::r∧t v σ H fun σ' H'=>u r σ' H' Q
theorem vc:PGs X [] Cb:=by
 intro pins s σ H vs us Q I r h
 obtain ⟨e,h⟩:=h
 subst e
 cases r
 exact assignInOrder_nil ⟨σ,H,I,h⟩
theorem sf {e:Expr} {es:List Expr} {t:TG} {u:TGs} (h1:PG X e t) (h2:PGs X es u)
  (hs:(assignEach (e::es) X.env).map (·.2)=assign e X.env::(assignEach es X.env).map (·.2):=by rfl):PGs X (e::es) (Bj t u):=by
 intro pins s σ H vs us Q I r h
 obtain ⟨v,vr,e1,h⟩:=h
 subst e1
 cases r with
 |cons r rr=>
  rw [hs]
  refine assignInOrder_cons (thn (h1 pins s σ H _ _ _ I r h) fun _ s1 ⟨σ1,H1,I1,q1⟩=>?_)
  exact h2 pins s1 σ1 H1 _ _ Q I1 rr q1
noncomputable def B8 (K:PySem.W.Frag) (n:Nat) (t:TGs):TG:=fun v σ H Q=>∃a xs,v=.ref a∧SqT K H a xs∧xs.length=n∧t xs σ H Q
theorem yf {es:List Expr} {k:Nat} {t:TGs} {n:Nat} (hc:X.calm=true) (h:PGs X es t)
  (hn:(assignEach es X.env).length=n:=by rfl) (hst:(assignEach es X.env).findIdx? (·.1)=none:=by rfl):PG X (.Tuple es k pos) (B8 X.K n t):=by
 intro pins s σ H v u Q I r hw
 obtain ⟨a,xs,e1,hq,hl,hw⟩:=hw
 subst e1
 cases r
 obtain ⟨its,rv,ht,hz⟩:=I.tuple hq
 refine assign_Tuple_tuple (I.ok.hd hc) ht (by simp [hn,←hl,rv.length]) hst fun h' hx=>?_
 have I1:Inv X pins σ H {s with heap:=h'}:=I.kept (t':=s.toks) fun b o e=>hx b o (Nat.ne_of_lt (Heap.lt_size e)) e
 exact h pins _ σ H xs _ Q I1 (by simpa using rv) hw
noncomputable def mT (te:TE) (g:TG):TS:=fun D σ H=>te σ H fun x H1=>g x σ H1 D.nx
theorem pT {tg e:Expr} {te:TE} {g:TG} (he:PE X e te) (hg:PG X tg g) (hs:swapsWithSole [tg] e pos.line X.env=pure false:=by rfl) (hw:swappedStores [tg] e X.env=pure none:=by rfl)
  (h1:(assignEach [tg] X.env).map (·.2)=[assign tg X.env]:=by rfl):PS X (.Assign [tg] e pos) (mT te g):=by
 intro pins s σ H D I h
 refine wpAny_Assign_stores (thn (he pins s σ H _ I h) fun v s1 ⟨x,H1,I1,r1,q1⟩=>?_) hs hw
 rw [h1]
 exact thn (hg pins s1 σ H1 x v _ I1 r1 q1) fun _ s2 q=>q
theorem mV {i:Nat} {x:Str} {e:Expr} {te:TE} {pos':Pos} (hN:X.N.Nodup) (hi:X.N[i]?=some x) (hx:Loc X.env.scope x) (he:PE X e te) (hs:swapsWith e (some (.Name x pos')) pos.line X.env=pure false:=by rfl) (hf:X.fn x=true∨X.env.scope.names.lookup x=some .local:=by first|exact .inl rfl|exact .inr rfl|assumption):
  PS X (.Assign [.Name x pos'] e pos) (mT te (fU i)):=by
 intro pins s σ H D I h
 refine wpAny_Assign_Name (thn (he pins s σ H _ I h) fun v s1 ⟨y,H1,I1,r1,q1⟩=>?_) hs
 exact dE I1 hN hi hx r1 (fun s2 I2=>⟨_,H1,I2,q1⟩) hf
noncomputable def B4 (i j:Nat) (ta:TA):TS:=fun D σ H=>ta σ H fun vs H1=>∃v w,vs=[v,w]∧D.nx ((σ.set i (some v)).set j (some w)) H1
theorem xK {i j:Nat} {x y:Str} {a b:Expr} {ta:TA} {px py pt:Pos} {kt k2 pt2} (hc:X.calm=true) (hN:X.N.Nodup) (hi:X.N[i]?=some x) (hj:X.N[j]?=some y) (hij:i≠j)
  (hx:X.env.scope.names.lookup x=some .local) (hy:X.env.scope.names.lookup y=some .local) (ha:PA X [a,b] ta)
  (hw:swappedStores [.Tuple [.Name x px,.Name y py] kt pt] (.Tuple [a,b] k2 pt2) X.env=pure (some [x,y]))
  (hs:swapsWithSole [.Tuple [.Name x px,.Name y py] kt pt] (.Tuple [a,b] k2 pt2) pos.line X.env=pure false:=by rfl):
  PS X (.Assign [.Tuple [.Name x px,.Name y py] kt pt] (.Tuple [a,b] k2 pt2) pos) (B4 i j ta):=by
 intro pins s σ H D I h
 rw [exec_Assign_arm]
 refine wpAny_bind (wpAny_standAt ?_)
 rw [hs]
 refine wpAny_bind (wpAny_pure ?_)
 rw [if_neg (by decide)]
 refine wpAny_bind (Tuple_ (thn (ha _ pins s σ H _ I h) fun us s1 ⟨vs,H1,I1,r1,q1⟩=>?_))
 obtain ⟨v,w,e1,q1⟩:=q1
 subst e1
 obtain ⟨u1,u2,rfl,rv,rw'⟩:∃u1 u2,us=[u1,u2]∧RelV v u1∧RelV w u2:=by
  cases r1 with
  |cons p q=>
   cases q with
   |cons p' q'=>
    cases q'
    exact ⟨_,_,rfl,p,p'⟩
 refine wpAny_newObj_type ?_ (by show 2<=sizeLine;decide)
 have I2:Inv X pins σ H1 {s1 with heap:=s1.heap.push {cls:=.type "tuple",data:=.seq [u1,u2].toArray}}:=I1.kept (t':=s1.toks) fun b o e=>Heap.get?_push_of_some _ e
 rw [hw]
 refine wpAny_bind (wpAny_pure ?_)
 show wpAny (model X.prog X.w) X.A (do rule "assign.swapped-stores";let items←unpackItems (.ref s1.heap.objs.size) 2 none;assignInOrder [fun v=>bindName X.env y v,fun v=>bindName X.env x v] items.reverse;pure Flow.next) _ _ _
 refine wpAny_bind (wpAny_rule (wpAny_bind (unpackItems_tuple (items:=#[u1,u2]) (I.ok.hd hc) (IsTup.new s1.heap _) fun h' hx'=>?_)))
 have I3:=I2.kept (h':=h') (t':=s1.toks) fun b o e=>hx' b o (Nat.ne_of_lt (Heap.lt_size e)) e
 show wpAny _ _ (assignInOrder [fun v=>bindName X.env y v,fun v=>bindName X.env x v] [u2,u1]>>=fun _=>pure Flow.next) _ _ _
 refine wpAny_bind (assignInOrder_cons (wpAny_bindName (dE I3 hN hj (.inl hy) rw' (fun s2 I4=>?_) (.inr hy))))
 refine assignInOrder_cons (wpAny_bindName (dE I4 hN hi (.inl hx) rv (fun s3 I5=>assignInOrder_nil (wpAny_pure ?_)) (.inr hx)))
 rw [List.set_comm _ _ (Ne.symm hij)] at I5
 exact ⟨_,H1,I5,q1⟩
end
section
variable {X:Cx} {pos:Pos}
noncomputable def yC (c:TT) (tb:TS):TS:=fun D σ H=>∃W:Nat->St->Hp->Prop,(∃m,W m σ H)∧∀m σ H,W m σ H->
 c σ H fun b H1=>if b=true then ∃N:St->Hp->Prop,(∀σ' H',N σ' H'->∃m',m'<m∧W m' σ' H')∧tb {D with nx:=N,ct:=N,bk:=D.nx} σ H1 else D.nx σ H1
theorem sD {c:Expr} {body:List Stmt} {tc:TT} {tb:TS} (hp:PassesOwn (model X.prog X.w) X.A X.env X.xe) (hc:PT X c tc) (hb:PSs X body tb):PS X (.While c body [] pos) (yC tc tb):=by
 intro pins s σ H D I h
 obtain ⟨W,⟨m0,w0⟩,turn⟩:=h
 refine wpAny_While (codeAny_whileLoop (fun n s'=>∃σ' H',Inv X pins σ' H' s'∧W n σ' H') ?_ m0 ⟨σ,H,I,w0⟩)
 rintro n s1 ⟨σ1,H1,I1,w1⟩
 refine wpAny_passesOwn hp (thn (hc pins s1 σ1 H1 _ I1 (turn n σ1 H1 w1)) fun b s2 ⟨H2,I2,q2⟩=>?_)
 cases b with
 |true=>
  obtain ⟨N,hN,q2⟩:=q2
  rw [if_pos rfl]
  refine wpAny_passesOwn hp (thn (hb pins s2 σ1 H2 _ I2 q2) fun f s3 q3=>?_)
  cases f with
  |next=>
   obtain ⟨σ3,H3,I3,n3⟩:=q3
   obtain ⟨m',hm,w3⟩:=hN σ3 H3 n3
   exact ⟨m',hm,σ3,H3,I3,w3⟩
  |cont=>
   obtain ⟨σ3,H3,I3,n3⟩:=q3
   obtain ⟨m',hm,w3⟩:=hN σ3 H3 n3
   exact ⟨m',hm,σ3,H3,I3,w3⟩
  |brk=>exact q3
  |ret v=>exact q3
 |false=>
  rw [if_neg Bool.false_ne_true]
  exact wpAny_execs_nil ⟨σ1,H2,I2,q2⟩
end
structure It where
 go:Nat->Hp->Prop
 yld:Nat->Hp->V->Hp->Prop
 stop:Nat->Hp->Prop
noncomputable def a9 (X:Cx) (pins:List (Addr×Obj)) (H:Hp) (b:Addr):Prop:=
 H b=none∧b≠X.env.locals∧b∉X.fs∧(b∈X.ex∨X.s₀.heap.objs.size<=b)∧(∀x c,X.env.cells.lookup x=some c->c≠b)∧∀p∈X.pn++pins,p.1≠b
theorem Inv.ft {X:Cx} {pins:List (Addr×Obj)} {σ:St} {H H':Hp} {s:Shared} {b:Addr} (I:Inv X pins σ H s) (hb:s.heap.objs.size<=b) (hn:H' b=none):a9 X pins H' b:=by
 refine ⟨hn,Nat.ne_of_gt (Nat.lt_of_lt_of_le I.lt hb),I.yY hb,.inr (Nat.le_trans I.sz hb),fun x c e z=>?_,fun p hp z=>?_⟩
 ·obtain ⟨v,q⟩:=I.cell x c e
  exact absurd (Nat.lt_of_lt_of_le q.lt (by rw [z];exact hb)) (Nat.lt_irrefl _)
 ·exact absurd (Nat.lt_of_lt_of_le (Heap.lt_size (I.pin p hp).1) (by rw [z];exact hb)) (Nat.lt_irrefl _)
structure Turn (P:Program) (w:World) (K:PySem.W.Frag) (tg:Expr) (J:It) (fp:List Addr) (it:Addr) (tn:Nat->Heap->Prop):Prop where
 mem:it∈fp
 obj:∀i h,tn i h->∀b∈fp,∃o,h.get? b=some o∧∀v,o.data≠.cell v
 keep:∀i h h',tn i h->(∀b∈fp,∀o,h.get? b=some o->h'.get? b=some o)->tn i h'
 item:∀(X:Cx),X.prog=P->X.w=w->X.K=K->X.calm=true->∀(i:Nat) (pins:List (Addr×Obj)) (s:Shared) (σ:St) (H:Hp) (E:Value->Shared->Prop),Inv X pins σ H s->(∀b∈fp,a9 X pins H b)->tn i s.heap->J.go i H->
  wpAny (model P w) X.A (pyNext (.ref it)) (fun r s1=>∃u,r=some u∧
   wpAny (model P w) X.A (letOwnedTupleGo tg (.ref it) u) (fun _ s2=>∃x H',Inv X pins σ H' s2∧RelV x u∧J.yld i H x H'∧tn (i+1) s2.heap∧∀b∈fp,H' b=none) E s1) E s
 done:∀(X:Cx),X.prog=P->X.w=w->X.K=K->X.calm=true->∀(i:Nat) (pins:List (Addr×Obj)) (s:Shared) (σ:St) (H:Hp) (E:Value->Shared->Prop),Inv X pins σ H s->(∀b∈fp,a9 X pins H b)->tn i s.heap->J.stop i H->
  wpAny (model P w) X.A (pyNext (.ref it)) (fun r s1=>r=none∧Inv X pins σ H s1) E s
 self:∀(A:Around) (i:Nat) (s:Shared) (Q:Value->Shared->Prop) (E:Value->Shared->Prop),tn i s.heap->Q (.ref it) s->wpAny (model P w) A (pyIter (.ref it)) Q E s
noncomputable abbrev TI:=St->Hp->(It->Hp->Prop)->Prop
noncomputable def PIE (X:Cx) (pins:List (Addr×Obj)) (σ:St) (tg:Expr) (R:It->Hp->Prop) (itv:Value) (s2:Shared):Prop:=
 ∃(it:Addr) (fp:List Addr) (tn:Nat->Heap->Prop) (J:It) (H':Hp),itv=.ref it∧Inv X pins σ H' s2∧Turn X.prog X.w X.K tg J fp it tn∧tn 0 s2.heap∧(∀b∈fp,a9 X pins H' b)∧R J H'
noncomputable def PI (X:Cx) (tg iter:Expr) (wi:TI):Prop:=
 ∀(pins:List (Addr×Obj)) (s:Shared) (σ:St) (H:Hp) (R:It->Hp->Prop),Inv X pins σ H s->wi σ H R->
  wpAny (model X.prog X.w) X.A (eval iter X.env) (fun v s1=>wpAny (model X.prog X.w) X.A (pyIter v) (PIE X pins σ tg R) X.xe s1) X.xe s
theorem pA {M:Model} {A:Around} {E:Value->Shared->Prop} {s:Shared} {tg:Expr} {it:Addr} {u:Value} {o:Obj} {n:String} {vs:Array Value} {Q:Unit->Shared->Prop} (ho:s.heap.get? it=some o) (hc:o.cls=.type n) (hd:o.data=.fields vs)
  (hn:["enumerate","zip","dict_itemiterator","dict_reverseitemiterator","odict_iterator","itertools.zip_longest","itertools.pairwise"].contains n=false) (hQ:Q () s):wpAny M A (letOwnedTupleGo tg (.ref it) u) Q E s:=by
 unfold letOwnedTupleGo
 cases tg<;>first
  |exact wpAny_pure hQ
  |(cases u<;>first
    |exact wpAny_pure hQ
    |(refine wpAny_bind (wpAny_load ho ?_)
      rw [hc,hd]
      show wpAny M A (if (["enumerate","zip","dict_itemiterator","dict_reverseitemiterator","odict_iterator","itertools.zip_longest","itertools.pairwise"].contains n&&vs[0]?==some (rawInt _))=true then _ else _) Q E s
      rw [if_neg (by intro h;rw [hn,Bool.false_and] at h;cases h)]
      exact wpAny_pure hQ))
noncomputable def Itl (K:PySem.W.Frag) (a:Addr):It:=
 ⟨fun i H=>∃xs x,SqL K H a xs∧xs[i]?=some x,fun i H x H'=>H'=H∧∀xs,SqL K H a xs->xs[i]?=some x,fun i H=>∃xs,SqL K H a xs∧xs.length<=i⟩
noncomputable def Itt (K:PySem.W.Frag) (a:Addr):It:=
 ⟨fun i H=>∃xs x,SqT K H a xs∧xs[i]?=some x,fun i H x H'=>H'=H∧∀xs,SqT K H a xs->xs[i]?=some x,fun i H=>∃xs,SqT K H a xs∧xs.length<=i⟩
noncomputable def Itr (lo:Int) (n:Nat):It:=⟨fun i _=>i<n,fun i H x H'=>H'=H∧x=.int (lo+i),fun i _=>n<=i⟩
theorem rL {P:Program} {w:World} {K:PySem.W.Frag} {tg:Expr} (a it:Addr):Turn P w K tg (Itl K a) [it] it (fun i h=>h.IsListIter it a i) where
 mem:=by simp
 obj:=fun i h st b hb=>by
  have e:b=it:=by simpa using hb
  subst e
  obtain ⟨o,e,c,d⟩:=st
  exact ⟨o,e,fun v z=>by rw [d] at z;cases z⟩
 keep:=fun i h h' st k=>st.at fun o e=>k it (by simp) o e
 item:=by
  intro X hP hw hK hc i pins s σ H E I hf st hg
  subst hP hw hK
  obtain ⟨xs,x,hq,hx⟩:=hg
  obtain ⟨its,rv,p,hz⟩:=I.list hq
  obtain ⟨u,hu,ru⟩:=rv.get hx
  obtain ⟨f0,f1,f2,f3,f4,f5⟩:=hf it (by simp)
  refine wpAny_pyNext_list_item st p.isList (x:=u) (by simpa using hu) fun h' st' sb=>?_
  have I1:Inv X pins σ H {s with heap:=h'}:=I.turned (t':=s.toks) (fun b o hb e=>(sb.2 b hb).trans e) f0 f1 f3 f4 f5
  obtain ⟨o,e,c,d⟩:=id st'
  exact ⟨u,rfl,pA (s:={s with heap:=h'}) e c d (by decide) ⟨x,H,I1,ru,⟨rfl,fun ys hy=>by rw [I.ma hy hq];exact hx⟩,st',fun b hb=>(hf b hb).1⟩⟩
 done:=by
  intro X hP hw hK hc i pins s σ H E I hf st hg
  subst hP hw hK
  obtain ⟨xs,hq,hx⟩:=hg
  obtain ⟨its,rv,p,hz⟩:=I.list hq
  obtain ⟨f0,f1,f2,f3,f4,f5⟩:=hf it (by simp)
  have hl:=rv.length
  exact wpAny_pyNext_list_end (I.ok.hd hc) st p.isList (by simp;omega) fun h' eb=>⟨rfl,I.turned (t':=s.toks) (fun b o hb e=>eb b o hb e) f0 f1 f3 f4 f5⟩
 self:=fun _ _ _ _ _ st h=>wpAny_pyIter_listiter st h
theorem pM {P:Program} {w:World} {K:PySem.W.Frag} {tg:Expr} (a it:Addr):Turn P w K tg (Itt K a) [it] it (fun i h=>h.IsTupleIter it a i) where
 mem:=by simp
 obj:=fun i h st b hb=>by
  have e:b=it:=by simpa using hb
  subst e
  obtain ⟨o,e,c,d⟩:=st
  exact ⟨o,e,fun v z=>by rw [d] at z;cases z⟩
 keep:=fun i h h' st k=>st.at fun o e=>k it (by simp) o e
 item:=by
  intro X hP hw hK hc i pins s σ H E I hf st hg
  subst hP hw hK
  obtain ⟨xs,x,hq,hx⟩:=hg
  obtain ⟨its,rv,p,hz⟩:=I.tuple hq
  obtain ⟨u,hu,ru⟩:=rv.get hx
  obtain ⟨f0,f1,f2,f3,f4,f5⟩:=hf it (by simp)
  refine wpAny_pyNext_tuple_item st (show s.heap.IsTuple a its.toArray from p) (x:=u) (by simpa using hu) fun h' st' sb=>?_
  have I1:Inv X pins σ H {s with heap:=h'}:=I.turned (t':=s.toks) (fun b o hb e=>(sb.2 b hb).trans e) f0 f1 f3 f4 f5
  obtain ⟨o,e,c,d⟩:=id st'
  exact ⟨u,rfl,pA (s:={s with heap:=h'}) e c d (by decide) ⟨x,H,I1,ru,⟨rfl,fun ys hy=>by rw [I.j_ hy hq];exact hx⟩,st',fun b hb=>(hf b hb).1⟩⟩
 done:=by
  intro X hP hw hK hc i pins s σ H E I hf st hg
  subst hP hw hK
  obtain ⟨xs,hq,hx⟩:=hg
  obtain ⟨its,rv,p,hz⟩:=I.tuple hq
  obtain ⟨f0,f1,f2,f3,f4,f5⟩:=hf it (by simp)
  have hl:=rv.length
  exact wpAny_pyNext_tuple_end (I.ok.hd hc) st (show s.heap.IsTuple a its.toArray from p) (by simp;omega) fun h' eb=>⟨rfl,I.turned (t':=s.toks) (fun b o hb e=>eb b o hb e) f0 f1 f3 f4 f5⟩
 self:=fun _ _ _ _ _ st h=>wpAny_pyIter_tupleiter st h
theorem pL {P:Program} {w:World} {K:PySem.W.Frag} {tg:Expr} (it:Addr) (lo:Int) (n:Nat):Turn P w K tg (Itr lo n) [it] it (fun i h=>IsRangeIter h it (lo+(i:Nat)*1) ((n:Int) - (i:Nat)) 1) where
 mem:=by simp
 obj:=fun i h st b hb=>by
  have e:b=it:=by simpa using hb
  subst e
  exact ⟨_,st,fun v z=>by
   have z':Data.fields _=Data.cell v:=z
   cases z'⟩
 keep:=fun i h h' st k=>k it (by simp) _ st
 item:=by
  intro X hP hw hK hc i pins s σ H E I hf st hg
  subst hP hw hK
  obtain ⟨f0,f1,f2,f3,f4,f5⟩:=hf it (by simp)
  have W:=Walks.range (prog:=X.prog) (w:=X.w) (I.ok.hd hc) it lo 1 n
  refine W.item i s _ _ hg st fun v h' tk hv st' kk=>?_
  obtain ⟨t,rfl⟩:=hv
  have I1:Inv X pins σ H {s with heap:=h',toks:=tk}:=I.turned (fun b o hb e=>kk b o (by simpa using hb) e) f0 f1 f3 f4 f5
  refine ⟨_,rfl,pA (s:={s with heap:=h',toks:=tk}) (n:="range_iterator") st' rfl rfl (by decide) ⟨.int (lo+i),H,I1,⟨t,?_⟩,⟨rfl,rfl⟩,st',fun b hb=>(hf b hb).1⟩⟩
  rw [Int.mul_one]
 done:=by
  intro X hP hw hK hc i pins s σ H E I hf st hg
  subst hP hw hK
  obtain ⟨f0,f1,f2,f3,f4,f5⟩:=hf it (by simp)
  exact wpAny_pyNext_range_end (I.ok.hd hc) st (by have:n<=i:=hg;omega) fun h' eb=>⟨rfl,I.turned (t':=s.toks) (fun b o hb e=>eb b o hb e) f0 f1 f3 f4 f5⟩
 self:=fun _ _ _ _ _ st h=>wpAny_pyIter_rangeiter st h
end L2
namespace L2
open PySem PySem.Spec PyProof.Rows
section
variable {X:Cx} {tg:Expr}
noncomputable def BJ (K:PySem.W.Frag) (tl:TE):TI:=fun σ H R=>tl σ H fun x H1=>∃a,x=.ref a∧(∃xs,SqL K H1 a xs)∧R (Itl K a) H1
noncomputable def BR (K:PySem.W.Frag) (tl:TE):TI:=fun σ H R=>tl σ H fun x H1=>∃a,x=.ref a∧(∃xs,SqT K H1 a xs)∧R (Itt K a) H1
theorem vF {l:Expr} {tl:TE} (hl:PE X l tl):PI X tg l (BJ X.K tl):=by
 intro pins s σ H R I h
 refine thn (hl pins s σ H _ I h) fun v s1 ⟨x,H1,I1,r1,q1⟩=>?_
 obtain ⟨a,e,⟨xs,hq⟩,q⟩:=q1
 subst e
 cases r1
 obtain ⟨its,rv,p,hz⟩:=I1.list hq
 refine wpAny_pyIter_list p.isList ?_
 refine ⟨s1.heap.objs.size,[s1.heap.objs.size],_,_,H1,rfl,I1.kept (t':=s1.toks) fun b o e=>Heap.get?_push_of_some _ e,rL a _,⟨_,Heap.get?_push_size _ rfl,rfl,rfl⟩,fun b hb=>?_,q⟩
 have e:b=s1.heap.objs.size:=by simpa using hb
 subst e
 exact I1.ft (Nat.le_refl _) (I1.hok.fresh (Nat.le_refl _))
theorem yc {l:Expr} {tl:TE} (hl:PE X l tl):PI X tg l (BR X.K tl):=by
 intro pins s σ H R I h
 refine thn (hl pins s σ H _ I h) fun v s1 ⟨x,H1,I1,r1,q1⟩=>?_
 obtain ⟨a,e,⟨xs,hq⟩,q⟩:=q1
 subst e
 cases r1
 obtain ⟨its,rv,p,hz⟩:=I1.tuple hq
 refine wpAny_pyIter_tuple (show s1.heap.IsTuple a its.toArray from p) ?_
 refine ⟨s1.heap.objs.size,[s1.heap.objs.size],_,_,H1,rfl,I1.kept (t':=s1.toks) fun b o e=>Heap.get?_push_of_some _ e,pM a _,⟨_,Heap.get?_push_size _ rfl,rfl,rfl⟩,fun b hb=>?_,q⟩
 have e:b=s1.heap.objs.size:=by simpa using hb
 subst e
 exact I1.ft (Nat.le_refl _) (I1.hok.fresh (Nat.le_refl _))
theorem mF {pins:List (Addr×Obj)} {σ:St} {H:Hp} {s:Shared} {R:It->Hp->Prop} {E:Value->Shared->Prop} {lo hi:Int} {t u v:Tok} {tk:Nat} (I:Inv X pins σ H s) (h1: -(2^62)<=lo) (h2:lo<2^62) (h3: -(2^62)<=hi) (h4:hi<2^62)
  (q:R (Itr lo (hi - lo).toNat) H):wpAny (model X.prog X.w) X.A (pyIter (.ref s.heap.objs.size)) (PIE X pins σ tg R) E {s with heap:=s.heap.push {cls:=.type "range",data:=.fields #[.int lo t,.int hi u,.int 1 v]},toks:=tk}:=by
 refine wpAny_pyIter_range (IsRange.new ..) (small_one h1 h2 h3 h4) ?_
 have I1:Inv X pins σ H {s with heap:=s.heap.push {cls:=.type "range",data:=.fields #[.int lo t,.int hi u,.int 1 v]},toks:=tk}:=I.kept fun b o e=>Heap.get?_push_of_some _ e
 refine ⟨(s.heap.push {cls:=.type "range",data:=.fields #[.int lo t,.int hi u,.int 1 v]}).objs.size,[(s.heap.push {cls:=.type "range",data:=.fields #[.int lo t,.int hi u,.int 1 v]}).objs.size],_,_,H,rfl,
  I1.kept (t':=tk) fun b o e=>Heap.get?_push_of_some _ e,pL _ lo (hi - lo).toNat,?_,fun b hb=>?_,q⟩
 ·have e1:lo+((0:Nat):Int)*1=lo:=by simp
  have e2:(((hi - lo).toNat:Nat):Int) - ((0:Nat):Int)=Builtin.Range.rangeSize lo hi 1:=by rw [rangeSize_one];split<;>omega
  show IsRangeIter _ _ (lo+((0:Nat):Int)*1) ((((hi - lo).toNat:Nat):Int) - ((0:Nat):Int)) 1
  rw [e1,e2]
  exact Heap.get?_push_size _ rfl
 ·have e:b=(s.heap.push {cls:=.type "range",data:=.fields #[.int lo t,.int hi u,.int 1 v]}).objs.size:=by simpa using hb
  subst e
  exact I1.ft (Nat.le_refl _) (I1.hok.fresh (Nat.le_refl _))
noncomputable def A2 (ta:TA):TI:=fun σ H R=>ta σ H fun vs H1=>∃j:Int,vs=[.int j]∧ -(2^62)<=j∧j<2^62∧R (Itr 0 j.toNat) H1
noncomputable def BA (ta:TA):TI:=fun σ H R=>ta σ H fun vs H1=>∃i j:Int,vs=[.int i,.int j]∧(-(2^62)<=i∧i<2^62∧ -(2^62)<=j∧j<2^62)∧R (Itr i (j - i).toNat) H1
theorem qF {a:Expr} {ta:TA} {p pos:Pos} (hg:Gl X "range") (hm:X.mg "range"=none) (ha:PA X [a] ta) (hs:starEach [a] X.env=[(false,eval a X.env)]:=by rfl):PI X tg (.Call (.Name "range" p) [a] [] pos) (A2 ta):=by
 intro pins s σ H R I h
 refine Call_ (dR I hg hm boot_range (PyProof.Rows.callWith_type1 (thn (ha pos pins s σ H _ I h) fun us s1 ⟨vs,H1,I1,r1,q1⟩=>?_) hs rfl))
 obtain ⟨j,e,q1,q2,q⟩:=q1
 subst e
 cases r1 with
 |cons r rr=>
  cases rr
  obtain ⟨t,rfl⟩:=r
  exact call_range_1 (mF I1 (by omega) (by omega) q1 q2 (by simpa using q))
theorem rP {a b:Expr} {ta:TA} {p pos:Pos} (hg:Gl X "range") (hm:X.mg "range"=none) (ha:PA X [a,b] ta) (hs:starEach [a,b] X.env=[(false,eval a X.env),(false,eval b X.env)]:=by rfl) (hs2:starEach [b] X.env=[(false,eval b X.env)]:=by rfl):
  PI X tg (.Call (.Name "range" p) [a,b] [] pos) (BA ta):=by
 intro pins s σ H R I h
 refine Call_ (dR I hg hm boot_range (PyProof.Rows.callWith_type1 (thn (ha pos pins s σ H _ I h) fun us s1 ⟨vs,H1,I1,r1,q1⟩=>?_) (by rw [hs,hs2]) (by rw [hs2];rfl)))
 obtain ⟨i,j,e,⟨q1,q2,q3,q4⟩,q⟩:=q1
 subst e
 cases r1 with
 |cons r rr=>
  cases rr with
  |cons r' rr=>
   cases rr
   obtain ⟨t,rfl⟩:=r
   obtain ⟨t',rfl⟩:=r'
   exact call_range_2 (mF I1 q1 q2 q3 q4 q)
noncomputable def Cg (wi:TI) (g:TG) (tb:TS):TS:=fun D σ H=>wi σ H fun J H1=>∃W:Nat->Nat->St->Hp->Prop,(∃m,W 0 m σ H1)∧∀i m σ H,W i m σ H->
 (J.stop i H∧D.nx σ H)∨(J.go i H∧∃N:St->Hp->Prop,(∀σ' H',N σ' H'->∃m',m'<m∧W (i+1) m' σ' H')∧∀x H',J.yld i H x H'->g x σ H' fun σ2 H2=>tb {D with nx:=N,ct:=N,bk:=D.nx} σ2 H2)
noncomputable def bQ (fp:List Addr) (h:Heap):List (Addr×Obj):=fp.filterMap fun b=>(h.get? b).map fun o=>(b,o)
theorem bO {fp:List Addr} {h:Heap} {b:Addr} {o:Obj} (hb:b∈fp) (e:h.get? b=some o):(b,o)∈bQ fp h:=List.mem_filterMap.mpr ⟨b,hb,by rw [e];rfl⟩
theorem gv {fp:List Addr} {h:Heap} {p:Addr×Obj} (hp:p∈bQ fp h):p.1∈fp∧h.get? p.1=some p.2:=by
 obtain ⟨b,hb,e⟩:=List.mem_filterMap.mp hp
 cases q:h.get? b with
 |none=>rw [q] at e;cases e
 |some o=>
  rw [q] at e
  have e':(b,o)=p:=Option.some.inj e
  subst e'
  exact ⟨hb,q⟩
theorem Inv.pinned {pins:List (Addr×Obj)} {σ:St} {H:Hp} {s:Shared} {fp:List Addr} (I:Inv X pins σ H s) (hf:∀b∈fp,a9 X pins H b) (ho:∀b∈fp,∃o,s.heap.get? b=some o∧∀v,o.data≠.cell v):Inv X (pins++bQ fp s.heap) σ H s:=
 I.jq fun p hp=>(List.mem_append.mp hp).elim (fun z=>I.pin p (List.mem_append_right _ z)) fun z=>by
  obtain ⟨hb,e⟩:=gv z
  obtain ⟨f0,f1,f2,_⟩:=hf p.1 hb
  obtain ⟨o,e',d⟩:=ho p.1 hb
  rw [e] at e';cases e'
  exact ⟨e,f0,f1,f2,d⟩
theorem Inv.cu {pins pl:List (Addr×Obj)} {σ:St} {H:Hp} {s:Shared} (I:Inv X (pins++pl) σ H s):Inv X pins σ H s:=I.jq fun p hp=>I.pin p (List.mem_append_right _ (List.mem_append_left _ hp))
theorem qi {iter:Expr} {body:List Stmt} {wi:TI} {g:TG} {tb:TS} {pos:Pos} (hp:PassesOwn (model X.prog X.w) X.A X.env X.xe) (hc:X.calm=true) (hi:PI X tg iter wi) (hg:PG X tg g) (hb:PSs X body tb)
  (hs:∀x,foldedSetIterable iter X.env x=pure x:=by intro _;rfl):PS X (.For tg iter body [] pos) (Cg wi g tb):=by
 intro pins s σ H D I h
 refine wpAny_For (thn (hi pins s σ H _ I h) fun v s1 h1=>thn h1 fun itv s2 h2=>?_) hs
 obtain ⟨it,fp,tn,J,H2,e,I2,T,st2,f2,W,⟨m0,w0⟩,turn⟩:=h2
 subst e
 have stat:∀{H':Hp},(∀b∈fp,H' b=none)->∀b∈fp,a9 X pins H' b:=fun hn b hb=>⟨hn b hb,(f2 b hb).2⟩
 refine codeAny_forLoop_any (fun n s'=>∃i σ' H',Inv X pins σ' H' s'∧tn i s'.heap∧(∀b∈fp,H' b=none)∧W i n σ' H') ?_ m0 ⟨0,σ,H2,I2,st2,fun b hb=>(f2 b hb).1,w0⟩
 rintro n s3 ⟨i,σ3,H3,I3,st3,fr3,w3⟩
 rcases turn i n σ3 H3 w3 with ⟨stop,qn⟩|⟨go,N,hN,step⟩
 ·refine wpAny_passesOwn hp (thn (T.done X rfl rfl rfl hc i pins s3 σ3 H3 X.xe I3 (stat fr3) st3 stop) fun r s4 ⟨hr,I4⟩=>?_)
  subst hr
  exact wpAny_execs_nil ⟨σ3,H3,I4,qn⟩
 ·refine wpAny_passesOwn hp (thn (T.item X rfl rfl rfl hc i pins s3 σ3 H3 X.xe I3 (stat fr3) st3 go) fun r s4 ⟨u,hr,h4⟩=>?_)
  subst hr
  refine wpAny_passesOwn hp (thn h4 fun _ s5 ⟨x,H5,I5,r5,y5,st5,fr5⟩=>?_)
  have I5':=I5.pinned (stat fr5) (T.obj _ _ st5)
  refine wpAny_passesOwn hp (thn (hg _ s5 σ3 H5 x u _ I5' r5 (step x H5 y5)) fun _ s6 ⟨σ6,H6,I6,q6⟩=>?_)
  refine wpAny_passesOwn hp (thn (hb _ s6 σ6 H6 _ I6 q6) fun f s7 q7=>?_)
  have again:∀{σ7:St} {H7:Hp},Inv X (pins++bQ fp s5.heap) σ7 H7 s7->N σ7 H7->∃m,m<n∧∃i σ' H',Inv X pins σ' H' s7∧tn i s7.heap∧(∀b∈fp,H' b=none)∧W i m σ' H':=fun {σ7 H7} I7 n7=>by
   obtain ⟨m',hm,w7⟩:=hN σ7 H7 n7
   refine ⟨m',hm,i+1,σ7,H7,I7.cu,T.keep _ _ _ st5 fun b hb o e=>(I7.pin (b,o) (List.mem_append_right _ (List.mem_append_right _ (bO hb e)))).1,fun b hb=>?_,w7⟩
   obtain ⟨o,e,d⟩:=T.obj _ _ st5 b hb
   exact (I7.pin (b,o) (List.mem_append_right _ (List.mem_append_right _ (bO hb e)))).2.1
  cases f with
  |next=>obtain ⟨σ7,H7,I7,n7⟩:=q7;exact again I7 n7
  |cont=>obtain ⟨σ7,H7,I7,n7⟩:=q7;exact again I7 n7
  |brk=>obtain ⟨σ7,H7,I7,q7⟩:=q7;exact ⟨σ7,H7,I7.cu,q7⟩
  |ret v=>obtain ⟨x7,σ7,H7,I7,r7,q7⟩:=q7;exact ⟨x7,σ7,H7,I7.cu,r7,q7⟩
end
end L2
namespace L2
open PySem PySem.Spec PyProof.Rows
noncomputable abbrev R2:=V->V->Hp->VK->Prop
noncomputable def OpR (X:Cx) (f:Value->Value->Sem Value) (r:R2):Prop:=
 ∀(pins:List (Addr×Obj)) (s:Shared) (σ:St) (H:Hp) (x y:V) (v u:Value) (Q:VK),Inv X pins σ H s->RelV x v->RelV y u->r x y H Q->
  wpAny (model X.prog X.w) X.A (f v u) (EP X pins σ Q) X.xe s
noncomputable def UnR (X:Cx) (f:Value->Sem Value) (r:V->Hp->VK->Prop):Prop:=
 ∀(pins:List (Addr×Obj)) (s:Shared) (σ:St) (H:Hp) (x:V) (v:Value) (Q:VK),Inv X pins σ H s->RelV x v->r x H Q->
  wpAny (model X.prog X.w) X.A (f v) (EP X pins σ Q) X.xe s
noncomputable def cU (X:Cx) (f:Value) (r:List V->Hp->VK->Prop):Prop:=
 ∀(pins:List (Addr×Obj)) (s:Shared) (σ:St) (H:Hp) (xs:List V) (us:List Value) (Q:VK),Inv X pins σ H s->Vals xs us->r xs H Q->
  wpAny (model X.prog X.w) X.A (call f us) (EP X pins σ Q) X.xe s
noncomputable def tOp (r:R2) (ta tb:TE):TE:=fun σ H Q=>ta σ H fun x H1=>tb σ H1 fun y H2=>r x y H2 Q
noncomputable def tUn (r:V->Hp->VK->Prop) (ta:TE):TE:=fun σ H Q=>ta σ H fun x H1=>r x H1 Q
noncomputable def rI (C:Int->Int->Prop) (g:Int->Int->V):R2:=fun x y H Q=>∃i j,x=.int i∧y=.int j∧C i j∧Q (g i j) H
noncomputable def rI0 (g:Int->Int->V):R2:=fun x y H Q=>∃i j,x=.int i∧y=.int j∧Q (g i j) H
noncomputable def rU (g:Int->V):V->Hp->VK->Prop:=fun x H Q=>∃i,x=.int i∧Q (g i) H
section
variable {X:Cx} {a b c:Expr} {ta tb tc:TE} {pos:Pos}
theorem sS (ha:PE X a ta) (hb:PE X b tb) {pins:List (Addr×Obj)} {s:Shared} {σ:St} {H:Hp} {R:V->V->Hp->Prop} (I:Inv X pins σ H s)
  (h:ta σ H fun x H1=>tb σ H1 fun y H2=>R x y H2) {Q:Value->Shared->Prop} {f:Value->Value->Sem Value}
  (hf:∀v u s2 x y H2,Inv X pins σ H2 s2->RelV x v->RelV y u->R x y H2->wpAny (model X.prog X.w) X.A (f v u) Q X.xe s2):
  wpAny (model X.prog X.w) X.A (eval a X.env) (fun v s₁=>wpAny (model X.prog X.w) X.A (eval b X.env) (fun u s₂=>wpAny (model X.prog X.w) X.A (f v u) Q X.xe s₂) X.xe s₁) X.xe s:=by
 refine thn (ha pins s σ H _ I h) fun v s1 ⟨x,H1,I1,r1,q1⟩=>?_
 refine thn (hb pins s1 σ H1 _ I1 q1) fun u s2 ⟨y,H2,I2,r2,q2⟩=>?_
 exact hf v u s2 x y H2 I2 r1 r2 q2
theorem AX {op:Operator} {r:R2} (ho:OpR X (binaryOp op) r) (ha:PE X a ta) (hb:PE X b tb):PE X (.BinOp a op b pos) (tOp r ta tb):=by
 intro pins s σ H Q I h
 exact wpAny_BinOp (sS ha hb I h fun v u s2 x y H2 I2 rx ry q=>ho pins s2 σ H2 x y v u Q I2 rx ry q)
theorem AB {op:UnaryOp} {r:V->Hp->VK->Prop} (ho:UnR X (unaryOp op) r) (ha:PE X a ta):PE X (.UnaryOp op a pos) (tUn r ta):=by
 intro pins s σ H Q I h
 exact UnaryOp_ (thn (ha pins s σ H _ I h) fun v s1 ⟨x,H1,I1,r1,q1⟩=>ho pins s1 σ H1 x v Q I1 r1 q1)
theorem opI {f:Value->Value->Sem Value} {C:Int->Int->Prop} {g:Int->Int->Int}
  (rule:∀(i j:Int) (t u:Tok) (s:Shared) (Q:Value->Shared->Prop) (E:Value->Shared->Prop),C i j->Q (.int (g i j) s.toks) {s with toks:=s.toks+1}->wpAny (model X.prog X.w) X.A (f (.int i t) (.int j u)) Q E s):
  OpR X f (rI C fun i j=>.int (g i j)):=by
 intro pins s σ H x y v u Q I rx ry h
 obtain ⟨i,j,rfl,rfl,hc,q⟩:=h
 obtain ⟨t,rfl⟩:=rx
 obtain ⟨t',rfl⟩:=ry
 exact rule i j t t' s _ _ hc ⟨.int (g i j),H,I.tok _,⟨_,rfl⟩,q⟩
theorem zG {f:Value->Value->Sem Value} {g:Int->Int->Int}
  (rule:∀(i j:Int) (t u:Tok) (s:Shared) (Q:Value->Shared->Prop) (E:Value->Shared->Prop),Q (.int (g i j) s.toks) {s with toks:=s.toks+1}->wpAny (model X.prog X.w) X.A (f (.int i t) (.int j u)) Q E s):
  OpR X f (rI0 fun i j=>.int (g i j)):=by
 intro pins s σ H x y v u Q I rx ry h
 obtain ⟨i,j,rfl,rfl,q⟩:=h
 obtain ⟨t,rfl⟩:=rx
 obtain ⟨t',rfl⟩:=ry
 exact rule i j t t' s _ _ ⟨.int (g i j),H,I.tok _,⟨_,rfl⟩,q⟩
theorem o_ {f:Value->Value->Sem Value} {g:Int->Int->Bool}
  (rule:∀(i j:Int) (t u:Tok) (s:Shared) (Q:Value->Shared->Prop) (E:Value->Shared->Prop),Q (.bool (g i j)) s->wpAny (model X.prog X.w) X.A (f (.int i t) (.int j u)) Q E s):
  OpR X f (rI0 fun i j=>.bl (g i j)):=by
 intro pins s σ H x y v u Q I rx ry h
 obtain ⟨i,j,rfl,rfl,q⟩:=h
 obtain ⟨t,rfl⟩:=rx
 obtain ⟨t',rfl⟩:=ry
 exact rule i j t t' s _ _ ⟨.bl (g i j),H,I,rfl,q⟩
noncomputable def pE (i j:Int):Prop:=0<j∧j<1073741824
noncomputable def iI (i j:Int):Prop:=(-(2^64)<i∧i<2^64)∨(-(2^64)<j∧j<2^64)
theorem iI.ok {i j:Int} (h:iI i j):IntMulOk i j:=by
 rcases h with ⟨h1,h2⟩|⟨h1,h2⟩
 ·exact .of_left (intBits_le_64 h1 h2)
 ·exact .of_right (intBits_le_64 h1 h2)
theorem two_pow_nn (k:Nat):(0:Int)<=2^k:=by
 rw [two_pow_cast]
 exact Int.natCast_nonneg _
theorem zL:OpR X (binaryOp .Add) (rI0 fun i j=>.int (i+j)):=zG fun _ _ _ _ _ _ _ q=>add_int q
theorem zA:OpR X (binaryOp .Sub) (rI0 fun i j=>.int (i - j)):=zG fun _ _ _ _ _ _ _ q=>sub_int q
theorem zO:OpR X (binaryOp .Mult) (rI iI fun i j=>.int (i*j)):=opI fun _ _ _ _ _ _ _ hc q=>mul_int q hc.ok
theorem wR:OpR X (binaryOp .FloorDiv) (rI pE fun i j=>.int (i / j)):=opI fun i j _ _ _ _ _ hc q=>by
 have h1:(0:Int)<j:=hc.1
 have h2:j<1073741824:=hc.2
 exact floordiv_int (by omega) (by rw [Int.fdiv_eq_ediv_of_nonneg i (by omega)];exact q) (.inl (PyProof.noPylong_small (by omega)))
theorem ym:OpR X (binaryOp .Mod) (rI (fun _ j=>0<j) fun i j=>.int (i%j)):=opI fun i j _ _ _ _ _ hc q=>by
 have h1:(0:Int)<j:=hc
 exact mod_int' (by omega) (by rw [Int.fmod_eq_emod_of_nonneg i (by omega)];exact q)
theorem yx:OpR X (binaryOp .RShift) (rI (fun _ j=>0<=j) fun i j=>.int (i / 2^j.toNat)):=opI fun i j _ _ _ _ _ hc q=>
 rshift_int hc (by rw [Int.fdiv_eq_ediv_of_nonneg i (two_pow_nn _)];exact q)
theorem unI {f:Value->Sem Value} {g:Int->Int}
  (rule:∀(i:Int) (t:Tok) (s:Shared) (Q:Value->Shared->Prop) (E:Value->Shared->Prop),Q (.int (g i) s.toks) {s with toks:=s.toks+1}->wpAny (model X.prog X.w) X.A (f (.int i t)) Q E s):
  UnR X f (rU fun i=>.int (g i)):=by
 intro pins s σ H x v Q I rx h
 obtain ⟨i,rfl,q⟩:=h
 obtain ⟨t,rfl⟩:=rx
 exact rule i t s _ _ ⟨.int (g i),H,I.tok _,⟨_,rfl⟩,q⟩
theorem zP:UnR X (unaryOp .USub) (rU fun i=>.int (-i)):=unI fun _ _ _ _ _ q=>neg_int q
end
noncomputable def pq:V->V->Bool
 |.non,.non=>true|.non,.int _=>true|.int _,.non=>true|.non,.bl _=>true|.bl _,.non=>true|.non,.str _=>true|.str _,.non=>true
 |.int _,.int _=>true|.bl _,.bl _=>true|.str _,.str _=>true|.byt _,.byt _=>true
 |.int _,.str _=>true|.str _,.int _=>true|.bl _,.str _=>true|.str _,.bl _=>true
 |_,_=>false
noncomputable def rEq:R2:=fun x y H Q=>pq x y=true∧Q (.bl (decide (x=y))) H
noncomputable def rNe:R2:=fun x y H Q=>pq x y=true∧Q (.bl (!decide (x=y))) H
theorem nO {i j:Int}:decide (V.int i=V.int j)=(i==j):=by
 rw [Bool.eq_iff_iff]
 simp
theorem qj {i j:Bool}:decide (V.bl i=V.bl j)=(i==j):=by
 rw [Bool.eq_iff_iff]
 simp
theorem n6 {i j:Str}:decide (V.str i=V.str j)=(i==j):=by
 rw [Bool.eq_iff_iff]
 simp
theorem n_ {i j:Array UInt8}:decide (V.byt i=V.byt j)=(i.toList==j.toList):=by
 rw [Bool.eq_iff_iff]
 cases i
 cases j
 simp
section
variable {X:Cx} {a b c:Expr} {ta tb tc:TE} {pos:Pos}
theorem aB {pins:List (Addr×Obj)} {σ:St} {H:Hp} {s:Shared} {Q:VK} {k k':Bool} (I:Inv X pins σ H s) (q:Q (.bl k) H) (e:k=k'):EP X pins σ Q (.bool k') s:=by
 subst e
 exact ⟨.bl k,H,I,rfl,q⟩
theorem uu:OpR X (compareOp .Eq) rEq:=by
 intro pins s σ H x y v u Q I rx ry h
 obtain ⟨hs,q⟩:=h
 cases x with
 |non=>
  cases rx
  cases y with
  |non=>cases ry;exact PySem.EqNone.eq_none_none (aB I q (by simp))
  |bl j=>cases ry;exact PySem.EqNone.eq_none_bool (aB I q (by simp))
  |int j=>obtain ⟨t',rfl⟩:=ry;exact PySem.EqNone.eq_none_int (aB I q (by simp))
  |str j=>obtain ⟨t',rfl⟩:=ry;exact PySem.EqNone.eq_none_str (aB I q (by simp))
  |_=>exact absurd (show false=true from hs) Bool.false_ne_true
 |bl i=>
  cases rx
  cases y with
  |non=>cases ry;exact PySem.EqNone.eq_bool_none (aB I q (by simp))
  |bl j=>cases ry;exact eq_bool (aB I q qj)
  |str j=>obtain ⟨t',rfl⟩:=ry;exact PySem.EqMixed.eq_bool_str (aB I q (by simp))
  |_=>exact absurd (show false=true from hs) Bool.false_ne_true
 |int i=>
  obtain ⟨t,rfl⟩:=rx
  cases y with
  |non=>cases ry;exact PySem.EqNone.eq_int_none (aB I q (by simp))
  |int j=>obtain ⟨t',rfl⟩:=ry;exact eq_int (aB I q nO)
  |str j=>obtain ⟨t',rfl⟩:=ry;exact PySem.EqMixed.eq_int_str (aB I q (by simp))
  |_=>exact absurd (show false=true from hs) Bool.false_ne_true
 |str i=>
  obtain ⟨t,rfl⟩:=rx
  cases y with
  |non=>cases ry;exact PySem.EqNone.eq_str_none (aB I q (by simp))
  |bl j=>cases ry;exact PySem.EqMixed.eq_str_bool (aB I q (by simp))
  |int j=>obtain ⟨t',rfl⟩:=ry;exact PySem.EqMixed.eq_str_int (aB I q (by simp))
  |str j=>obtain ⟨t',rfl⟩:=ry;exact eq_str (aB I q n6)
  |_=>exact absurd (show false=true from hs) Bool.false_ne_true
 |byt i=>
  obtain ⟨t,rfl⟩:=rx
  cases y with
  |byt j=>obtain ⟨t',rfl⟩:=ry;exact PySem.W.eq_bytes (aB I q n_)
  |_=>exact absurd (show false=true from hs) Bool.false_ne_true
 |_=>cases y<;>exact absurd (show false=true from hs) Bool.false_ne_true
theorem uQ:OpR X (compareOp .NotEq) rNe:=by
 intro pins s σ H x y v u Q I rx ry h
 obtain ⟨hs,q⟩:=h
 cases x with
 |non=>
  cases rx
  cases y with
  |non=>cases ry;exact PySem.EqNone.ne_none_none (aB I q (by simp))
  |bl j=>cases ry;exact PySem.EqNone.ne_none_bool (aB I q (by simp))
  |int j=>obtain ⟨t',rfl⟩:=ry;exact PySem.EqNone.ne_none_int (aB I q (by simp))
  |str j=>obtain ⟨t',rfl⟩:=ry;exact PySem.EqNone.ne_none_str (aB I q (by simp))
  |_=>exact absurd (show false=true from hs) Bool.false_ne_true
 |bl i=>
  cases rx
  cases y with
  |non=>cases ry;exact PySem.EqNone.ne_bool_none (aB I q (by simp))
  |bl j=>cases ry;exact ne_bool (aB I q (congrArg not qj))
  |str j=>obtain ⟨t',rfl⟩:=ry;exact PySem.EqMixed.ne_bool_str (aB I q (by simp))
  |_=>exact absurd (show false=true from hs) Bool.false_ne_true
 |int i=>
  obtain ⟨t,rfl⟩:=rx
  cases y with
  |non=>cases ry;exact PySem.EqNone.ne_int_none (aB I q (by simp))
  |int j=>obtain ⟨t',rfl⟩:=ry;exact ne_int (aB I q (congrArg not nO))
  |str j=>obtain ⟨t',rfl⟩:=ry;exact PySem.EqMixed.ne_int_str (aB I q (by simp))
  |_=>exact absurd (show false=true from hs) Bool.false_ne_true
 |str i=>
  obtain ⟨t,rfl⟩:=rx
  cases y with
  |non=>cases ry;exact PySem.EqNone.ne_str_none (aB I q (by simp))
  |bl j=>cases ry;exact PySem.EqMixed.ne_str_bool (aB I q (by simp))
  |int j=>obtain ⟨t',rfl⟩:=ry;exact PySem.EqMixed.ne_str_int (aB I q (by simp))
  |str j=>obtain ⟨t',rfl⟩:=ry;exact ne_str (aB I q (congrArg not n6))
  |_=>exact absurd (show false=true from hs) Bool.false_ne_true
 |byt i=>
  obtain ⟨t,rfl⟩:=rx
  cases y with
  |byt j=>obtain ⟨t',rfl⟩:=ry;exact PySem.W.ne_bytes (aB I q (congrArg not n_))
  |_=>exact absurd (show false=true from hs) Bool.false_ne_true
 |_=>cases y<;>exact absurd (show false=true from hs) Bool.false_ne_true
theorem pj:OpR X (compareOp .Lt) (rI0 fun i j=>.bl (decide (i<j))):=o_ fun _ _ _ _ _ _ _ q=>lt_int q
theorem pK:OpR X (compareOp .LtE) (rI0 fun i j=>.bl (decide (i<=j))):=o_ fun _ _ _ _ _ _ _ q=>le_int q
theorem u7:OpR X (compareOp .Gt) (rI0 fun i j=>.bl (decide (j<i))):=o_ fun _ _ _ _ _ _ _ q=>gt_int q
theorem uB:OpR X (compareOp .GtE) (rI0 fun i j=>.bl (decide (j<=i))):=o_ fun _ _ _ _ _ _ _ q=>ge_int q
theorem qh:OpR X (compareOp .Is) (fun x y H Q=>y=.non∧Q (.bl (decide (x=.non))) H):=by
 intro pins s σ H x y v u Q I rx ry h
 obtain ⟨rfl,q⟩:=h
 cases ry
 refine is_none_gen (aB I q ?_)
 cases x<;>first
  |(cases rx;rfl)
  |(obtain ⟨t,rfl⟩:=rx;rfl)
theorem nI:OpR X (compareOp .IsNot) (fun x y H Q=>y=.non∧Q (.bl (!decide (x=.non))) H):=by
 intro pins s σ H x y v u Q I rx ry h
 obtain ⟨rfl,q⟩:=h
 cases ry
 refine isnot_none_gen (aB I q ?_)
 cases x<;>first
  |(cases rx;rfl)
  |(obtain ⟨t,rfl⟩:=rx;rfl)
theorem aP (b:Expr) {op:CmpOp} (h:op≠.In:=by decide) (h2:op≠.NotIn:=by decide):behindInMarks op b=false:=by
 have e1:(op==CmpOp.In)=false:=by cases op<;>first|rfl|exact absurd rfl h
 have e2:(op==CmpOp.NotIn)=false:=by cases op<;>first|rfl|exact absurd rfl h2
 cases b<;>simp [behindInMarks,e1,e2]
theorem vK {op:CmpOp} {r:R2} (ho:OpR X (compareOp op) r) (ha:PE X a ta) (hb:PE X b tb) (hm:behindInMarks op b=false):PE X (.Compare a [op] [b] pos) (tOp r ta tb):=by
 intro pins s σ H Q I h
 exact wpAny_Compare1 (sS ha hb I h fun v u s2 x y H2 I2 rx ry q=>ho pins s2 σ H2 x y v u Q I2 rx ry q) hm
noncomputable def Bp (t:TE):TT:=fun σ H Q=>t σ H fun x H'=>∃k,x=.bl k∧Q k H'
theorem vq {op:CmpOp} {r:R2} (ho:OpR X (compareOp op) r) (ha:PE X a ta) (hb:PE X b tb) (hm:behindInMarks op b=false):PT X (.Compare a [op] [b] pos) (Bp (tOp r ta tb)):=by
 intro pins s σ H Q I h
 refine wpAny_isTrue_Compare1 (thn (ha pins s σ H _ I h) fun v s1 ⟨x,H1,I1,r1,q1⟩=>thn (hb pins s1 σ H1 _ I1 q1) fun u s2 ⟨y,H2,I2,r2,q2⟩=>
  thn (ho pins s2 σ H2 x y v u _ I2 r1 r2 q2) fun c s3 ⟨z,H3,I3,r3,k,e,q3⟩=>?_) hm
 subst e
 cases r3
 exact wpAny_truthy_bool ⟨H3,I3,q3⟩
noncomputable def xS (r r':R2) (ta tb tc:TE):TE:=fun σ H Q=>ta σ H fun x H1=>tb σ H1 fun y H2=>r x y H2 fun z H3=>∃k,z=.bl k∧
 (if k=true then tc σ H3 fun w' H4=>r' y w' H4 Q else Q (.bl false) H3)
theorem sX {op op':CmpOp} {r r':R2} (ho:OpR X (compareOp op) r) (ho':OpR X (compareOp op') r') (ha:PE X a ta) (hb:PE X b tb) (hc:PE X c tc)
  (hm:lastMarks [op,op'] [b,c]=false:=by with_unfolding_all rfl):PE X (.Compare a [op,op'] [b,c] pos) (xS r r' ta tb tc):=by
 intro pins s σ H Q I h
 refine Compare_chain (thn (ha pins s σ H _ I h) fun v s1 ⟨x,H1,I1,r1,q1⟩=>chain_link (thn (hb pins s1 σ H1 _ I1 q1) fun u s2 ⟨y,H2,I2,r2,q2⟩=>
  thn (ho pins s2 σ H2 x y v u _ I2 r1 r2 q2) fun d s3 ⟨z,H3,I3,r3,k,e,q3⟩=>?_)) hm
 subst e
 cases r3
 refine wpAny_truthy_bool ?_
 cases k with
 |false=>exact ite_ff ⟨.bl false,H3,I3,rfl,q3⟩
 |true=>exact ite_tt (chain_last (thn (hc pins s3 σ H3 _ I3 q3) fun w' s4 ⟨z',H4,I4,r4,q4⟩=>ho' pins s4 σ H4 y z' u w' Q I4 r2 r4 q4))
theorem jd:(sizeLine:Nat)<2^63:=by rw [sizeLine_eq];decide
theorem vals1 {x:V} {us:List Value} (r:Vals [x] us):∃u,us=[u]∧RelV x u:=by
 cases r with
 |cons r1 r2=>cases r2;exact ⟨_,rfl,r1⟩
theorem vals2 {x y:V} {us:List Value} (r:Vals [x,y] us):∃u w',us=[u,w']∧RelV x u∧RelV y w':=by
 cases r with
 |cons r1 r2=>
  cases r2 with
  |cons r3 r4=>cases r4;exact ⟨_,_,rfl,r1,r3⟩
theorem uf:cU X (.builtin "abs") (fun xs H Q=>∃i,xs=[.int i]∧Q (.int (if i<0 then -i else i)) H):=by
 intro pins s σ H xs us Q I r h
 obtain ⟨i,rfl,q⟩:=h
 obtain ⟨u,rfl,t,rfl⟩:=vals1 r
 exact call_abs_int fun u tk=>⟨.int (if i<0 then -i else i),H,I.tok _,⟨_,rfl⟩,q⟩
theorem qP (hc:X.calm=true):cU X (.builtin "max") (fun xs H Q=>∃i j,xs=[.int i,.int j]∧Q (.int (if j>i then j else i)) H):=by
 intro pins s σ H xs us Q I r h
 obtain ⟨i,j,rfl,q⟩:=h
 obtain ⟨u,w',rfl,⟨t,rfl⟩,⟨t',rfl⟩⟩:=vals2 r
 refine max_two_ints (I.ok.hd hc) fun h' tk k=>⟨_,H,I.kept k,?_,q⟩
 by_cases hj:j>i
 ·rw [if_pos hj,if_pos hj];exact ⟨_,rfl⟩
 ·rw [if_neg hj,if_neg hj];exact ⟨_,rfl⟩
theorem qM:cU X (.type "int") (fun xs H Q=>(∃i,xs=[.int i]∧Q (.int i) H)∨∃k,xs=[.bl k]∧Q (.int (if k then 1 else 0)) H):=by
 intro pins s σ H xs us Q I r h
 rcases h with ⟨i,rfl,q⟩|⟨k,rfl,q⟩
 ·obtain ⟨u,rfl,t,rfl⟩:=vals1 r
  exact call_int_int ⟨.int i,H,I,⟨_,rfl⟩,q⟩
 ·obtain ⟨u,rfl,r1⟩:=vals1 r
  cases r1
  exact call_int_bool ⟨.int (if k then 1 else 0),H,I.tok _,⟨_,rfl⟩,q⟩
end
end L2
namespace L2
open PySem PySem.Spec PyProof.Rows
structure ia (h:Heap) (x dx C:Addr) (mA:Str->Option Value):Prop where
 obj:h.get? x=some (PySem.W.instObj C dx)
 ns:h.Ns1 dx mA
 ne:dx≠x
theorem jS {h:Heap} {dx:Addr} {mA:Str->Option Value} (n:h.Ns1 dx mA):∃od,h.get? dx=some od∧∀name,PySem.W.lookIn name od=some (mA name):=by
 obtain ⟨o,es,ep,ho,hd,hk,_,hm⟩:=n
 refine ⟨o,ho,fun name=>?_⟩
 have e:=hm name
 unfold nsFind findBy at e
 rw [←Array.find?_toList] at e
 unfold PySem.W.lookIn
 rw [hd]
 dsimp only
 split
 ·rename_i y q
  rw [q] at e
  exact congrArg some e
 ·rename_i q
  rw [q] at e
  have a:es.toList.any (·.refKey)=false:=by
   rw [List.any_eq_false]
   intro y hy
   obtain ⟨z,t,hkey⟩:=hk y (Array.mem_toList_iff.mp hy)
   simp [DictEntry.refKey,hkey]
  have a':¬es.toList.any (·.refKey)=true:=by rw [a];exact Bool.false_ne_true
  rw [if_neg a']
  exact congrArg some e
theorem ia.look {h:Heap} {x dx C:Addr} {mA:Str->Option Value} (I:ia h x dx C mA):∃od,PySem.W.InstAt h x (PySem.W.instObj C dx) C (some od)∧∀name,PySem.W.lookIn name od=some (mA name):=
 let ⟨od,ho,hl⟩:=jS I.ns
 ⟨od,⟨I.obj,rfl,rfl,ho⟩,hl⟩
section
variable {prog:Program} {w:World} {A:Around} {E:Value->Shared->Prop} {s:Shared} {K:PySem.W.Frag} {x dx C f:Addr} {mA:Str->Option Value} {name:Str} {v:Value}
theorem get_map {expr:Bool} {Q:Value->Shared->Prop} (X:K.In s.heap) (I:ia s.heap x dx C mA) (hg:PySem.W.plainGet K C name=true) (hh:PySem.W.hasDictIn K C=true)
  (ha:PySem.W.findIn K (.ref C) name=some none) (hv:mA name=some v) (hv':PySem.W.handedIn v=true) (h:Q v {s with toks:=s.toks+1}):
  wpAny (model prog w) A (getAttr (.ref x) name expr) Q E s:=by
 obtain ⟨od,J,hl⟩:=I.look
 exact PySem.W.get_value X J (PySem.W.plainGet_of hg).1 (PySem.W.findObj_own hh ha rfl (by rw [hl,hv])) hv' h
theorem r8 {pl:Sem Bool} {Q:Value×List Value->Shared->Prop} (X:K.In s.heap) (I:ia s.heap x dx C mA) (hg:PySem.W.plainGet K C name=true)
  (hf:PySem.W.findIn K (.ref C) name=some (some (.ref f))) (ht:PySem.W.isFn K (.ref f)=true) (hv:mA name=none) (h:Q (.ref f,[.ref x]) s):
  wpAny (model prog w) A (getMethod (.ref x) name pl) Q E s:=by
 obtain ⟨od,J,hl⟩:=I.look
 exact PySem.W.method_fn X J (PySem.W.plainGet_of hg).1 (PySem.W.plainGet_of hg).2 hf (beq_iff_eq.mp ht) (by show (PySem.W.lookIn name od).map (·.isSome)=some false;rw [hl,hv];rfl) h
theorem xn {ns:List Str} {Q:Unit->Shared->Prop} (X:K.In s.heap) (I:ia s.heap x dx C mA)
  (hs:PySem.W.findIn K (.ref C) "__setattr__"=some (some (.builtin "object.__setattr__"))) (hp:PySem.W.plainOver K C=true) (ht:PySem.W.takerIn K C name=some none) (hh:PySem.W.hasDictIn K C=true)
  (hw:PySem.Within mA ns) (hsz:ns.length<=sizeLine)
  (h:∀h',ia h' x dx C (fun y=>if y=name then some v else mA y)->Heap.SameBut dx s.heap h'->Q () {s with heap:=h',toks:=s.toks+2}):
  wpAny (model prog w) A (setAttr (.ref x) name v) Q E s:=by
 obtain ⟨od,J,hl⟩:=I.look
 refine PySem.W.set_plain X J hs (PySem.W.osa_open (s:={s with toks:=s.toks+1}) (r:=none) X J hp ht fun b=>?_)
 obtain ⟨cd,hc,hd'⟩:=PySem.W.any_some hh
 have hx:s.heap.get? x=some ⟨.ref C,some dx,.plain,#[]⟩:=I.obj
 refine wpAny_bind (wpAny_pure (wpAny_bind (wpAny_bind (wpAny_loadPart hx (wpAny_bind (PySem.W.Looks.here (s:={s with toks:=s.toks+1}) (PySem.W.looks_clsIn X hc) ?_))))))
 rw [hd']
 refine wpAny_pure (a:=some dx) (wpAny_bind (wpAny_pure (wpAny_bind ?_)))
 refine wpAny_nsSet1 (s:={s with toks:=s.toks+1}) I.ns fun h' hn2 hs2=>?_
 obtain ⟨oD,esD,epD,hoD,hdD,hcD⟩:=hn2.count (PySem.Within.cons name v hw)
 refine wpAny_bind (wpAny_lookBehind hoD (by rw [hdD];exact pastItsLine_dict (Nat.le_trans hcD (by rw [List.length_cons];omega))) ?_)
 exact wpAny_pure (h _ ⟨(hs2.2 _ (Ne.symm I.ne)).trans I.obj,hn2,I.ne⟩ hs2)
theorem mQ {R:Result->Shared->Prop} {vs:List Value} {kw:List (Str×Value)} (X:K.In s.heap) (hm:PySem.W.makesIn K C=true)
  (hi:PySem.W.findIn K (.ref C) "__init__"=some (some (.ref f))) (hf:PySem.W.typeIn K (.ref f)=some (.type "function"))
  (h:codeAny (model prog w) (A.under (.builtin "type.__call__" ⟨.ref C::vs,kw⟩)) (.call (.ref f) ⟨.ref (s.heap.objs.size+1)::vs,kw⟩) (PySem.W.InitBack (s.heap.objs.size+1) R)
   {s with heap:=(s.heap.push PySem.W.emptyDict).push (PySem.W.instObj C s.heap.objs.size)}):
  codeAny (model prog w) A (.call (.ref C) ⟨vs,kw⟩) R s:=by
 obtain ⟨hh,g,d,t,os⟩:=s
 exact PySem.W.make_core (PySem.W.makes_of X hm) (PySem.W.looks_findIn X hi) (fun self=>PySem.W.bind_fn X self hf) (.inl rfl) h
end
noncomputable def bY (f:Str) (v:V):List (Str×V)->List (Str×V)
 |[]=>[(f,v)]
 |(g,x)::r=>if g=f then (g,v)::r else (g,x)::bY f v r
theorem gZ (f g:Str) (v:V):∀fs:List (Str×V),(bY f v fs).lookup g=if g=f then some v else fs.lookup g
 |[]=>by
  show List.lookup g [(f,v)]=_
  by_cases h:g=f
  ·have hb:(g==f)=true:=beq_iff_eq.mpr h
   simp only [List.lookup,hb,if_pos h]
  ·have hb:(g==f)=false:=beq_eq_false_iff_ne.mpr h
   simp only [List.lookup,hb,if_neg h]
 |(k,x)::r=>by
  have ih:=gZ f g v r
  rw [show bY f v ((k,x)::r)=(if k=f then (k,v)::r else (k,x)::bY f v r) from rfl]
  by_cases hk:k=f
  ·rw [if_pos hk]
   by_cases h:g=k
   ·have hb:(g==k)=true:=beq_iff_eq.mpr h
    simp only [List.lookup,hb,if_pos (h.trans hk)]
   ·have hb:(g==k)=false:=beq_eq_false_iff_ne.mpr h
    simp only [List.lookup,hb,if_neg (fun e:g=f=>h (e.trans hk.symm))]
  ·rw [if_neg hk]
   by_cases h:g=k
   ·have hb:(g==k)=true:=beq_iff_eq.mpr h
    simp only [List.lookup,hb,if_neg (fun e:g=f=>hk (h.symm.trans e))]
   ·have hb:(g==k)=false:=beq_eq_false_iff_ne.mpr h
    simp only [List.lookup,hb]
    exact ih
theorem gF (f:Str) (v:V):∀fs:List (Str×V),f∈(bY f v fs).map (·.1)∧∀g,g∈fs.map (·.1)->g∈(bY f v fs).map (·.1)
 |[]=>⟨by simp [bY],fun g h=>by simp at h⟩
 |(k,x)::r=>by
  obtain ⟨i1,i2⟩:=gF f v r
  rw [show bY f v ((k,x)::r)=(if k=f then (k,v)::r else (k,x)::bY f v r) from rfl]
  by_cases hk:k=f
  ·rw [if_pos hk]
   subst hk
   exact ⟨by simp,fun g h=>by simpa using h⟩
  ·rw [if_neg hk]
   refine ⟨?_,fun g h=>?_⟩
   ·rw [List.map_cons]
    exact List.mem_cons_of_mem _ i1
   ·rw [List.map_cons] at h ⊢
    rcases List.mem_cons.mp h with e|e
    ·exact List.mem_cons.mpr (.inl e)
    ·exact List.mem_cons_of_mem _ (i2 g e)
theorem g_ (f:Str) (v:V):∀fs:List (Str×V),(bY f v fs).length<=fs.length+1
 |[]=>by simp [bY]
 |(k,x)::r=>by
  have ih:=g_ f v r
  rw [show bY f v ((k,x)::r)=(if k=f then (k,v)::r else (k,x)::bY f v r) from rfl]
  by_cases hk:k=f
  ·rw [if_pos hk,List.length_cons,List.length_cons];omega
  ·rw [if_neg hk,List.length_cons,List.length_cons];omega
theorem cK.some_of {v:V} {o:Option Value} (r:cK (some v) o):∃u,o=some u∧RelV v u:=by
 cases o with
 |none=>exact (show False from r).elim
 |some u=>exact ⟨u,rfl,r⟩
theorem cK.none_of {o:Option Value} (r:cK none o):o=none:=by
 cases o with
 |none=>rfl
 |some u=>exact (show False from r).elim
theorem kB {v:V} {u:Value} (r:RelV v u):PySem.W.handedIn u=true:=by
 cases v with
 |non=>cases (show u=Value.none from r);rfl
 |bl b=>cases (show u=Value.bool b from r);rfl
 |int i=>obtain ⟨t,e⟩:=(show ∃t,u=Value.int i t from r);cases e;rfl
 |str x=>obtain ⟨t,e⟩:=(show ∃t,u=Value.str x t from r);cases e;rfl
 |byt b=>obtain ⟨t,e⟩:=(show ∃t,u=Value.bytes b t from r);cases e;rfl
 |flt b=>obtain ⟨t,e⟩:=(show ∃t,u=Value.float b t from r);cases e;rfl
 |ref a=>cases (show u=Value.ref a from r);rfl
 |ty n=>cases (show u=Value.type n from r);rfl
section
variable {P:Program} {w:World} {H H':Hp} {h h':Heap} {a C dx:Addr} {fs fs':List (Str×V)}
theorem gT (hok:HOk P w H h) (e:H a=some (.ins C dx fs)):∃mA,ia h a dx C mA∧(∀f,cK (fs.lookup f) (mA f))∧PySem.Within mA (fs.map (·.1))∧fs.length<=1000∧H dx=some (.own a):=by
 obtain ⟨d,z,ne,ob,mA,n,r,q⟩:=(show aT P w H h a (.ins C dx fs) from hok a _ e)
 exact ⟨mA,⟨ob,n,ne⟩,r,q,z,d⟩
end
structure Cls (K:PySem.W.Frag) (C:Addr):Prop where
 pg:PySem.W.plainGet K C Str.empty=true
 hd:PySem.W.hasDictIn K C=true
 po:PySem.W.plainOver K C=true
 sa:PySem.W.findIn K (.ref C) "__setattr__"=some (some (.builtin "object.__setattr__"))
theorem Cls.get {K:PySem.W.Frag} {C:Addr} (c:Cls K C) (f:Str):PySem.W.plainGet K C f=true:=c.pg
noncomputable def a7 (K:PySem.W.Frag) (C:Addr) (f:Str):Prop:=PySem.W.findIn K (.ref C) f=some none
theorem a7.AI {K:PySem.W.Frag} {C:Addr} {f:Str} (n:a7 K C f):PySem.W.takerIn K C f=some none:=by
 unfold PySem.W.takerIn
 rw [show PySem.W.findIn K (.ref C) f=some none from n]
 rfl
structure Meth (K:PySem.W.Frag) (C:Addr) (m:Str) (f:Addr):Prop where
 at_:PySem.W.findIn K (.ref C) m=some (some (.ref f))
 fn:PySem.W.isFn K (.ref f)=true
 kp:PySem.W.keepIn K (.ref f)=true
section
variable {X:Cx} {pins:List (Addr×Obj)} {σ:St} {H:Hp} {s:Shared} {a C dx:Addr} {fs:List (Str×V)} {f:Str} {v:V} {A:Around} {E:Value->Shared->Prop}
theorem oB {b:Bool} {Q:Value->Shared->Prop} (I:Inv X pins σ H s) (e:H a=some (.ins C dx fs)) (c:Cls X.K C) (n:a7 X.K C f) (l:fs.lookup f=some v)
  (h:∀u s',Inv X pins σ H s'->RelV v u->Q u s'):wpAny (model X.prog X.w) A (getAttr (.ref a) f b) Q E s:=by
 obtain ⟨mA,O,r,_,_,_⟩:=gT I.hok e
 obtain ⟨u,hu,ru⟩:=cK.some_of (v:=v) (o:=mA f) (by rw [←l];exact r f)
 exact get_map I.kIn O (c.get f) c.hd n hu (kB ru) (h u _ (I.tok _) ru)
theorem eg {m:Str} {g:Addr} {pl:Sem Bool} {Q:Value×List Value->Shared->Prop} (I:Inv X pins σ H s) (e:H a=some (.ins C dx fs)) (c:Cls X.K C) (k:Meth X.K C m g) (l:fs.lookup m=none)
  (h:Q (.ref g,[.ref a]) s):wpAny (model X.prog X.w) A (getMethod (.ref a) m pl) Q E s:=by
 obtain ⟨mA,O,r,_,_,_⟩:=gT I.hok e
 have hn:mA m=none:=cK.none_of (by rw [←l];exact r m)
 exact r8 I.kIn O (c.get m) k.at_ k.fn hn h
theorem o6 {y:V} {u:Value} {Q:Unit->Shared->Prop} (I:Inv X pins σ H s) (e:H a=some (.ins C dx fs)) (c:Cls X.K C) (n:a7 X.K C f) (hl:fs.length<1000) (ry:RelV y u)
  (h:∀s',Inv X pins σ (upd H a (.ins C dx (bY f y fs))) s'->Q () s'):wpAny (model X.prog X.w) A (setAttr (.ref a) f u) Q E s:=by
 obtain ⟨mA,O,r,wi,_,ho⟩:=gT I.hok e
 have hz:(fs.map (·.1)).length<=sizeLine:=by rw [List.length_map,sizeLine_eq];omega
 refine xn I.kIn O c.sa c.po n.AI c.hd wi hz fun h' O' sb=>h _ ?_
 have hd:∃o,h'.get? dx=some o:=let ⟨o,_,_,e',_⟩:=O'.ns;⟨o,e'⟩
 refine I.write (x:=a) (e:=dx) (by rw [e];exact True.intro) (.inr ho) (fun b q hb z=>(sb.2 b hb).trans z) hd ?_
 refine ⟨by rw [ag O.ne];exact ho,?_,O.ne,O'.obj,_,O'.ns,fun g=>?_,fun g hg=>?_⟩
 ·have:=g_ f y fs;omega
 ·show cK ((bY f y fs).lookup g) (if g=f then some u else mA g)
  rw [gZ]
  by_cases q:g=f
  ·rw [if_pos q,if_pos q];exact ry
  ·rw [if_neg q,if_neg q];exact r g
 ·by_cases q:g=f
  ·rw [q];exact (gF f y fs).1
  ·refine (gF f y fs).2 g (wi g fun z=>hg ?_)
   show (if g=f then some u else mA g)=none
   rw [if_neg q];exact z
theorem Inv.made (I:Inv X pins σ H s):Inv X pins σ (upd (upd H s.heap.objs.size (.own (s.heap.objs.size+1))) (s.heap.objs.size+1) (.ins C s.heap.objs.size []))
  {s with heap:=(s.heap.push PySem.W.emptyDict).push (PySem.W.instObj C s.heap.objs.size)}:=by
 have e1:(s.heap.push PySem.W.emptyDict).get? s.heap.objs.size=some PySem.W.emptyDict:=Heap.get?_push_size s.heap rfl
 have e2:((s.heap.push PySem.W.emptyDict).push (PySem.W.instObj C s.heap.objs.size)).get? (s.heap.objs.size+1)=some (PySem.W.instObj C s.heap.objs.size):=by
  have:=Heap.get?_push_size (s.heap.push PySem.W.emptyDict) (o:=PySem.W.instObj C s.heap.objs.size) rfl
  rwa [Heap.size_push] at this
 have e3:(s.heap.push PySem.W.emptyDict).Ns s.heap.objs.size (fun _=>none):=⟨PySem.W.emptyDict,#[],_,e1,rfl,(fun e he=>absurd he (by simp)),fun _=>rfl⟩
 have I1:=I.laid (a:=s.heap.objs.size) (o:=.own (s.heap.objs.size+1)) (h':=s.heap.push PySem.W.emptyDict) (t':=s.toks) (fun b u q=>Heap.get?_push_of_some _ q) (Nat.le_refl _) ⟨_,e1⟩
 refine I1.laid (a:=s.heap.objs.size+1) (o:=.ins C s.heap.objs.size []) (t':=s.toks) (fun b u q=>Heap.get?_push_of_some _ q) (Nat.le_of_eq (Heap.size_push _ _)) ?_
 have ne:s.heap.objs.size≠s.heap.objs.size+1:=Nat.ne_of_lt (Nat.lt_succ_self _)
 refine ⟨by rw [ag ne,ao],Nat.zero_le _,ne,e2,fun _=>none,(Heap.Ns1.of_empty e3).at fun o q=>Heap.get?_push_of_some _ q,fun _=>True.intro,fun y hy=>absurd rfl hy⟩
theorem nR {prog:Program} {w:World} {env:Env} {e:Expr} {f:Str} {pos:Pos} {s:Shared} {Q:Value->Shared->Prop} (hb:attributeBase e f env (eval e env)=eval e env)
  (h:wpAny (model prog w) A (eval e env) (fun o s₁=>wpAny (model prog w) A (getAttr o f true) Q E s₁) E s):wpAny (model prog w) A (eval (.Attribute e f pos) env) Q E s:=
 Attribute_any_ h (by rw [arm_eval_Attribute,hb])
end
noncomputable def CH (K:PySem.W.Frag) (ta:TE) (f:Str):TE:=fun σ H Q=>ta σ H fun x H1=>∃a C dx fs v,x=.ref a∧H1 a=some (.ins C dx fs)∧Cls K C∧a7 K C f∧fs.lookup f=some v∧Q v H1
noncomputable def Cf (K:PySem.W.Frag) (ta tv:TE) (f:Str):TS:=fun D σ H=>tv σ H fun y H1=>ta σ H1 fun x H2=>∃a C dx fs,x=.ref a∧H2 a=some (.ins C dx fs)∧Cls K C∧a7 K C f∧fs.length<1000∧
 D.nx σ (upd H2 a (.ins C dx (bY f y fs)))
section
variable {X:Cx} {o e value:Expr} {f:Str} {pos pos' tpos:Pos} {ta tv:TE}
theorem zC (he:PE X e ta) (hb:attributeBase e f X.env (eval e X.env)=eval e X.env):PE X (.Attribute e f pos) (CH X.K ta f):=by
 intro pins s σ H Q I h
 refine nR hb (thn (he pins s σ H _ I h) fun u s1 ⟨x,H1,I1,rx,a,C,dx,fs,v,ex,ea,c,n,l,q⟩=>?_)
 subst ex
 obtain rfl:u=Value.ref a:=rx
 exact oB I1 ea c n l fun u' s2 I2 ru=>⟨v,H1,I2,ru,q⟩
theorem zu (ha:PE X o ta) (hv:PE X value tv) (hs:swapsWith value (some (.Attribute o f pos')) pos.line X.env=pure false):PS X (.Assign [.Attribute o f pos'] value pos) (Cf X.K ta tv f):=by
 intro pins s σ H D I h
 refine plainObj_wpAny_Assign_Attribute (thn (hv pins s σ H _ I h) fun u s1 ⟨y,H1,I1,ry,q⟩=>thn (ha pins s1 σ H1 _ I1 q) fun ov s2 ⟨x,H2,I2,rx,a,C,dx,fs,ex,ea,c,n,l,q2⟩=>?_) hs
 subst ex
 obtain rfl:ov=Value.ref a:=rx
 exact o6 I2 ea c n l ry fun s3 I3=>⟨σ,_,I3,q2⟩
end
end L2
namespace L2
open PySem PySem.Spec PyProof.Rows
structure ay (k:Nat) (A:Around):Prop where
 hd:A.handled=none
 dp:A.depth+3*k+5<recursionLimit
 un:A.units+16*k+200<cLine
theorem ay.mono {j k:Nat} {A:Around} (r:ay k A) (h:j<=k):ay j A:=⟨r.hd,by have:=r.dp;omega,by have:=r.un;omega⟩
theorem ay.deeper {k:Nat} {A:Around} (r:ay (k+1) A) (env:Env):ay k (A.deeper env):=
 ⟨r.hd,by have:=r.dp;show A.depth+1+3*k+5<_;omega,by have:=r.un;show A.units+3+16*k+200<_;omega⟩
theorem ow {A:Around} {C:Addr} {us:List Value} {kw:List (Str×Value)}:(A.under (.builtin "type.__call__" ⟨.ref C::us,kw⟩)).depth=A.depth+1:=by
 first|rfl|simp [Around.under,Code.weight,Code.isCreation,Code.isGuard,Code.isCaller,Code.frames,Code.isFrame,guardIds]
theorem oC {A:Around} {C:Addr} {us:List Value} {kw:List (Str×Value)}:(A.under (.builtin "type.__call__" ⟨.ref C::us,kw⟩)).units=A.units+1:=by
 first|rfl|simp [Around.under,Code.cUnits,Code.frames,Code.isFrame]
theorem ay.make {k:Nat} {A:Around} (r:ay (k+1) A) (C:Addr) (us:List Value) (kw:List (Str×Value)):ay k (A.under (.builtin "type.__call__" ⟨.ref C::us,kw⟩)):=
 ⟨r.hd,by have:=r.dp;rw [ow];omega,by have:=r.un;rw [oC];omega⟩
theorem ay.depth {k:Nat} {A:Around} (r:ay k A):A.depth<recursionLimit:=by have:=r.dp;omega
theorem ay.units {k:Nat} {A:Around} (r:ay k A):A.units+64<cLine:=by have:=r.un;omega
noncomputable def oM:TA:=fun _ H Q=>Q [] H
noncomputable def BK (ta:TE) (tr:TA):TA:=fun σ H Q=>ta σ H fun x H1=>tr σ H1 fun xs H2=>Q (x::xs) H2
section
variable {X:Cx} {e:Expr} {es:List Expr} {te:TE} {t:TA} {pos:Pos}
theorem rS:PA X [] oM:=fun _ _ _ _ H Q I h=>Calls.spliced_nil ⟨[],H,I,.nil,h⟩
theorem nM (ha:PE X e te) (hr:PA X es t) (hs:starEach (e::es) X.env=(false,eval e X.env)::starEach es X.env:=by rfl):PA X (e::es) (BK te t):=by
 intro pos pins s σ H Q I h
 rw [hs]
 show wpAny _ _ (spliced ((false,eval e X.env)::backTo pos (starEach es X.env))) _ _ s
 refine Calls.spliced_cons (thn (ha pins s σ H _ I h) fun u s1 ⟨x,H1,I1,r1,q1⟩=>?_)
 exact thn (hr pos pins s1 σ H1 _ I1 q1) fun us s2 ⟨xs,H2,I2,r2,q2⟩=>⟨x::xs,H2,I2,.cons r1 r2,q2⟩
noncomputable def BL (t:TA):TE:=fun σ H Q=>t σ H fun xs H1=>xs.length<=sizeLine∧∀p,H1 p=none->Q (.ref p) (upd H1 p (.tup xs))
noncomputable def CK (t:TA):TE:=fun σ H Q=>t σ H fun xs H1=>xs.length<=sizeLine∧∀p,H1 p=none->Q (.ref p) (upd H1 p (.lst xs))
theorem z9 {x1} (h:PA X es t):PE X (.Tuple es x1 pos) (BL t):=by
 intro pins s σ H Q I hq
 refine wpAny_Tuple_spliced (thn (h pos pins s σ H _ I hq) fun us s1 ⟨xs,H1,I1,r,z,q⟩=>⟨by rw [←r.length];exact z,?_⟩)
 have hf:H1 s1.heap.objs.size=none:=I1.hok.fresh (Nat.le_refl _)
 refine ⟨.ref s1.heap.objs.size,upd H1 s1.heap.objs.size (.tup xs),I1.laid (t':=s1.toks) (fun b u e=>Heap.get?_push_of_some _ e) (Nat.le_refl _) ?_,rfl,q _ hf⟩
 exact ⟨z,us,r,⟨_,Heap.get?_push_size _ rfl,rfl,_,rfl⟩⟩
theorem pR (h:PA X es t):PE X (.List es pos) (CK t):=by
 intro pins s σ H Q I hq
 refine wpAny_List_spliced (thn (h pos pins s σ H _ I hq) fun us s1 ⟨xs,H1,I1,r,z,q⟩=>⟨by rw [←r.length];exact z,?_⟩)
 have hf:H1 s1.heap.objs.size=none:=I1.hok.fresh (Nat.le_refl _)
 refine ⟨.ref s1.heap.objs.size,upd H1 s1.heap.objs.size (.lst xs),I1.laid (t':=s1.toks) (fun b u e=>Heap.get?_push_of_some _ e) (Nat.le_refl _) ?_,rfl,q _ hf⟩
 exact ⟨z,us,0,r,Heap.get?_push_size _ rfl⟩
end
noncomputable abbrev Sp:=List V->Hp->VK->XK->Prop
noncomputable abbrev CXT:=List Env->Hp->Shared->XK->Value->Shared->Prop
structure iA (P:Program) (w:World) (K:PySem.W.Frag) (mg:Str->Option Value) (base:Heap) (A:Around) (outer:List Env) (s:Shared) (H:Hp):Prop where
 frames:A.frames=some outer
 mod:Mod K mg base
 bs:∀b o,base.get? b=some o->s.heap.get? b=some o∧H b=none
 bsz:base.objs.size<=s.heap.objs.size
 cV:s.heap.FunFrames base outer
 frf:∀b∈frs outer,H b=none
 hok:HOk P w H s.heap
 bare:AllBare s.gens
noncomputable def CE (outer:List Env) (P:Program) (w:World) (H:Hp) (s:Shared) (Q:VK) (u:Value) (s':Shared):Prop:=
 ∃v H',s'.os=s.os∧AllBare s'.gens∧Un (frs outer) [] H H' s.heap s'.heap∧HOk P w H' s'.heap∧RelV v u∧Q v H'
noncomputable def CR (CX:CXT) (outer:List Env) (P:Program) (w:World) (H:Hp) (s:Shared) (Q:VK) (E:XK) (r:Result) (s':Shared):Prop:=
 match r with
 |.ok (.ret u)=>CE outer P w H s Q u s'
 |.ok _=>False
 |.error e=>CX outer H s E e s'
structure aw (P:Program) (w:World) (K:PySem.W.Frag) (mg:Str->Option Value) (base:Heap) (CX:CXT) (k:Nat) (f:Addr) (fd:FuncData) (ps:List Str) (sp:Sp):Prop where
 len:∀vs H Q E,sp vs H Q E->vs.length=ps.length
 run:∀(A:Around) (outer:List Env) (s:Shared) (H:Hp) (args:Args) (us:List Value) (vs:List V) (Q:VK) (E:XK),ay k A->iA P w K mg base A outer s H->BindsTo s fd args (ps.zip us)->Vals vs us->sp vs H Q E->
  codeAny (model P w) A (.call (.ref f) args) (CR CX outer P w H s Q E) s
theorem iA.make {P:Program} {w:World} {K:PySem.W.Frag} {mg:Str->Option Value} {base:Heap} {A:Around} {outer:List Env} {s:Shared} {H:Hp} (e:iA P w K mg base A outer s H) (C:Addr) (us:List Value) (kw:List (Str×Value)):
  iA P w K mg base (A.under (.builtin "type.__call__" ⟨.ref C::us,kw⟩)) outer s H:=⟨by first|exact e.frames|(simpa [Around.under,Code.envs,Code.isFrame,pushEnvs] using e.frames),e.mod,e.bs,e.bsz,e.cV,e.frf,e.hok,e.bare⟩
section
variable {X:Cx} {pins:List (Addr×Obj)} {σ:St} {H:Hp} {s s':Shared}
theorem Inv.ll (I:Inv X pins σ H s):iA X.prog X.w X.K X.mg X.base X.A X.stack s H:=
 ⟨I.ok.frames,I.ok.mod,I.bs,Nat.le_trans I.ok.bsz I.sz,I.stack,I.jK,I.hok,I.bare⟩
theorem Inv.after {Q:VK} {u:Value} (I:Inv X pins σ H s) (h:CE X.stack X.prog X.w H s Q u s'):EP X pins σ Q u s':=by
 obtain ⟨v,H',os,bare,un,hok,r,q⟩:=h
 obtain ⟨hh,g,d,t,os'⟩:=s'
 obtain rfl:os'=s.os:=os
 exact ⟨v,H',I.call (h':=hh) (g':=g) (d':=d) (t':=t) (ch:=[]) un hok bare (fun b z=>absurd z (by simp)),r,q⟩
end
noncomputable def A1 (sp:Sp) (dvs:List V) (E:XK) (t:TA):TE:=fun σ H Q=>t σ H fun vs H1=>sp (vs++dvs) H1 Q E
noncomputable def uP (C:Addr) (m:Str) (sp:Sp) (dvs:List V) (E:XK) (ta:TE) (t:TA):TE:=fun σ H Q=>ta σ H fun x H1=>∃a dx fs,x=.ref a∧H1 a=some (.ins C dx fs)∧fs.lookup m=none∧
 t σ H1 fun vs H2=>sp (x::(vs++dvs)) H2 Q E
noncomputable def AR (C:Addr) (sp:Sp) (dvs:List V) (E:XK) (t:TA):TE:=fun σ H Q=>t σ H fun vs H1=>∀x dx,H1 x=none->H1 dx=none->dx≠x->
 sp (.ref x::(vs++dvs)) (upd (upd H1 dx (.own x)) x (.ins C dx [])) (fun v H2=>v=.non∧Q (.ref x) H2) E
noncomputable def Binds (K:PySem.W.Frag) (fd:FuncData) (ps:List Str) (ds:List Value):Prop:=
 ∀(s:Shared) (us:List Value),K.In s.heap->(us++ds).length=ps.length->BindsTo s fd ⟨us,[]⟩ (ps.zip (us++ds))
theorem Binds.all {K:PySem.W.Frag} {fd:FuncData} {ps:List Str} (h:∀us:List Value,us.length=ps.length->bindArgs fd ⟨us,[]⟩=pure (ps.zip us)):Binds K fd ps []:=fun s us _ hl=>by
 rw [List.append_nil] at hl ⊢
 exact .of_eq (h us hl)
noncomputable def Passes (CX:CXT) (X:Cx) (E:XK):Prop:=∀(pins:List (Addr×Obj)) (σ:St) (H:Hp) (s:Shared) (e:Value) (s':Shared),Inv X pins σ H s->CX X.stack H s E e s'->X.xe e s'
section
variable {X:Cx} {CX:CXT} {k:Nat} {f C:Addr} {fd:FuncData} {ps:List Str} {sp:Sp} {dvs:List V} {ds:List Value} {E:XK} {x m:Str} {p pos apos:Pos} {e o:Expr} {es:List Expr} {ta:TE} {t:TA}
theorem mY {pins:List (Addr×Obj)} {σ:St} {H:Hp} {s:Shared} {Q:VK} {us:List Value} {vs:List V} (F:aw X.prog X.w X.K X.mg X.base CX k f fd ps sp) (hr:ay k X.A) (hb:Binds X.K fd ps ds) (hd:Vals dvs ds) (hx:Passes CX X E)
  (I:Inv X pins σ H s) (r:Vals vs us) (h:sp (vs++dvs) H Q E):wpAny (model X.prog X.w) X.A (call (.ref f) us) (EP X pins σ Q) X.xe s:=by
 have r2:Vals (vs++dvs) (us++ds):=r.append hd
 have hl:(us++ds).length=ps.length:=by rw [←r2.length];exact F.len _ _ _ _ h
 refine wpAny_call (codeAny_mono (F.run X.A X.stack s H ⟨us,[]⟩ (us++ds) (vs++dvs) Q E hr I.ll (hb s us I.kIn hl) r2 h) fun r s' hq=>?_)
 cases r with
 |error e=>exact hx pins σ H s e s' I hq
 |ok fl=>
  cases fl with
  |ret u=>exact I.after hq
  |next=>exact False.elim hq
  |brk=>exact False.elim hq
  |cont=>exact False.elim hq
theorem nX (F:aw X.prog X.w X.K X.mg X.base CX k f fd ps sp) (hr:ay k X.A) (hg:Gl X x) (hm:X.mg x=some (.ref f)) (hk:PySem.W.keepIn X.K (.ref f)=true) (hb:Binds X.K fd ps ds) (hd:Vals dvs ds) (hx:Passes CX X E)
  (ha:PA X (e::es) t) (hdb:(x==("__debug__":Str))=false:=by decide) (he:starEach (e::es) X.env=(false,eval e X.env)::starEach es X.env:=by rfl) (hpl:(backTo pos (starEach es X.env)).any (·.1)=false:=by rfl):
  PE X (.Call (.Name x p) (e::es) [] pos) (A1 sp dvs E t):=by
 intro pins s σ H Q I h
 refine wpAny_Call_Name_kw (c4 I hg hm ?_ hdb)
 refine PySem.W.callWith_K (h₀:=X.base) I.ok.mod.kin hk (thn (ha pos pins s σ H _ I h) fun us s1 ⟨vs,H1,I1,r,q⟩=>⟨I1.kIn,?_⟩) he hpl
 exact mY F hr hb hd hx I1 r q
theorem nE {pl:Sem Bool} (he:PE X o ta) (c:Cls X.K C) (hm:Meth X.K C m f) (F:aw X.prog X.w X.K X.mg X.base CX k f fd ps sp) (hr:ay k X.A) (hb:Binds X.K fd ps ds) (hd:Vals dvs ds) (hx:Passes CX X E) (ha:PA X (e::es) t)
  (hst:starEach (e::es) X.env=(false,eval e X.env)::starEach es X.env:=by rfl) (hpl:(backTo pos (starEach es X.env)).any (·.1)=false:=by rfl)
  (ht:eval (.Call (.Attribute o m apos) (e::es) [] pos) X.env=(do
   let ov←eval o X.env
   standAt apos.atName
   let (f,first)←holding [ov] (getMethod ov m pl)
   callWith pos f first (backTo pos (starEach (e::es) X.env)) (backToKw pos (keywordEach [] X.env))):=by rfl):
  PE X (.Call (.Attribute o m apos) (e::es) [] pos) (uP C m sp dvs E ta t):=by
 intro pins s σ H Q I h
 refine PySem.W.methodCall_KW (pl:=pl) (thn (he pins s σ H _ I h) fun u s1 ⟨x,H1,I1,rx,a,dx,fs,ex,ea,l,q⟩=>?_) ht
 subst ex
 obtain rfl:u=Value.ref a:=rx
 refine eg I1 ea c hm l ?_
 refine PySem.W.callWith_K (first:=[.ref a]) (h₀:=X.base) I.ok.mod.kin hm.kp (thn (ha pos pins s1 σ H1 _ I1 q) fun us s2 ⟨vs,H2,I2,r,q2⟩=>⟨I2.kIn,?_⟩) hst hpl
 exact mY (us:=.ref a::us) (vs:=.ref a::vs) F hr hb hd hx I2 (.cons rfl r) q2
theorem lO {pl:Sem Bool} (he:PE X o ta) (c:Cls X.K C) (hm:Meth X.K C m f) (F:aw X.prog X.w X.K X.mg X.base CX k f fd ps sp) (hr:ay k X.A) (hb:Binds X.K fd ps ds) (hd:Vals dvs ds) (hx:Passes CX X E)
  (ht:eval (.Call (.Attribute o m apos) [] [] pos) X.env=(do
   let ov←eval o X.env
   standAt apos.atName
   let (f,first)←holding [ov] (getMethod ov m pl)
   callWith pos f first (backTo pos (starEach [] X.env)) (backToKw pos (keywordEach [] X.env))):=by rfl):
  PE X (.Call (.Attribute o m apos) [] [] pos) (uP C m sp dvs E ta oM):=by
 intro pins s σ H Q I h
 refine PySem.W.methodCall_KW (pl:=pl) (thn (he pins s σ H _ I h) fun u s1 ⟨x,H1,I1,rx,a,dx,fs,ex,ea,l,q⟩=>?_) ht
 subst ex
 obtain rfl:u=Value.ref a:=rx
 refine eg I1 ea c hm l ?_
 exact PySem.W.callWith_K0 (first:=[.ref a]) I1.kIn hm.kp (mY (us:=[.ref a]) (vs:=[.ref a]) F hr hb hd hx I1 (.cons rfl .nil) q)
structure Mk (K:PySem.W.Frag) (C f:Addr):Prop where
 makes:PySem.W.makesIn K C=true
 init:PySem.W.findIn K (.ref C) "__init__"=some (some (.ref f))
 fn:PySem.W.isFn K (.ref f)=true
 kp:PySem.W.keepIn K (.ref C)=true
theorem uk {pins:List (Addr×Obj)} {σ:St} {H:Hp} {s:Shared} {Q:VK} {us:List Value} {vs:List V} (M:Mk X.K C f) (F:aw X.prog X.w X.K X.mg X.base CX k f fd ps sp) (hr:ay (k+1) X.A) (hb:Binds X.K fd ps ds) (hd:Vals dvs ds)
  (hx:Passes CX X E) (I:Inv X pins σ H s) (r:Vals vs us)
  (h:∀x dx,H x=none->H dx=none->dx≠x->sp (.ref x::(vs++dvs)) (upd (upd H dx (.own x)) x (.ins C dx [])) (fun v H2=>v=.non∧Q (.ref x) H2) E):
  wpAny (model X.prog X.w) X.A (call (.ref C) us) (EP X pins σ Q) X.xe s:=by
 have hq:=h (s.heap.objs.size+1) s.heap.objs.size (I.hok.fresh (Nat.le_succ _)) (I.hok.fresh (Nat.le_refl _)) (Nat.ne_of_lt (Nat.lt_succ_self _))
 have I2:=Inv.made (C:=C) I
 have r2:Vals (V.ref (s.heap.objs.size+1)::(vs++dvs)) (Value.ref (s.heap.objs.size+1)::(us++ds)):=.cons rfl (r.append hd)
 have hl:(Value.ref (s.heap.objs.size+1)::us++ds).length=ps.length:=by
  have e:=r2.length
  rw [F.len _ _ _ _ hq] at e
  exact e.symm
 refine wpAny_call (mQ (f:=f) I.kIn M.makes M.init (beq_iff_eq.mp M.fn) (codeAny_mono (F.run _ X.stack _ _ ⟨Value.ref (s.heap.objs.size+1)::us,[]⟩ (Value.ref (s.heap.objs.size+1)::(us++ds)) _ _ E (hr.make C us [])
  (I2.ll.make C us []) (hb _ (Value.ref (s.heap.objs.size+1)::us) I2.kIn hl) r2 hq) fun r s' hq'=>?_))
 cases r with
 |error e=>exact hx pins σ _ _ e s' I2 hq'
 |ok fl=>
  cases fl with
  |ret u=>
   obtain ⟨v,H',I3,rv,ev,q3⟩:=I2.after hq'
   subst ev
   exact ⟨rv,⟨V.ref (s.heap.objs.size+1),H',I3,rfl,q3⟩⟩
  |next=>exact False.elim hq'
  |brk=>exact False.elim hq'
  |cont=>exact False.elim hq'
theorem vj (M:Mk X.K C f) (F:aw X.prog X.w X.K X.mg X.base CX k f fd ps sp) (hr:ay (k+1) X.A) (hg:Gl X x) (hm:X.mg x=some (.ref C)) (hb:Binds X.K fd ps ds) (hd:Vals dvs ds) (hx:Passes CX X E)
  (ha:PA X (e::es) t) (hdb:(x==("__debug__":Str))=false:=by decide) (he:starEach (e::es) X.env=(false,eval e X.env)::starEach es X.env:=by rfl) (hpl:(backTo pos (starEach es X.env)).any (·.1)=false:=by rfl):
  PE X (.Call (.Name x p) (e::es) [] pos) (AR C sp dvs E t):=by
 intro pins s σ H Q I h
 refine wpAny_Call_Name_kw (c4 I hg hm ?_ hdb)
 refine PySem.W.callWith_K (h₀:=X.base) I.ok.mod.kin M.kp (thn (ha pos pins s σ H _ I h) fun us s1 ⟨vs,H1,I1,r,q⟩=>⟨I1.kIn,?_⟩) he hpl
 exact uk M F hr hb hd hx I1 r q
end
noncomputable def PK (X:Cx) (kws:List Keyword) (t:TA):Prop:=
 ∀(pos:Pos) (pins:List (Addr×Obj)) (s:Shared) (σ:St) (H:Hp) (Q:List V->Hp->Prop),Inv X pins σ H s->t σ H Q->wpAny (model X.prog X.w) X.A (evalAll ((backToKw pos (keywordEach kws X.env)).map (·.2))) (AP X pins σ Q) X.xe s
structure bA (N P:List Str) (sc:Scope):Prop where
 kind:sc.kind=.function
 co:sc.isCoroutine=false
 gen:sc.isGenerator=false
 nd:N.Nodup
 pre:N.take P.length=P
 par:∀x∈P,sc.names.lookup x=some .local∨sc.names.lookup x=some .cell
 yQ:∀y∈sc.names,y.2≠.free
theorem j5 {kindOf:Str->Option NameKind} {x:Str}:∀{binds:List (Str×Value)} {m:Str->Option Value},(∀v,(x,v)∉binds)->bindL kindOf binds m x=m x
 |[],_,_=>rfl
 |(n,v)::r,m,h=>by
  unfold bindL
  rw [j5 fun w hw=>h w (List.mem_cons_of_mem _ hw)]
  split
  ·have:x≠n:=by rintro rfl;exact h v List.mem_cons_self
   simp [this]
  ·rfl
theorem jV {kindOf:Str->Option NameKind} {x:Str}:∀{binds:List (Str×Value)} {m:Str->Option Value},(∀v,(x,v)∉binds)->bindC kindOf binds m x=m x
 |[],_,_=>rfl
 |(n,v)::r,m,h=>by
  unfold bindC
  rw [jV fun w hw=>h w (List.mem_cons_of_mem _ hw)]
  split
  ·rfl
  ·have:x≠n:=by rintro rfl;exact h v List.mem_cons_self
   simp [this]
theorem j0 {kindOf:Str->Option NameKind} {x:Str} {v:Value}:∀{P:List Str} {vs:List Value} {i:Nat} {m:Str->Option Value},P.Nodup->P[i]?=some x->vs[i]?=some v->kindOf x=some .local->
  bindL kindOf (P.zip vs) m x=some v
 |[],_,_,_,_,h,_,_=>by simp at h
 |_::_,[],_,_,_,_,h,_=>by simp at h
 |p::P,w::vs,0,m,nd,h1,h2,hk=>by
  simp at h1 h2;subst h1;subst h2
  show bindL kindOf ((p,w)::P.zip vs) m p=_
  unfold bindL
  rw [j5 fun v hv=>(List.nodup_cons.mp nd).1 (List.of_mem_zip hv).1,if_pos hk]
  simp
 |p::P,w::vs,i+1,m,nd,h1,h2,hk=>by
  show bindL kindOf ((p,w)::P.zip vs) m x=_
  unfold bindL
  exact j0 (i:=i) (List.nodup_cons.mp nd).2 (by simpa using h1) (by simpa using h2) hk
theorem kj {kindOf:Str->Option NameKind} {x:Str} {v:Value}:∀{P:List Str} {vs:List Value} {i:Nat} {m:Str->Option Value},P.Nodup->P[i]?=some x->vs[i]?=some v->kindOf x≠some .local->
  bindC kindOf (P.zip vs) m x=some v
 |[],_,_,_,_,h,_,_=>by simp at h
 |_::_,[],_,_,_,_,h,_=>by simp at h
 |p::P,w::vs,0,m,nd,h1,h2,hk=>by
  simp at h1 h2;subst h1;subst h2
  show bindC kindOf ((p,w)::P.zip vs) m p=_
  unfold bindC
  rw [jV fun v hv=>(List.nodup_cons.mp nd).1 (List.of_mem_zip hv).1,if_neg hk]
  simp
 |p::P,w::vs,i+1,m,nd,h1,h2,hk=>by
  show bindC kindOf ((p,w)::P.zip vs) m x=_
  unfold bindC
  exact kj (i:=i) (List.nodup_cons.mp nd).2 (by simpa using h1) (by simpa using h2) hk
noncomputable def start (N:List Str) (vs:List V):St:=vs.map some++List.replicate (N.length - vs.length) none
noncomputable def bJ (CX:CXT) (P:Program) (w:World) (K:PySem.W.Frag) (mg:Str->Option Value) (base:Heap) (N:List Str) (qual:Str) (scope:Scope) (f:Addr) (cd:Value) (A:Around) (outer:List Env) (s:Shared) (H:Hp) (E:XK):Cx where
 prog:=P
 w:=w
 K:=K
 mg:=mg
 base:=base
 A:=A.deeper (envOfC qual scope s.heap.objs.size f cd)
 N:=N
 s₀:=s
 H₀:=H
 env:=envOfC qual scope s.heap.objs.size f cd
 outer:=outer
 stack:=envOfC qual scope s.heap.objs.size f cd::outer
 ex:=[]
 calm:=true
 fn:=fun _=>true
 pn:=[]
 xe:=fun e s'=>wpAny (model P w) (A.deeper (envOfC qual scope s.heap.objs.size f cd)) (leaving (envOfC qual scope s.heap.objs.size f cd) e) (fun _ s''=>CX outer H s E e s'') (fun e' s''=>CX outer H s E e' s'') s'
theorem lA {sc:Scope} {n:Nat} {x:Str} (h:sc.names.lookup x=some .cell):∃c,(cellsFrom n sc.names []).lookup x=some c:=by
 have q:=PySem.W.cellsFrom_some sc.names n [] (.inl h)
 exact Option.isSome_iff_exists.mp q
theorem rG {CX:CXT} {P:Program} {w:World} {K:PySem.W.Frag} {mg:Str->Option Value} {base:Heap} {N ps:List Str} {qual:Str} {scope:Scope} {f:Addr} {cd:Value} {A:Around} {outer:List Env} {s s1:Shared} {H:Hp} {E:XK} {us:List Value} {vs:List V}
  (S:bA N ps scope) (hd:A.handled=none) (e0:iA P w K mg base A outer s H) (hl:vs.length=ps.length) (r:Vals vs us)
  (x:InCallC s s.heap.objs.size (bindL (envOfC qual scope s.heap.objs.size f cd).kindOf (ps.zip us) fun _=>none) (cellsFrom (s.heap.objs.size+1) scope.names []) (bindC (envOfC qual scope s.heap.objs.size f cd).kindOf (ps.zip us) fun _=>none) s1):
  Inv (bJ CX P w K mg base N qual scope f cd A outer s H E) [] (start N vs) H s1:=by
 have hpl:ps.length<=N.length:=by have:=congrArg List.length S.pre;rw [List.length_take] at this;omega
 obtain ⟨h1,tk,rfl,hk⟩:=x.done
 have noA:∀b:Addr,b∉(bJ CX P w K mg base N qual scope f cd A outer s H E).ex:=fun b z=>absurd (show b∈([]:List Addr) from z) (by simp)
 refine ⟨⟨e0.mod,S.kind,rfl,rfl,Nat.le_refl _,fun y z c h1 h2=>?_,fun y hy=>?_,fun y c _ h=>?_,fun _=>hd,Around.frames_deeper e0.frames,.inr ⟨rfl,rfl⟩,fun b z=>absurd z (noA b),e0.bs,e0.bsz,fun b _ _=>noA b,fun b z=>absurd z (noA b),e0.cV,e0.frf⟩,
  rfl,e0.bare,Un.kept hk,⟨_,x.toInCall.ns,fun i y v h1 h2 h3=>?_⟩,fun y c h=>⟨_,x.cell y c h⟩,e0.hok.fresh (Nat.le_refl _),fun y c h=>?_,fun p hp=>absurd (show p∈([]:List (Addr×Obj)) from hp) (by simp),e0.hok.kept hk,?_⟩
 ·exact name_of_addr x.apart (PySem.mem_of_lookup h1) (PySem.mem_of_lookup h2)
 ·have hy:scope.names.lookup y=some .cell∨scope.names.lookup y=some .free:=hy
  rcases hy with hy|hy
  ·exact lA hy
  ·exact absurd rfl (S.yQ _ (PySem.mem_of_lookup hy))
 ·exact Nat.le_of_lt (x.above y c (PySem.mem_of_lookup h))
 ·have hi:i<vs.length:=by
   unfold start at h2
   by_cases hi:i<vs.length
   ·exact hi
   ·rw [List.getElem?_append_right (by simpa using hi)] at h2
    rw [List.getElem?_replicate] at h2
    split at h2<;>cases h2
  have ha:vs[i]?=some v:=by
   unfold start at h2
   rw [List.getElem?_append_left (by simpa using hi),List.getElem?_map] at h2
   cases e:vs[i]? with
   |none=>rw [e] at h2;cases h2
   |some a=>rw [e] at h2;cases h2;rfl
  obtain ⟨u,hu,rv⟩:=r.get ha
  have hp:ps[i]?=some y:=by
   rw [←S.pre,List.getElem?_take_of_lt (by omega)];exact h1
  have ndP:ps.Nodup:=by rw [←S.pre];exact S.nd.sublist (List.take_sublist _ _)
  refine ⟨u,rv,?_⟩
  rcases S.par y (List.mem_of_getElem? hp) with k|k
  ·exact .inl ⟨k,j0 ndP hp hu k⟩
  ·obtain ⟨c,e⟩:=lA (n:=s.heap.objs.size+1) k
   refine .inr ⟨.inl k,c,e,?_⟩
   have q:=x.cell y c e
   rw [kj ndP hp hu (by show scope.names.lookup y≠_;rw [k];decide)] at q
   exact q
 ·exact e0.hok.fresh (Nat.le_of_lt (x.above y c (PySem.mem_of_lookup h)))
 ·unfold start
  show _=N.length
  rw [List.length_append,List.length_map,List.length_replicate]
  omega
theorem uR {CX:CXT} {P:Program} {w:World} {K:PySem.W.Frag} {mg:Str->Option Value} {base:Heap} {k:Nat} {f:Addr} {name qual:Str} {params:Arguments} {body:List Stmt} {scope:Scope} {dV kV doc pm cdv ct oc:Value} {an od:Option Addr}
  {osl:Array (Option Value)} {N ps:List Str} {sp:Sp} (lk:K.lookup f=some ⟨oc,od,.func (PySem.W.fnOf name qual params body scope dV kV doc pm an cdv ct),osl⟩) (hcd:PySem.W.codeIn K cdv qual=true) (S:bA N ps scope)
  (len:∀vs H Q E,sp vs H Q E->vs.length=ps.length)
  (hbody:∀(A:Around) (outer:List Env) (s:Shared) (H:Hp) (vs:List V) (Q:VK) (E:XK),ay k (A.deeper (envOfC qual scope s.heap.objs.size f cdv))->sp vs H Q E->
   ∃t,PSs (bJ CX P w K mg base N qual scope f cdv A outer s H E) body t∧t {nx:=fun _ H'=>Q .non H',rt:=Q} (start N vs) H):
  aw P w K mg base CX (k+1) f (PySem.W.fnOf name qual params body scope dV kV doc pm an cdv ct) ps sp:=by
 refine ⟨len,fun A outer s H args us vs Q E hr e0 hb r hsp=>?_⟩
 have hl:=len _ _ _ _ hsp
 have KX:K.In s.heap:=e0.mod.kin.keeps fun b o e=>(e0.bs b o e).1
 have lim:s.heap.NoLimit:=e0.mod.nolimit.keeps fun b o e=>(e0.bs b o e).1
 have hkind:∀y∈ps.zip us,scope.names.lookup y.1=some .local∨(scope.names.lookup y.1=some .cell∧((cellsFrom (s.heap.objs.size+1) scope.names []).lookup y.1).isSome=true):=fun ⟨n,v⟩ hy=>by
  rcases S.par n (List.of_mem_zip hy).1 with q|q
  ·exact .inl q
  ·exact .inr ⟨q,PySem.W.cellsFrom_some _ _ _ (.inl q)⟩
 refine codeAny_call_function hr.depth (KX _ _ lk) rfl S.co S.gen rfl (PySem.W.codeRec_of KX hcd) (hb _ _ _ _ ?_)
 refine wpAny_newFunctionEnv_cells S.kind hkind fun env he s1 x=>?_
 subst he
 refine ⟨lim.keeps x.toInCall.keep,codeAny_func ?_⟩
 obtain ⟨t,ht,hq⟩:=hbody A outer s H vs Q E (hr.deeper _) hsp
 have I:Inv (bJ CX P w K mg base N qual scope f cdv A outer s H E) [] (start N vs) H s1:=rG S hr.hd e0 hl r x
 refine wpAny_mono (ht [] s1 (start N vs) H _ I hq) (fun fl s' hs=>?_) fun e s' hs=>hs
 have fin:∀{σ':St} {H':Hp} {v:V} {u:Value},Inv (bJ CX P w K mg base N qual scope f cdv A outer s H E) [] σ' H' s'->RelV v u->Q v H'->CE outer P w H s Q u s':=
  fun {σ' H' v u} J rv q=>⟨v,H',J.os,J.bare,J.base,J.hok,rv,q⟩
 cases fl with
 |ret u=>
  obtain ⟨v,σ',H',J,rv,q⟩:=hs
  exact fin J rv q
 |next=>
  obtain ⟨σ',H',J,q⟩:=hs
  exact fin (v:=V.non) (u:=Value.none) J rfl q
 |brk=>
  obtain ⟨_,_,_,q⟩:=hs
  exact False.elim q
 |cont=>
  obtain ⟨_,_,_,q⟩:=hs
  exact False.elim q
end L2
namespace L2
open PySem PySem.Spec PyProof.Rows
section
variable {X:Cx} {x:Str} {p pos:Pos} {e:Expr} {es:List Expr} {t:TA} {id T:String} {r:List V->Hp->VK->Prop}
noncomputable def tCB (r:List V->Hp->VK->Prop) (t:TA):TE:=fun σ H Q=>t σ H fun vs H1=>r vs H1 Q
theorem sZ (hc:cU X (.builtin id) r) (hg:Gl X x) (hm:X.mg x=none) (hv:bootBuiltins x=some (.builtin id)) (ha:PA X (e::es) t) (hn:x≠"__name__":=by decide) (hdb:(x==("__debug__":Str))=false:=by decide)
  (he:starEach (e::es) X.env=(false,eval e X.env)::starEach es X.env:=by rfl) (hpl:(backTo pos (starEach es X.env)).any (·.1)=false:=by rfl):PE X (.Call (.Name x p) (e::es) [] pos) (tCB r t):=by
 intro pins s σ H Q I h
 refine wpAny_Call_Name_kw (dR I hg hm hv ?_ hn hdb)
 exact PyProof.Rows.callWith_builtin1 (thn (ha pos pins s σ H _ I h) fun us s1 ⟨vs,H1,I1,r1,q1⟩=>hc pins s1 σ H1 vs us Q I1 r1 q1) he hpl
theorem jX (hc:cU X (.type T) r) (hg:Gl X x) (hm:X.mg x=none) (hv:bootBuiltins x=some (.type T)) (ha:PA X (e::es) t) (hn:x≠"__name__":=by decide) (hdb:(x==("__debug__":Str))=false:=by decide)
  (he:starEach (e::es) X.env=(false,eval e X.env)::starEach es X.env:=by rfl) (hpl:(backTo pos (starEach es X.env)).any (·.1)=false:=by rfl):PE X (.Call (.Name x p) (e::es) [] pos) (tCB r t):=by
 intro pins s σ H Q I h
 refine wpAny_Call_Name_kw (dR I hg hm hv ?_ hn hdb)
 exact PyProof.Rows.callWith_type1 (thn (ha pos pins s σ H _ I h) fun us s1 ⟨vs,H1,I1,r1,q1⟩=>hc pins s1 σ H1 vs us Q I1 r1 q1) he hpl
end
end L2
namespace HT
open PySem PyProof.Rows
section
variable {prog:Program} {w:World} {A:Around} {E:Value->Shared->Prop} {s:Shared}
theorem wA {t b:Addr} {vs ws:List Value} {Q:Value->Shared->Prop} (ht:IsTup s.heap t vs.toArray) (hb:IsTup s.heap b ws.toArray) (hv:vs≠[])
  (h1:ws=[]->Q (.ref t) s) (h2:ws≠[]->Q (.ref s.heap.objs.size) {s with heap:=s.heap.push {cls:=.type "tuple",data:=.seq (vs++ws).toArray}})
  (hsz:vs.length+ws.length<=sizeLine):wpAny (model prog w) A (binaryOp .Add (.ref t) (.ref b)) Q E s:=by
 obtain ⟨⟨cls,dd,data,sl⟩,ho,hc,n,hd⟩:=id ht
 obtain ⟨⟨cls2,dd2,data2,sl2⟩,ho2,hc2,n2,hd2⟩:=id hb
 simp only at hc hd hc2 hd2
 subst hc hd hc2 hd2
 have e:vs.toArray++ws.toArray=(vs++ws).toArray:=by simp
 by_cases hw:ws=[]
 ·exact concat_meets ⟨_,ho,rfl⟩ ⟨_,ho2,rfl⟩ noFill_tuple_add seq_tuple_add PySem.F.slot_tuple_add PySem.F.entry_tuple_add (PySem.F.args_tuple_add_2 _ _)
   (tuple_addW1 t b vs.toArray ws.toArray n n2 dd dd2 sl sl2 (by simpa using hv) (by simp [hw])) ⟨ho,ho2,h1 hw⟩
 ·refine concat_meets ⟨_,ho,rfl⟩ ⟨_,ho2,rfl⟩ noFill_tuple_add seq_tuple_add PySem.F.slot_tuple_add PySem.F.entry_tuple_add (PySem.F.args_tuple_add_2 _ _)
   (tuple_addW2 t b vs.toArray ws.toArray n n2 dd dd2 sl sl2 (by simpa using hv) (by simpa using hw) (by rw [List.size_toArray,List.size_toArray];exact hsz)) ⟨ho,ho2,?_⟩
  rw [e]
  exact h2 hw
noncomputable def sIx (n d:Nat):Option Int->Nat
 |none=>d
 |some v=>if v<0 then (v+(n:Int)).toNat else min v.toNat n
theorem zg (n d:Nat) (hd:d<=n) (o:Option Int):sIx n d o<=n:=by
 cases o with
 |none=>exact hd
 |some v=>
  show (if v<0 then (v+(n:Int)).toNat else min v.toNat n)<=n
  by_cases hv:v<0
  ·rw [if_pos hv];omega
  ·rw [if_neg hv];exact Nat.min_le_right _ _
theorem n5 (v:Int) (n d:Nat):(if v<0 then max (v+(n:Int)) 0 else min v (n:Int))=((sIx n d (some v):Nat):Int):=by
 show (if v<0 then max (v+(n:Int)) 0 else min v (n:Int))=(((if v<0 then (v+(n:Int)).toNat else min v.toNat n):Nat):Int)
 by_cases hv:v<0
 ·simp only [if_pos hv];omega
 ·simp only [if_neg hv];omega
theorem pv (lo hi:Option Int) (n:Nat):Builtin.Slice.sliceAdjust lo hi 1 (n:Int)=(((sIx n 0 lo:Nat):Int),((sIx n n hi:Nat):Int)):=by
 have h1:¬((1:Int)<0):=by omega
 unfold Builtin.Slice.sliceAdjust
 simp only [h1,if_false]
 refine Prod.ext ?_ ?_
 ·cases lo with
  |none=>rfl
  |some v=>exact n5 v n 0
 ·cases hi with
  |none=>rfl
  |some v=>exact n5 v n n
theorem oZ (i j:Nat):Builtin.Slice.slicePlaces (i:Int) (j:Int) 1=j - i:=by
 unfold Builtin.Slice.slicePlaces
 have h1:(1:Int)>0:=by omega
 simp only [h1,if_true,Int.ediv_one]
 split<;>omega
theorem jf {v:Value} {o:Option Int} {Q:Option Int->Shared->Prop} (p:IsPart v o) (h:Q o s):wpAny (model prog w) A (Builtin.Slice.slicePartIndex v) Q E s:=by
 cases p with
 |none=>exact slicePart_none h
 |int i t=>exact slicePart_int h
theorem eJ {sl:Addr} {vl vu:Value} {lo hi:Option Int} {n:Nat} {Q:Int×Int×Nat->Shared->Prop} (hs:s.heap.IsSliceOf sl vl vu .none) (pl:IsPart vl lo) (pu:IsPart vu hi)
  (h:Q (((sIx n 0 lo:Nat):Int),1,sIx n n hi - sIx n 0 lo) s):wpAny (model prog w) A (Builtin.Slice.sliceApplied (.ref sl) (pure (n:Int))) Q E s:=by
 obtain ⟨os,hos,hcs,hds⟩:=id hs
 unfold Builtin.Slice.sliceApplied Builtin.Slice.sliceFields
 refine wpAny_bind (wpAny_bind (wpAny_field hos hds (x:=vl) rfl (wpAny_bind (wpAny_field hos hds (x:=vu) rfl (wpAny_bind (wpAny_field hos hds (x:=.none) rfl (wpAny_pure ?_)))))))
 refine wpAny_bind (slicePart_none ?_)
 show wpAny _ _ (if ((1:Int)==0)=true then _ else _) _ _ s
 rw [if_neg (by decide)]
 refine wpAny_bind (jf pl (wpAny_bind (jf pu (wpAny_bind (wpAny_pure ?_)))))
 show wpAny _ _ (match Builtin.Slice.sliceAdjust lo hi 1 (n:Int) with|(lo,hi)=>pure (lo,(1:Int),Builtin.Slice.slicePlaces lo hi 1)) _ _ s
 rw [pv lo hi n]
 show wpAny _ _ (pure (((sIx n 0 lo:Nat):Int),(1:Int),Builtin.Slice.slicePlaces ((sIx n 0 lo:Nat):Int) ((sIx n n hi:Nat):Int) 1)) _ _ s
 rw [oZ]
 exact wpAny_pure h
theorem sL (xs:Array Value) (i k:Nat):((List.range k).filterMap fun (m:Nat)=>xs[((i:Int)+(m:Int)*1).toNat]?).toArray=((xs.toList.drop i).take k).toArray:=by
 have e:(fun (m:Nat)=>xs[((i:Int)+(m:Int)*1).toNat]?)=fun m=>xs[i+m]?:=by
  funext m
  have:((i:Int)+(m:Int)*1).toNat=i+m:=by omega
  rw [this]
 rw [e]
 have:=pick_run xs i k
 rw [List.filterMap_map] at this
 have e2:((fun x=>xs[x]?)∘fun x=>i+x)=fun m=>xs[i+m]?:=rfl
 rw [e2] at this
 rw [this]
theorem gY {t sl:Addr} {items:Array Value} {vl vu:Value} {lo hi:Option Int} {Q:Value->Shared->Prop} (ht:IsTup s.heap t items) (hs:s.heap.IsSliceOf sl vl vu .none) (pl:IsPart vl lo) (pu:IsPart vu hi)
  (hw:¬(sIx items.size 0 lo=0∧sIx items.size items.size hi=items.size))
  (h:Q (.ref s.heap.objs.size) {s with heap:=s.heap.push {cls:=.type "tuple",data:=.seq ((items.toList.drop (sIx items.size 0 lo)).take (sIx items.size items.size hi - sIx items.size 0 lo)).toArray}})
  (hsz:items.size<=sizeLine):wpAny (model prog w) A (getItem (.ref t) (.ref sl)) Q E s:=by
 have htake:sizeOk (.seq ((items.toList.drop (sIx items.size 0 lo)).take (sIx items.size items.size hi - sIx items.size 0 lo)).toArray):=by
  show ((items.toList.drop (sIx items.size 0 lo)).take (sIx items.size items.size hi - sIx items.size 0 lo)).toArray.size<=sizeLine
  rw [List.size_toArray,List.length_take,List.length_drop,Array.length_toList]
  omega
 have hj:sIx items.size items.size hi<=items.size:=zg _ _ (Nat.le_refl _) hi
 obtain ⟨os,hos,hcs,hds⟩:=id hs
 have hTs:s.TypeIs (.ref sl) "slice":=⟨os,hos,hcs⟩
 unfold getItem
 try with_reducible refine wpAny_holding ?_
 first|refine wpAny_bind (wpAny_pure ?_)|skip
 refine wpAny_bind (wpAny_sequenceKey ht.typeIs (by decide) ?_)
 refine wpAny_bind (wpAny_callSpecial?_slot (name:=Str.ofString "__getitem__") ht.typeIs PyProof.Rows.slot_tuple_getitem
  (wpAny_call_entry PyProof.Rows.slot_tuple_getitem ht.typeIs entry_tuple_getitem ?_ (args_tuple_getitem _ _)))
 show wpAny _ _ (Builtin.Tuple.tupleItemsOf (.ref t)>>=_) _ _ s
 refine wpAny_bind (tupleItemsOf_ ht ?_)
 refine wpAny_bind (wpAny_typeOf hTs ?_)
 rw [if_pos (by decide)]
 refine wpAny_bind (eJ hs pl pu ?_)
 have hno:¬((((sIx items.size 0 lo:Nat):Int)==0&&(1:Int)==1&&(sIx items.size items.size hi - sIx items.size 0 lo)==items.size)=true):=by
  intro q
  rw [Bool.and_eq_true,Bool.and_eq_true] at q
  have q1:((sIx items.size 0 lo:Nat):Int)=0:=eq_of_beq q.1.1
  have q2:sIx items.size items.size hi - sIx items.size 0 lo=items.size:=eq_of_beq q.2
  exact hw ⟨by omega,by omega⟩
 show wpAny _ _ (if (((sIx items.size 0 lo:Nat):Int)==0&&(1:Int)==1&&(sIx items.size items.size hi - sIx items.size 0 lo)==items.size)=true then _ else _) _ _ s
 rw [if_neg hno,sL]
 first
  |exact wpAny_bind (m:=Builtin.Tuple.tupleExact _) (wpAny_newObj_type (wpAny_pure ⟨_,rfl,wpAny_pure h⟩) htake)
  |exact wpAny_bind (m:=Builtin.Tuple.tupleExact _) (wpAny_newObj_type (wpAny_bind (wpAny_pure (wpAny_pure ⟨_,rfl,wpAny_pure h⟩))) htake)
  |exact wpAny_bind (wpAny_bind (m:=Builtin.Tuple.tupleExact _) (wpAny_newObj_type (wpAny_pure (wpAny_pure ⟨_,rfl,wpAny_pure h⟩)) htake))
  |exact wpAny_bind (wpAny_bind (m:=Builtin.Tuple.tupleExact _) (wpAny_newObj_type (wpAny_pure ⟨_,rfl,wpAny_pure h⟩) htake))
end
end HT
namespace L2
open PySem PySem.Spec PyProof.Rows
noncomputable abbrev TO:=St->Hp->(Option Int->Hp->Prop)->Prop
noncomputable def PO (X:Cx) (e:Option Expr) (t:TO):Prop:=
 ∀(pins:List (Addr×Obj)) (s:Shared) (σ:St) (H:Hp) (Q:Option Int->Hp->Prop),Inv X pins σ H s->t σ H Q->
  wpAny (model X.prog X.w) X.A (evalPart e X.env) (fun u s'=>∃o H',Inv X pins σ H' s'∧IsPart u o∧Q o H') X.xe s
noncomputable def vN:TO:=fun _ H Q=>Q none H
noncomputable def Bm (t:TE):TO:=fun σ H Q=>t σ H fun x H1=>∃i,x=.int i∧Q (some i) H1
section
variable {X:Cx} {e:Expr} {te:TE} {lo hi:Option Expr} {tl th:TO} {pos p2:Pos}
theorem v5:PO X none vN:=by
 intro pins s σ H Q I h
 rw [evalPart_none]
 exact wpAny_pure ⟨none,H,I,.none,h⟩
theorem vV (h:PE X e te):PO X (some e) (Bm te):=by
 intro pins s σ H Q I hw
 rw [evalPart_some]
 refine thn (h pins s σ H _ I hw) fun u s1 ⟨x,H1,I1,r1,q1⟩=>?_
 obtain ⟨i,rfl,q⟩:=q1
 obtain ⟨t,rfl⟩:=r1
 exact ⟨some i,H1,I1,.int i t,q⟩
noncomputable def SlR (X:Cx) (r:V->Option Int->Option Int->Hp->VK->Prop):Prop:=
 ∀(pins:List (Addr×Obj)) (s:Shared) (σ:St) (H:Hp) (x:V) (v vl vu:Value) (lo hi:Option Int) (sl:Addr) (Q:VK),Inv X pins σ H s->RelV x v->s.heap.IsSliceOf sl vl vu .none->IsPart vl lo->IsPart vu hi->r x lo hi H Q->
  ∃T id,typeLookup (.type T) "__getitem__"=pure (some (.builtin id))∧s.TypeIs v T∧wpAny (model X.prog X.w) X.A (getItem v (.ref sl)) (EP X pins σ Q) X.xe s
theorem SlR.or {r r':V->Option Int->Option Int->Hp->VK->Prop} (h:SlR X r) (h':SlR X r'):SlR X (fun x lo hi H Q=>r x lo hi H Q∨r' x lo hi H Q):=by
 intro pins s σ H x v vl vu lo hi sl Q I rx hs pl pu q
 rcases q with q|q
 ·exact h pins s σ H x v vl vu lo hi sl Q I rx hs pl pu q
 ·exact h' pins s σ H x v vl vu lo hi sl Q I rx hs pl pu q
noncomputable def tSl (r:V->Option Int->Option Int->Hp->VK->Prop) (te:TE) (tl th:TO):TE:=fun σ H Q=>te σ H fun x H1=>tl σ H1 fun l H2=>th σ H2 fun u H3=>r x l u H3 Q
theorem mO {r:V->Option Int->Option Int->Hp->VK->Prop} (hr:SlR X r) (he:PE X e te) (hl:PO X lo tl) (hu:PO X hi th):PE X (.Subscript e (.Slice lo hi none p2) pos) (tSl r te tl th):=by
 intro pins s σ H Q I h
 refine Subscript_ (thn (he pins s σ H _ I h) fun v s1 ⟨x,H1,I1,r1,q1⟩=>?_)
 refine wpAny_Slice (thn (hl pins s1 σ H1 _ I1 q1) fun vl s2 ⟨l,H2,I2,pl,q2⟩=>thn (hu pins s2 σ H2 _ I2 q2) fun vu s3 ⟨u,H3,I3,pu,q3⟩=>?_)
 rw [evalPart_none]
 refine wpAny_pure ?_
 have I4:Inv X pins σ H3 {s3 with heap:=s3.heap.push {cls:=.type "slice",data:=.fields #[vl,vu,.none]}}:=I3.kept (t':=s3.toks) fun b ob q=>Heap.get?_push_of_some _ q
 obtain ⟨T,id,hT,ht,hg⟩:=hr pins {s3 with heap:=s3.heap.push {cls:=.type "slice",data:=.fields #[vl,vu,.none]}} σ H3 x v vl vu l u s3.heap.objs.size Q I4 r1 (Heap.IsSliceOf.new ..) pl pu q3
 show wpAny (model X.prog X.w) X.A (subscriptTail e (.Slice lo hi none p2) v (.ref s3.heap.objs.size)) (EP X pins σ Q) X.xe {s3 with heap:=s3.heap.push {cls:=.type "slice",data:=.fields #[vl,vu,.none]}}
 exact tail_any (ops:=[.ref s3.heap.objs.size,v]) ht hT hg (by with_unfolding_all rfl)
noncomputable def gE (xs:List V) (lo hi:Option Int):List V:=(xs.drop (HT.sIx xs.length 0 lo)).take (HT.sIx xs.length xs.length hi - HT.sIx xs.length 0 lo)
theorem g9 (xs:List V) (lo hi:Option Int):(gE xs lo hi).length<=xs.length:=by
 unfold gE
 rw [List.length_take,List.length_drop]
 omega
noncomputable def B5 (K:PySem.W.Frag):V->Option Int->Option Int->Hp->VK->Prop:=fun x lo hi H Q=>∃a xs,x=.ref a∧SqT K H a xs∧
 ¬(HT.sIx xs.length 0 lo=0∧HT.sIx xs.length xs.length hi=xs.length)∧∀p,H p=none->Q (.ref p) (upd H p (.tup (gE xs lo hi)))
theorem xI:SlR X (B5 X.K):=by
 intro pins s σ H x v vl vu lo hi sl Q I rx hs pl pu h
 obtain ⟨a,xs,rfl,hx,hw,q⟩:=h
 cases rx
 obtain ⟨its,r,ht,hz⟩:=I.tuple hx
 have hlen:its.toArray.size=xs.length:=by rw [List.size_toArray];exact r.length.symm
 refine ⟨"tuple",_,PyProof.Rows.slot_tuple_getitem.lookup,ht.typeIs,?_⟩
 refine HT.gY ht hs pl pu (by rw [hlen];exact hw) ?_ (by rw [hlen];exact hz)
 rw [hlen]
 refine ⟨.ref s.heap.objs.size,_,I.laid (t':=s.toks) (o:=.tup (gE xs lo hi)) (fun b ob q=>Heap.get?_push_of_some _ q) (Nat.le_refl _) ?_,rfl,q _ (I.hok.fresh (Nat.le_refl _))⟩
 exact ⟨Nat.le_trans (g9 xs lo hi) hz,_,(r.drop (HT.sIx xs.length 0 lo)).take (HT.sIx xs.length xs.length hi - HT.sIx xs.length 0 lo),IsTup.new _ _⟩
noncomputable def Bn (K:PySem.W.Frag):R2:=fun x y H Q=>∃a b xs ys,x=.ref a∧y=.ref b∧SqT K H a xs∧SqT K H b ys∧xs≠[]∧xs.length+ys.length<=sizeLine∧
 (ys=[]->Q (.ref a) H)∧(ys≠[]->∀p,H p=none->Q (.ref p) (upd H p (.tup (xs++ys))))
theorem Vals.jz {xs:List V} {us:List Value} (r:Vals xs us):us=[]↔xs=[]:=by
 cases r with
 |nil=>simp
 |cons _ _=>simp
theorem wM:OpR X (binaryOp .Add) (Bn X.K):=by
 intro pins s σ H x y v u Q I rx ry h
 obtain ⟨a,b,xs,ys,rfl,rfl,ha,hb,hx,hz,q1,q2⟩:=h
 cases rx
 cases ry
 obtain ⟨its,r1,p1,_⟩:=I.tuple ha
 obtain ⟨its2,r2,p2,_⟩:=I.tuple hb
 refine HT.wA p1 p2 (fun z=>hx (r1.jz.mp z)) (fun z=>⟨.ref a,H,I,rfl,q1 (r2.jz.mp z)⟩) (fun z=>?_) (by rw [←r1.length,←r2.length];exact hz)
 refine ⟨.ref s.heap.objs.size,_,I.laid (t':=s.toks) (o:=.tup (xs++ys)) (fun b ob q=>Heap.get?_push_of_some _ q) (Nat.le_refl _) ?_,rfl,q2 (fun w=>z (r2.jz.mpr w)) _ (I.hok.fresh (Nat.le_refl _))⟩
 exact ⟨by rw [List.length_append];exact hz,_,r1.append r2,IsTup.new _ _⟩
end
end L2
namespace L2
open PySem PySem.Spec PyProof.Rows
noncomputable def ixN (n:Nat) (i:Int):Option Nat:=if 0<=i then (if i<n then some i.toNat else none) else if -(n:Int)<=i then some (i+n).toNat else none
noncomputable def atI {α:Type} (xs:List α) (i:Int):Option α:=(ixN xs.length i).bind fun j=>xs[j]?
theorem nD {n:Nat} {i:Int} {j:Nat} (h:ixN n i=some j):seqIndex? i n=some j∧j<n∧ -(n:Int)<=i∧i<n:=by
 unfold ixN at h
 by_cases h0:0<=i
 ·rw [if_pos h0] at h
  by_cases h1:i<n
  ·rw [if_pos h1] at h
   have e:i.toNat=j:=Option.some.inj h
   exact ⟨by rw [seqIndex_of h0 h1,e],by omega,by omega,h1⟩
  ·rw [if_neg h1] at h;cases h
 ·rw [if_neg h0] at h
  by_cases h1: -(n:Int)<=i
  ·rw [if_pos h1] at h
   have e:(i+n).toNat=j:=Option.some.inj h
   exact ⟨by rw [seqIndex_neg (by omega) h1,e],by omega,h1,by omega⟩
  ·rw [if_neg h1] at h;cases h
theorem nr {α:Type} {xs:List α} {i:Int} {v:α} (h:atI xs i=some v):∃j,seqIndex? i xs.length=some j∧xs[j]?=some v∧j<xs.length∧ -(xs.length:Int)<=i∧i<xs.length:=by
 unfold atI at h
 cases e:ixN xs.length i with
 |none=>rw [e] at h;cases h
 |some j=>
  rw [e] at h
  obtain ⟨h1,h2,h3,h4⟩:=nD e
  exact ⟨j,h1,h,h2,h3,h4⟩
theorem jt {α:Type} {xs:List α} {j:Nat} {v:α} (h:xs[j]?=some v):atI xs (j:Int)=some v:=by
 have hj:j<xs.length:=(List.getElem?_eq_some_iff.mp h).1
 have e:ixN xs.length (j:Int)=some j:=by
  unfold ixN
  rw [if_pos (by omega),if_pos (by omega)];simp
 unfold atI;rw [e];exact h
noncomputable def jw (b:Expr):Prop:=∀o i,subscripted b false o i=operate [o,i] (getItem o i)
noncomputable def IxR (X:Cx) (r:R2):Prop:=
 ∀(value slice:Expr) (pins:List (Addr×Obj)) (s:Shared) (σ:St) (H:Hp) (x y:V) (v u:Value) (Q:VK),Inv X pins σ H s->RelV x v->RelV y u->r x y H Q->
  subscripted slice false v u=operate [v,u] (getItem v u)->wpAny (model X.prog X.w) X.A (subscriptTail value slice v u) (EP X pins σ Q) X.xe s
noncomputable def MtR (X:Cx) (id:String) (r:V->List V->Hp->VK->Prop):Prop:=
 ∀(pins:List (Addr×Obj)) (s:Shared) (σ:St) (H:Hp) (x:V) (xs:List V) (v:Value) (us:List Value) (Q:VK),Inv X pins σ H s->RelV x v->Vals xs us->r x xs H Q->
  wpAny (model X.prog X.w) X.A (call (.builtin id) (v::us)) (EP X pins σ Q) X.xe s
section
variable {X:Cx} {a b:Expr} {ta tb:TE} {pos:Pos}
theorem uw {r:R2} (hr:IxR X r) (ha:PE X a ta) (hb:PE X b tb) (hs:jw b):PE X (.Subscript a b pos) (tOp r ta tb):=by
 intro pins s σ H Q I h
 exact Subscript_ (sS ha hb I h fun v u s2 x y H2 I2 rx ry q=>hr a b pins s2 σ H2 x y v u Q I2 rx ry q (hs _ _))
noncomputable def CA (K:PySem.W.Frag):R2:=fun x y H Q=>∃p xs i v,x=.ref p∧y=.int i∧SqL K H p xs∧atI xs i=some v∧Q v H
noncomputable def CU (K:PySem.W.Frag):R2:=fun x y H Q=>∃p xs i v,x=.ref p∧y=.int i∧SqT K H p xs∧atI xs i=some v∧Q v H
theorem wC:IxR X (CA X.K):=by
 intro value slice pins s σ H x y v u Q I rx ry h hs
 obtain ⟨p,xs,i,z,rfl,rfl,hq,he,q⟩:=h
 cases rx
 obtain ⟨t,rfl⟩:=ry
 obtain ⟨its,r,pl,hz⟩:=I.list hq
 obtain ⟨j,h1,h2,h3,h4,h5⟩:=nr he
 obtain ⟨w,ew,rw'⟩:=r.get h2
 have hl:=r.length
 have hn:=jd
 have fin:EP X pins σ Q w s:=⟨z,H,I,rw',q⟩
 by_cases h0:0<=i
 ·have hj:i.toNat=j:=by
   rw [seqIndex_of h0 h5] at h1
   exact Option.some.inj h1
  exact item_listR pl.isList h0 (by omega) (by rw [hj];simpa using ew) fin hs
 ·have hj:(i+(its.toArray.size:Int)).toNat=j:=by
   rw [seqIndex_neg (by omega) h4] at h1
   rw [List.size_toArray,←hl]
   exact Option.some.inj h1
  exact subscriptTail_builtinR (x:=w) pl.isList.typeIs slot_list_getitem.lookup
   (wpAny_getItem_list_neg (Q:=fun r s'=>r=w∧EP X pins σ Q r s') pl.isList (by omega) (by rw [List.size_toArray]<;>omega) (by omega) (by rw [hj];simpa using ew) ⟨rfl,fin⟩) hs
theorem zQ:IxR X (CU X.K):=by
 intro value slice pins s σ H x y v u Q I rx ry h hs
 obtain ⟨p,xs,i,z,rfl,rfl,hq,he,q⟩:=h
 cases rx
 obtain ⟨t,rfl⟩:=ry
 obtain ⟨its,r,pl,hz⟩:=I.tuple hq
 obtain ⟨j,h1,h2,h3,h4,h5⟩:=nr he
 obtain ⟨w,ew,rw'⟩:=r.get h2
 have hl:=r.length
 have hn:=jd
 have fin:EP X pins σ Q w s:=⟨z,H,I,rw',q⟩
 exact subscriptTail_builtinR (x:=w) pl.typeIs slot_tuple_getitem.lookup
  (getItem_tuple (j:=j) (Q:=fun r s'=>r=w∧EP X pins σ Q r s') pl (by omega) (by omega) (by rw [List.size_toArray,←hl];exact h1) (by simpa using ew) ⟨rfl,fin⟩) hs
theorem pC (its:List Value) (n j:Nat) (u:Value):Obj.mapSeq (·.setIfInBounds j u) {cls:=.type "list",data:=.seq its.toArray n}={cls:=.type "list",data:=.seq (its.set j u).toArray n}:=by
 simp [Obj.mapSeq]
theorem Inv.lst {pins:List (Addr×Obj)} {σ:St} {H:Hp} {s:Shared} {p:Addr} {xs:List V} (I:Inv X pins σ H s) (h:H p=some (.lst xs)):
  ∃(its:List Value) (n:Nat),Vals xs its∧s.heap.get? p=some {cls:=.type "list",data:=.seq its.toArray n}∧xs.length<=sizeLine:=by
 obtain ⟨z,its,n,r,e⟩:=I.hok p _ h
 exact ⟨its,n,r,e,z⟩
theorem Inv.yU {pins:List (Addr×Obj)} {σ:St} {H:Hp} {s:Shared} {p:Addr} {xs ys:List V} {its its':List Value} {n n':Nat} {f:Obj->Obj} (I:Inv X pins σ H s) (h:H p=some (.lst xs))
  (ho:s.heap.get? p=some {cls:=.type "list",data:=.seq its.toArray n}) (hf:f {cls:=.type "list",data:=.seq its.toArray n}={cls:=.type "list",data:=.seq its'.toArray n'}) (r:Vals ys its') (hz:ys.length<=sizeLine) (t:Nat):
  Inv X pins σ (upd H p (.lst ys)) {s with heap:=s.heap.update p f,toks:=t}:=by
 have e:(s.heap.update p f).get? p=some {cls:=.type "list",data:=.seq its'.toArray n'}:=by
  rw [Heap.get?_update_self f ho (by rw [hf]<;>rfl),hf]
 refine I.write (x:=p) (e:=p) (by rw [h];trivial) (.inl rfl) (fun b u hb q=>(Heap.get?_update_other _ _ (Ne.symm hb)).trans q) ⟨_,e⟩ ?_
 exact ⟨hz,its',n',r,e⟩
noncomputable def u_:V->V->V->Hp->(Hp->Prop)->Prop:=fun o i v H Q=>∃p xs k j,o=.ref p∧i=.int k∧H p=some (.lst xs)∧ixN xs.length k=some j∧Q (upd H p (.lst (xs.set j v)))
theorem set_list:Cu X u_:=by
 intro pins s σ H o i v ov iv u Q I ro ri rv h
 obtain ⟨p,xs,k,j,rfl,rfl,hp,hj,q⟩:=h
 cases ro
 obtain ⟨t,rfl⟩:=ri
 obtain ⟨its,n,r,ho,hz⟩:=I.lst hp
 obtain ⟨h1,h2,h3,h4⟩:=nD hj
 have hl:=r.length
 have hn:=jd
 have I':Inv X pins σ (upd H p (.lst (xs.set j v))) {s with heap:=s.heap.update p (Obj.mapSeq (·.setIfInBounds j u))}:=
  I.yU hp ho (pC its n j u) (r.set rv j) (by rw [List.length_set];exact hz) s.toks
 by_cases h0:0<=k
 ·have hk:k.toNat=j:=by
   rw [seqIndex_of h0 h4] at h1
   exact Option.some.inj h1
  exact PySem.W.ki_setAt ho h0 (by omega) (by rw [List.size_toArray,←hl];exact h4) (by rw [hk];exact ⟨_,I',q⟩)
 ·have hk:(k+(its.toArray.size:Int)).toNat=j:=by
   rw [seqIndex_neg (by omega) h3] at h1
   rw [List.size_toArray,←hl]
   exact Option.some.inj h1
  exact PySem.W.ki_setBack ho (by omega) (by rw [List.size_toArray,←hl];exact h3) (by omega) (by rw [hk];exact ⟨_,I',q⟩)
theorem mv (lo hi:Option Int) (n:Nat):(sliceBounds lo hi none n).1=((HT.sIx n 0 lo:Nat):Int)∧(sliceBounds lo hi none n).2.1=((HT.sIx n n hi:Nat):Int)∧(sliceBounds lo hi none n).2.2=1:=by
 refine ⟨?_,?_,rfl⟩
 ·cases lo with
  |none=>simp [sliceBounds,HT.sIx]
  |some i=>
   simp only [sliceBounds,HT.sIx,Option.getD_none,show (1:Int)>0 by decide,if_true]
   by_cases h:i<0
   ·simp only [h,if_true]<;>omega
   ·simp only [h,if_false]<;>omega
 ·cases hi with
  |none=>simp [sliceBounds,HT.sIx]
  |some i=>
   simp only [sliceBounds,HT.sIx,Option.getD_none,show (1:Int)>0 by decide,if_true]
   by_cases h:i<0
   ·simp only [h,if_true]<;>omega
   ·simp only [h,if_false]<;>omega
theorem kM (its:List Value) (lo hi:Option Int):slicePick its.toArray lo hi none=((its.drop (HT.sIx its.length 0 lo)).take (HT.sIx its.length its.length hi - HT.sIx its.length 0 lo)).toArray:=by
 obtain ⟨h1,h2,h3⟩:=mv lo hi its.toArray.size
 unfold slicePick
 rw [h1,h2,h3]
 simp only [sliceRange_one,pick_run,List.size_toArray]<;>rfl
noncomputable def CB (K:PySem.W.Frag):V->Option Int->Option Int->Hp->VK->Prop:=fun x lo hi H Q=>∃a xs,x=.ref a∧SqL K H a xs∧∀p,H p=none->Q (.ref p) (upd H p (.lst (gE xs lo hi)))
theorem w6:SlR X (CB X.K):=by
 intro pins s σ H x v vl vu lo hi sl Q I rx hs pl pu h
 obtain ⟨a,xs,rfl,hx,q⟩:=h
 cases rx
 obtain ⟨its,r,ht,hz⟩:=I.list hx
 have hlen:=r.length
 refine ⟨"list",_,slot_list_getitem.lookup,ht.isList.typeIs,?_⟩
 refine wpAny_getItem_list_slice ht.isList hs pl pu .none (by simp) ?_ (by rw [List.size_toArray]<;>omega)
 rw [kM,←hlen]
 refine ⟨.ref s.heap.objs.size,_,I.laid (t':=s.toks) (o:=.lst (gE xs lo hi)) (fun b ob q=>Heap.get?_push_of_some _ q) (Nat.le_refl _) ?_,rfl,q _ (I.hok.fresh (Nat.le_refl _))⟩
 exact ⟨Nat.le_trans (g9 xs lo hi) hz,_,0,(r.drop (HT.sIx xs.length 0 lo)).take (HT.sIx xs.length xs.length hi - HT.sIx xs.length 0 lo),Heap.get?_push_size _ rfl⟩
theorem mR:cU X (.builtin "len") (fun xs H Q=>∃p ys,xs=[.ref p]∧(SqL X.K H p ys∨SqT X.K H p ys)∧Q (.int ys.length) H):=by
 intro pins s σ H xs us Q I r h
 obtain ⟨p,ys,rfl,hq,q⟩:=h
 obtain ⟨u,rfl,rx⟩:=vals1 r
 cases rx
 have hn:=jd
 rcases hq with hq|hq
 ·obtain ⟨its,r',pl,hz⟩:=I.list hq
  have hlen:=r'.length
  exact Calls.call_len_list pl.isList (by simp only [List.size_toArray]<;>omega) ⟨.int ys.length,H,I.tok _,⟨s.toks+1,by rw [List.size_toArray,hlen]⟩,q⟩
 ·obtain ⟨its,r',pl,hz⟩:=I.tuple hq
  have hlen:=r'.length
  exact len_tuple pl (by simp only [List.size_toArray]<;>omega) ⟨.int ys.length,H,I.tok _,⟨s.toks+1,by rw [List.size_toArray,hlen]⟩,q⟩
theorem lH:cU X (.type "list") (fun xs H Q=>∃p ys,xs=[.ref p]∧(SqL X.K H p ys∨SqT X.K H p ys)∧∀l,H l=none->Q (.ref l) (upd H l (.lst ys))):=by
 intro pins s σ H xs us Q I r h
 obtain ⟨p,ys,rfl,hq,q⟩:=h
 obtain ⟨u,rfl,rx⟩:=vals1 r
 cases rx
 have fin:∀(its:List Value),Vals ys its->ys.length<=sizeLine->∀(h':Heap) (c':Nat),(∀b o',s.heap.get? b=some o'->h'.get? b=some o')->
   h'.get? s.heap.objs.size=some {cls:=.type "list",dict:=none,data:=.seq its.toArray c',slots:=#[]}->EP X pins σ Q (.ref s.heap.objs.size) {s with heap:=h'}:=fun its r' hz h' c' kp e=>
  ⟨.ref s.heap.objs.size,_,I.laid (t':=s.toks) kp (Nat.le_refl _) (show aT X.prog X.w _ h' _ (.lst ys) from ⟨hz,its,c',r',e⟩),rfl,q _ (I.hok.fresh (Nat.le_refl _))⟩
 rcases hq with hq|hq
 ·obtain ⟨its,r',pl,hz⟩:=I.list hq
  have hlen:=r'.length
  obtain ⟨o,ho,hc,n,hd⟩:=pl.isList
  exact call_list_seq p (.inl rfl) ho hc hd (fun h' c' kp e=>fin its r' hz h' c' kp e) (by simp only [List.size_toArray]<;>omega)
 ·obtain ⟨its,r',pl,hz⟩:=I.tuple hq
  have hlen:=r'.length
  obtain ⟨o,ho,hc,n,hd⟩:=pl
  exact call_list_seq p (.inr rfl) ho hc hd (fun h' c' kp e=>fin its r' hz h' c' kp e) (by simp only [List.size_toArray]<;>omega)
theorem kL:cU X (.type "tuple") (fun xs H Q=>∃p ys,xs=[.ref p]∧((SqL X.K H p ys∧∀l,H l=none->Q (.ref l) (upd H l (.tup ys)))∨(SqT X.K H p ys∧Q (.ref p) H))):=by
 intro pins s σ H xs us Q I r h
 obtain ⟨p,ys,rfl,h⟩:=h
 obtain ⟨u,rfl,rx⟩:=vals1 r
 cases rx
 rcases h with ⟨hq,q⟩|⟨hq,q⟩
 ·obtain ⟨its,r',pl,hz⟩:=I.list hq
  have hlen:=r'.length
  refine call_tuple_list pl.isList (fun h' kp=>?_) (by simp only [List.size_toArray]<;>omega)
  have I1:Inv X pins σ H {s with heap:=h'}:=I.kept (t':=s.toks) kp
  have I2:Inv X pins σ (upd H h'.objs.size (.tup ys)) {s with heap:=h'.push {cls:=.type "tuple",data:=.seq its.toArray}}:=
   I1.laid (t':=s.toks) (fun b o e=>Heap.get?_push_of_some _ e) (Nat.le_refl _) (show aT X.prog X.w _ _ _ (.tup ys) from ⟨hz,its,r',IsTup.new _ _⟩)
  exact ⟨.ref h'.objs.size,_,I2,rfl,q _ (I1.hok.fresh (Nat.le_refl _))⟩
 ·obtain ⟨its,r',pl,hz⟩:=I.tuple hq
  exact call_tuple_same pl ⟨.ref p,H,I,rfl,q⟩
noncomputable def tyV (K:PySem.W.Frag) (T:String) (x:V) (H:Hp):Prop:=match x with
 |.str _=>T="str"
 |.int _=>T="int"
 |.ref p=>(T="list"∧∃xs,SqL K H p xs)∨(T="tuple"∧∃o,K.lookup p=some o∧o.cls=.type "tuple"∧o.dict=none)∨
   (T="dict"∧((∃kvs,H p=some (.dK kvs))∨∃kvs,H p=some (.dT kvs)))∨(T="set"∧∃S n,H p=some (.set S n))
 |_=>False
theorem yg {pins:List (Addr×Obj)} {σ:St} {H:Hp} {s:Shared} {T:String} {x:V} {v:Value} (I:Inv X pins σ H s) (r:RelV x v) (ty:tyV X.K T x H):
  s.TypeIs v T∧∀a,v=.ref a->∃ob,s.heap.get? a=some ob∧ob.dict=none:=by
 cases x with
 |str z=>
  obtain ⟨t,rfl⟩:=r
  cases (show T="str" from ty)
  exact ⟨typeIs_str s z t,fun _ e=>nomatch e⟩
 |int i=>
  obtain ⟨t,rfl⟩:=r
  cases (show T="int" from ty)
  exact ⟨typeIs_int s i t,fun _ e=>nomatch e⟩
 |ref p=>
  cases r
  rcases ty with ⟨rfl,xs,hq⟩|⟨rfl,o,hk,hc,hd⟩|⟨rfl,hk⟩|⟨rfl,S,n,hk⟩
  ·obtain ⟨its,_,pl,_⟩:=I.list hq
   refine ⟨pl.isList.typeIs,fun a e=>?_⟩
   cases e
   obtain ⟨o,n,e,c,hd,_⟩:=pl
   exact ⟨o,e,hd⟩
  ·refine ⟨⟨o,I.kIn p o hk,hc⟩,fun a e=>?_⟩
   cases e
   exact ⟨o,I.kIn _ o hk,hd⟩
  ·have z:∃o,s.heap.get? p=some o∧o.ExactDict:=by
    rcases hk with ⟨kvs,hk⟩|⟨kvs,hk⟩
    ·obtain ⟨_,_,_,_,o,_,_,e,ex,_⟩:=I.hok p _ hk
     exact ⟨o,e,ex⟩
    ·obtain ⟨_,_,_,_,o,_,_,e,ex,_⟩:=I.hok p _ hk
     exact ⟨o,e,ex⟩
   obtain ⟨o,e,ex⟩:=z
   refine ⟨⟨o,e,ex.1⟩,fun a e2=>?_⟩
   cases e2
   exact ⟨o,e,ex.2.1⟩
  ·obtain ⟨o,_,_,_,e,ex,_⟩:=I.hok p _ hk
   refine ⟨⟨o,e,ex.1⟩,fun a e2=>?_⟩
   cases e2
   exact ⟨o,e,ex.2.1⟩
 |_=>exact False.elim ty
noncomputable def tBM (K:PySem.W.Frag) (T:String) (r:V->List V->Hp->VK->Prop) (to:TE) (t:TA):TE:=fun σ H Q=>to σ H fun x H1=>tyV K T x H1∧t σ H1 fun xs H2=>r x xs H2 Q
variable {o e:Expr} {es:List Expr} {to:TE} {t:TA} {name:Str} {apos cpos:Pos} {T id:String} {r:V->List V->Hp->VK->Prop}
theorem BI (pa:PlainAttrs T) (slot:Slot T name id) (hty:typeOf (.builtin id)=pure (.type "method_descriptor")) (hm:MtR X id r) (ho:PE X o to) (ha:PA X (e::es) t)
  (hbase:attributeBase o name X.env (eval o X.env)=eval o X.env:=by rfl)
  (hfew:((backTo cpos (starEach (e::es) X.env)).all (fun x=>!x.1)&&(backToKw cpos (keywordEach [] X.env)).all (fun x=>x.1.isSome)
   &&decide ((e::es).length+([]:List Keyword).length+(if ([]:List Keyword).isEmpty then 0 else 1)<30))=true:=by rfl)
  (hline:(apos.endLine==cpos.line)=true:=by rfl) (hs:starEach (e::es) X.env=(false,eval e X.env)::starEach es X.env:=by rfl) (hplain:(backTo cpos (starEach es X.env)).any (·.1)=false:=by rfl):
  PE X (.Call (.Attribute o name apos) (e::es) [] cpos) (tBM X.K T r to t):=by
 intro pins s σ H Q I h
 refine wpAny_Call_method_late hbase hfew hline rfl (thn (ho pins s σ H _ I h) fun v s1 ⟨x,H1,I1,r1,ty,q1⟩=>?_)
 obtain ⟨h1,h2⟩:=yg I1 r1 ty
 refine ⟨T,id,pa,slot,hty,h1,h2,?_⟩
 have hA:=ha cpos pins s1 σ H1 _ I1 q1
 rw [hs] at hA ⊢
 refine Calls.callWith_builtin (by show (false||(backTo cpos (starEach es X.env)).any (·.1))=false;rw [hplain]<;>rfl) (Calls.evalArgs_plain ?_)
 exact thn hA fun us s2 ⟨vs,H2,I2,r2,q2⟩=>hm pins s2 σ H2 x vs v us Q I2 r1 r2 q2
end
end L2
namespace L2
open PySem PySem.Spec PyProof.Rows
noncomputable def MtM (X:Cx) (id:String) (r:V->List V->Hp->VK->Prop):Prop:=
 ∀(pins:List (Addr×Obj)) (s:Shared) (σ:St) (H:Hp) (x:V) (xs:List V) (v:Value) (us:List Value) (Q:VK),Inv X pins σ H s->RelV x v->Vals xs us->r x xs H Q->
  wpAny (model X.prog X.w) X.A (call (.builtin id) (v::us)) (EP X pins σ Q) X.xe s
theorem Vals.one:∀{x:V} {us:List Value},Vals [x] us->∃u,us=[u]∧RelV x u
 |_,_,.cons r .nil=>⟨_,rfl,r⟩
section
variable {X:Cx} {pins:List (Addr×Obj)} {σ:St} {H:Hp} {s:Shared} {l b:Addr} {xs ys zs:List V}
theorem Inv.BW {its its':List Value} {n:Nat} {f:Array Value->Array Value} {t':Nat} (I:Inv X pins σ H s) (hH:H l=some (.lst xs))
  (e:s.heap.get? l=some {cls:=.type "list",data:=.seq its.toArray n}) (hf:f its.toArray=its'.toArray) (hv:Vals ys its') (hz:ys.length<=sizeLine):
  Inv X pins σ (upd H l (.lst ys)) {s with heap:=s.heap.update l (Obj.mapSeq f),toks:=t'}:=by
 have q:=PySem.IsL.update e f
 rw [hf] at q
 refine I.write (x:=l) (e:=l) (by rw [hH];exact trivial) (.inl rfl) (fun b' u hb hu=>(Heap.get?_update_other s.heap (Obj.mapSeq f) (Ne.symm hb)).trans hu) ⟨_,q⟩ ?_
 exact ⟨hz,its',_,hv,q⟩
theorem Inv.BY (I:Inv X pins σ H s) (hH:H l=some (.lst xs)):xs.length<=sizeLine∧∃(its:List Value) (n:Nat),Vals xs its∧xs.length=its.length∧s.heap.get? l=some {cls:=.type "list",data:=.seq its.toArray n}:=by
 obtain ⟨z,its,n,r,e⟩:=I.hok l _ hH
 exact ⟨z,its,n,r,r.length,e⟩
end
section
variable {X:Cx}
noncomputable def xD:V->List V->Hp->VK->Prop:=fun x vs H Q=>∃l xs y,x=.ref l∧vs=[y]∧H l=some (.lst xs)∧xs.length<sizeLine∧Q .non (upd H l (.lst (xs++[y])))
theorem qr:MtM X "list.append" xD:=by
 intro pins s σ H x vs v us Q I rx rv h
 obtain ⟨l,xs,y,rfl,rfl,hH,hz,q⟩:=h
 cases rx
 obtain ⟨u,rfl,ru⟩:=rv.one
 obtain ⟨z,its,n,r,hl,e⟩:=I.BY hH
 refine call_meets F.slot_list_append ⟨_,e,rfl⟩ F.entry_list_append (F.args_list_append_2 _ _) (PySem.list_append l its.toArray n u (by rw [List.size_toArray];omega)) ⟨e,?_⟩
 refine ⟨.non,_,I.BW (its':=its++[u]) hH e (by simp) (r.append (.cons ru .nil)) ?_,rfl,q⟩
 rw [List.length_append,List.length_singleton]
 omega
end
end L2
namespace Att
open PySem PySem.W PySem.Calls PyProof.Rows
theorem i8 {P:Params} {h:Heap}:∀(ns:List Int) (vs:List Value),WellAll P h vs (ns.map WData.int)->IntsAre vs ns:=by
 intro ns
 induction ns with
 |nil=>
  intro vs w
  rw [List.map_nil] at w
  cases w
  exact .nil
 |cons n ns ih=>
  intro vs w
  rw [List.map_cons] at w
  cases w with
  |cons a b=>
   cases a
   exact .cons _ _ (ih _ b)
theorem qS {l:OpenLaw} {n:Nat} (hn:l.most=some n) {P:Params} {h:Heap} {args:List WData} {vals:List Value}
  (hpre:l.row.toRowW.claim.pre args=true) (hwl:WellAll P h vals args):
  ∃a vs ns,vals=[Value.ref a]∧args=[WData.list (ns.map WData.int)]∧h.get? a=some {cls:=.type "list",data:=.seq vs.toArray}∧IntsAre vs ns∧ns.length<=n:=by
 have hsh:WShape.hasAll [] args [.list .int]=true:=(pre_splitW hpre).1
 have hc:l.pre.holds [] {args:=args}=true:=(pre_splitW hpre).2
 obtain ⟨d,r,rfl,h1,h2⟩:=hasAllW_cons hsh
 obtain rfl:=hasAllW_nil h2
 obtain ⟨xs,rfl,h3⟩:=hasW_list h1
 obtain ⟨ns,rfl⟩:=items_int h3
 have hlen:ns.length<=n:=by
  unfold OpenLaw.pre at hc
  have h4:(WTm.not (.lt (.lit (.int (n:Int))) (.len (.arg 0)))).holds [] {args:=[.list (ns.map .int)]}=true:=by
   have h4:=(holds_andW hc).1
   rw [hn] at h4
   exact h4
  have h5:=condW_of h4 (w_not (w_lt w_lit (w_len_list (w_arg rfl))))
  rw [List.length_map] at h5
  refine Nat.le_of_not_lt fun q=>?_
  have q':(n:Int)<((ns.length:Nat):Int):=by omega
  first
   |(rw [decide_eq_true q'] at h5;exact absurd h5 (by decide))
   |(simp at h5;omega)
 cases hwl with
 |cons w1 w2=>
  cases w2
  cases w1 with
  |list ho hall=>exact ⟨_,_,ns,rfl,rfl,ho,i8 ns _ hall,hlen⟩
theorem rj (l:OpenLaw) (args:List WData):l.row.toRowW.claim.post args (.bool true) args=true:=
 postW_of (r:=l.row.toRowW) (X:=(true==true))
  (show WShape.has [] (.bool true) .bool=true by first|rfl|decide|simp [WShape.has,WShape.arms,WShape.armsAll])
  (show (WTm.eq .res (.lit (.bool true))).value [] {args:=args,res:=some (.bool true),after:=args}=some (.bool (true==true)) from w_eq_bool (w_res rfl) w_lit) rfl
theorem m4 {l:OpenLaw} {n:Nat} {q:Program} {loose:List Str} {XP:(Str->Option Value)->Heap->Prop} {YP:World->Heap->Prop} {d:DefRec}
  (hn:l.most=some n) (hdf:d.params.defaults=[])
  (call:∀(w:World) (s₀ s₁:Shared) (mg mb:Str->Option Value) (fa:Addr) (o:Obj) (pm cd doc:Value) (a:Addr) (vs:List Value) (ns:List Int),
   Ground q loose [] XP w s₀ mg mb s₁.heap->YP w s₁.heap->
   s₁.heap.get? fa=some o->o.data=.func (docDef d.name d.params d.body d.scope pm cd doc)->s₁.heap.CodeRec cd d.name->mg d.name=some (.ref fa)->
   s₁.heap.get? a=some {cls:=.type "list",data:=.seq vs.toArray}->IntsAre vs ns->ns.length<=n->s₁.gens=#[]->
   codeAny (model l.prog w) callerA (.call (.ref fa) ⟨[.ref a],[]⟩) (fun r s'=>r=.ok (.ret (.bool true))∧OldK s₁.heap s'.heap∧s'.os=s₁.os∧AllBare s'.gens) s₁):
  WalkO q loose XP YP l.row.toRowW d [] (fun f vs=>PySem.call f vs):=by
 intro w s₀ s₁ mg mb G Y fa o pm cd doc dV kV ho hd hcd hD hmg hg args vals as hpre hlay hrd hwl hlo
 obtain rfl:dV=.none:=Dflts.none hD hdf
 obtain rfl:kV=.none:=Dflts.noKw hD
 obtain ⟨a,vs,ns,rfl,rfl,hobj,hints,hlen⟩:=qS hn hpre hwl
 refine enter_call (codeAny_mono (call w s₀ s₁ mg mb fa o pm cd doc a vs ns G Y ho (fd_plain hd) hcd hmg hobj hints hlen hg) fun r s' hq=>?_)
 obtain ⟨rfl,h2,h3,h4⟩:=hq
 exact ⟨.inl ⟨.bool true,.bool true,[],rfl,fun _=>rfl,.bool true,rj l _,fun _=>⟨List.Pairwise.nil,fun _ hm=>(nomatch hm)⟩⟩,h2,h3,h4⟩
end Att
namespace L2
open PySem PySem.Spec PyProof.Rows
theorem kn:∀{vs:List Value} {ns:List Int},IntsAre vs ns->Vals (ns.map V.int) vs
 |_,_,.nil=>.nil
 |_,_,.cons n t h=>.cons ⟨t,rfl⟩ (kn h)
noncomputable def tO (H:Hp):Prop:=∀b,H b=none∨∃o xs,H b=some (.frz o (.lst xs))
theorem tL {P:Program} {w:World} {K:PySem.W.Frag} {mg mb:Str->Option Value} {CX:CXT} {k:Nat} {fa a:Addr} {fd:FuncData} {x:Str} {sp:Sp} {s₁:Shared} {vs:List Value} {ns:List Int}
  (KX:K.In s₁.heap) (hns:s₁.heap.Ns mainGlobals mg) (hb:s₁.heap.Ns builtinsNs mb) (hbb:∀x:Str,x≠"__name__"->mb x=bootBuiltins x) (hlim:s₁.heap.NoLimit) (hg:s₁.gens=#[])
  (ha:s₁.heap.get? a=some {cls:=.type "list",data:=.seq vs.toArray}) (hi:IntsAre vs ns) (hl:ns.length<=sizeLine) (hr:ay k callerA)
  (F:∀base:Heap,K.In base->base.Ns mainGlobals mg->aw P w K mg base CX k fa fd [x] sp) (hbind:∀(s:Shared) (u:Value),BindsTo s fd ⟨[u],[]⟩ [(x,u)])
  (hsp:∀H:Hp,tO H->SqL K H a (ns.map V.int)->sp [.ref a] H (fun v _=>v=.bl true) fun _ _ _=>False)
  (hCX:∀H e s',CX [] H s₁ (fun _ _ _=>False) e s'->False):
  codeAny (model P w) callerA (.call (.ref fa) ⟨[.ref a],[]⟩) (fun r s'=>r=.ok (.ret (.bool true))∧OldK s₁.heap s'.heap∧s'.os=s₁.os∧AllBare s'.gens) s₁:=by
 have rv:=kn hi
 have lenV:=hi.length
 have core:∀H:Hp,tO H->SqL K H a (ns.map V.int)->HOk P w H s₁.heap->(∀b,H b≠none->b=a)->(H a≠none->K.lookup a=none)->
   codeAny (model P w) callerA (.call (.ref fa) ⟨[.ref a],[]⟩) (fun r s'=>r=.ok (.ret (.bool true))∧OldK s₁.heap s'.heap∧s'.os=s₁.os∧AllBare s'.gens) s₁:=by
  intro H hO hS hok hA hK
  have base_of:∀{b:Addr} {o:Obj},s₁.heap.get? b=some o->H b=none->(fZ s₁.heap H).get? b=some o:=fun e n=>uo e n
  have noA:∀{b:Addr} {o:Obj} {es:Array DictEntry} {ep:Nat},s₁.heap.get? b=some o->o.data=.dict es ep->H b=none:=fun {b o es ep} e d=>by
   cases q:H b with
   |none=>rfl
   |some u=>
    have e':b=a:=hA b (by rw [q];simp)
    subst e'
    rw [ha] at e;cases e
    have d':Data.seq vs.toArray _=Data.dict es ep:=d
    cases d'
  have nsK:∀{b:Addr} {m:Str->Option Value},s₁.heap.Ns b m->(fZ s₁.heap H).Ns b m:=fun {b m} ⟨o,es,ep,e,d,r⟩=>⟨o,es,ep,base_of e (noA e d),d,r⟩
  have hKb:K.In (fZ s₁.heap H):=fun b o e=>base_of (KX b o e) (by
   cases q:H b with
   |none=>rfl
   |some u=>
    have e':b=a:=hA b (by rw [q];simp)
    subst e'
    rw [hK (by rw [q];simp)] at e;cases e)
  have hM:Mod K mg (fZ s₁.heap H):=⟨hKb,nsK hns,⟨mb,nsK hb,hbb⟩,let ⟨mc,h1,h2⟩:=hlim;⟨mc,nsK h1,h2⟩⟩
  have e0:iA P w K mg (fZ s₁.heap H) callerA [] s₁ H:=⟨rfl,hM,fun b o e=>wV e,Nat.le_of_eq (qx _ _),trivial,fun b hb=>absurd (show b∈([]:List Addr) from hb) (by simp),hok,.of_eq hg⟩
  refine codeAny_mono ((F _ hKb (nsK hns)).run callerA [] s₁ H ⟨[.ref a],[]⟩ [.ref a] [.ref a] _ _ hr e0 (hbind s₁ (.ref a)) (.cons rfl .nil) (hsp H hO hS)) fun r s' h=>?_
  cases r with
  |error e=>exact (hCX H e s' h).elim
  |ok fl=>
   cases fl with
   |next=>exact False.elim h
   |brk=>exact False.elim h
   |cont=>exact False.elim h
   |ret u=>
    obtain ⟨v,H',os,bare,un,hok',r',q⟩:=h
    have q':v=.bl true:=q
    subst q'
    obtain rfl:u=Value.bool true:=r'
    refine ⟨rfl,OldK.of_keep fun b o e=>?_,os,bare⟩
    cases q:H b with
    |none=>exact un.keep b o e q (by intro z;exact absurd (show b∈([]:List Addr) from z) (by simp)) (by simp)
    |some u=>
     rcases hO b with z|⟨ob,xs,z⟩
     ·rw [q] at z;cases z
     ·have z2:=un.eM b ob _ z
      obtain ⟨e1,_⟩:=hok b _ z
      obtain ⟨e2,_⟩:=hok' b _ z2
      rw [e] at e1;cases e1
      exact e2
 cases hk:K.lookup a with
 |some o=>
  have e:=KX a o hk
  rw [ha] at e
  cases e
  refine core (fun _=>none) (fun _=>.inl rfl) (.inr ⟨_,vs.toArray,_,hk,rfl,rfl,rfl,by rw [List.size_toArray,lenV];exact hl,by simpa using rv⟩) (fun b u z=>by have z':(none:Option HO)=some u:=z;cases z') (fun b z=>absurd rfl z) fun z=>absurd rfl z
 |none=>
  refine core (fun b=>if b=a then some (.frz {cls:=.type "list",data:=.seq vs.toArray} (.lst (ns.map V.int))) else none) (fun b=>?_) (.inl (.inr ⟨{cls:=.type "list",data:=.seq vs.toArray},if_pos rfl⟩)) (fun b u z=>?_) (fun b z=>?_) fun _=>hk
  ·by_cases hb:b=a
   ·exact .inr ⟨_,_,if_pos hb⟩
   ·exact .inl (if_neg hb)
  ·by_cases hb:b=a
   ·have z':=(if_pos hb).symm.trans z
    cases z'
    subst hb
    exact ⟨ha,by rw [List.length_map];exact hl,vs,_,rv,ha⟩
   ·have z':=(if_neg hb).symm.trans z
    cases z'
  ·by_cases hb:b=a
   ·exact hb
   ·exact absurd (if_neg hb) z
end L2
namespace L2
open PySem PySem.Spec PyProof.Rows
noncomputable abbrev KOf {K:PySem.W.Frag} {h:Heap} (_:K.In h):PySem.W.Frag:=K
theorem vf {l:PySem.W.OpenLaw} {n k:Nat} {q:Program} {loose:List Str} {XP:(Str->Option Value)->Heap->Prop} {YP:World->Heap->Prop} {d:DefRec} {K:Params->PySem.W.Frag} {CX:World->CXT} {sp:World->Sp} {x:Str}
  (hn:l.most=some n) (hn2:n<=sizeLine) (hdf:d.params.defaults=[]) (hr:ay k callerA)
  (hY:∀(w:World) (h:Heap),YP w h->(K w.params).In h)
  (F:∀(w:World) (mg:Str->Option Value) (fa:Addr) (h:Heap),(K w.params).In h->h.Ns mainGlobals mg->mg d.name=some (.ref fa)->
   ∃fd:FuncData,(∀(s:Shared) (u:Value),BindsTo s fd ⟨[u],[]⟩ [(x,u)])∧
    ∀base:Heap,(K w.params).In base->base.Ns mainGlobals mg->aw l.prog w (K w.params) mg base (CX w) k fa fd [x] (sp w))
  (hsp:∀(w:World) (H:Hp) (a:Addr) (ns:List Int),ns.length<=n->tO H->SqL (K w.params) H a (ns.map V.int)->sp w [.ref a] H (fun v _=>v=.bl true) fun _ _ _=>False)
  (hCX:∀(w:World) (H:Hp) (s:Shared) (e:Value) (s':Shared),CX w [] H s (fun _ _ _=>False) e s'->False):
  PySem.W.WalkO q loose XP YP l.row.toRowW d [] (fun f vs=>PySem.call f vs):=by
 refine Att.m4 hn hdf fun w s₀ s₁ mg mb fa o pm cd doc a vs ns G Y ho hd hcd hmg hobj hints hlen hg=>?_
 have KX:=hY w _ Y
 obtain ⟨fd,hb,hF⟩:=F w mg fa _ KX G.T.g hmg
 exact tL KX G.T.g G.T.b G.T.builtins G.T.nolimit hg hobj hints (Nat.le_trans hlen hn2) hr hF hb (fun H hO hS=>hsp w H a ns hlen hO hS) fun H e s'=>hCX w H s₁ e s'
end L2
namespace L2
open PySem PySem.Spec PyProof.Rows
noncomputable def inClass (s:Stmt) (j:Nat):Stmt:=match s with
 |.ClassDef _ _ _ body _ _ _ _ _ _ _=>body.getD j (.Pass ⟨0,0,0,0⟩)
 |_=>.Pass ⟨0,0,0,0⟩
noncomputable def c7 (s:Stmt):Arguments:=match s with
 |.FunctionDef _ a _ _ _ _ _ _ _ _=>a
 |_=>{posonlyargs:=[],args:=[],vararg:=none,kwonlyargs:=[],kw_defaults:=[],kwarg:=none,defaults:=[]}
noncomputable def aR (s:Stmt):List Stmt:=match s with
 |.FunctionDef _ _ b _ _ _ _ _ _ _=>b
 |_=>[]
noncomputable def ah (s:Stmt):Scope:=match s with
 |.FunctionDef _ _ _ _ _ _ sc _ _ _=>sc
 |_=>{kind:=.function,names:=[],isGenerator:=false,isCoroutine:=false}
noncomputable abbrev CX0:CXT:=fun _ _ _ _ _ _=>False
noncomputable abbrev E0:XK:=fun _ _ _=>False
theorem d9 {X:Cx}:Passes CX0 X E0:=fun _ _ _ _ _ _ _ h=>h.elim
structure Fun (K:PySem.W.Frag) (x qual:Str) (st:Stmt) (f:Addr) (fd:FuncData):Prop where
 ex:∃(oc:Value) (od:Option Addr) (kV doc pm:Value) (an:Option Addr) (cdv ct:Value) (osl:Array (Option Value)),
  fd=PySem.W.fnOf x qual (c7 st) (aR st) (ah st) .none kV doc pm an cdv ct∧K.lookup f=some ⟨oc,od,.func fd,osl⟩∧PySem.W.codeIn K cdv qual=true
 kp:PySem.W.keepIn K (.ref f)=true
section
variable {P:Program} {w:World} {K:PySem.W.Frag} {mg:Str->Option Value} {base:Heap}
theorem Fun.ok {x qual:Str} {st:Stmt} {f:Addr} {fd:FuncData} {N ps:List Str} {k:Nat} {sp:Sp} (F:Fun K x qual st f fd) (S:bA N ps (ah st)) (len:∀vs H Q E,sp vs H Q E->vs.length=ps.length)
  (hbody:∀(cdv:Value) (A:Around) (outer:List Env) (s:Shared) (H:Hp) (vs:List V) (Q:VK) (E:XK),ay k (A.deeper (envOfC qual (ah st) s.heap.objs.size f cdv))->sp vs H Q E->
   ∃t,PSs (bJ CX0 P w K mg base N qual (ah st) f cdv A outer s H E).nox (aR st) t∧t {nx:=fun _ H'=>Q .non H',rt:=Q} (start N vs) H):aw P w K mg base CX0 (k+1) f fd ps sp:=by
 obtain ⟨oc,od,kV,doc,pm,an,cdv,ct,osl,rfl,lk,hcd⟩:=F.ex
 refine uR lk hcd S len fun A outer s H vs Q E hr hsp=>?_
 obtain ⟨t,h,q⟩:=hbody cdv A outer s H vs Q E hr hsp
 exact ⟨t,h.nox,q⟩
theorem Fun.binds {x qual:Str} {st:Stmt} {f:Addr} {fd:FuncData} {ps:List Str} (F:Fun K x qual st f fd)
  (h:∀(kV doc pm:Value) (an:Option Addr) (cdv ct:Value) (us:List Value),us.length=ps.length->bindArgs (PySem.W.fnOf x qual (c7 st) (aR st) (ah st) .none kV doc pm an cdv ct) ⟨us,[]⟩=pure (ps.zip us)):Binds K fd ps []:=by
 obtain ⟨oc,od,kV,doc,pm,an,cdv,ct,osl,rfl,lk,hcd⟩:=F.ex
 exact .all (h kV doc pm an cdv ct)
theorem pX {x qual:Str} {st:Stmt} {f:Addr} {oc:Value} {od an:Option Addr} {osl:Array (Option Value)} {kV doc pm cdv ct:Value} (l:K.lookup f=some ⟨oc,od,.func (PySem.W.fnOf x qual (c7 st) (aR st) (ah st) .none kV doc pm an cdv ct),osl⟩)
  (c:PySem.W.codeIn K cdv qual=true) (k:PySem.W.keepIn K (.ref f)=true):Fun K x qual st f (PySem.W.fnOf x qual (c7 st) (aR st) (ah st) .none kV doc pm an cdv ct):=⟨⟨oc,od,kV,doc,pm,an,cdv,ct,osl,rfl,l,c⟩,k⟩
end
theorem fj {A B:Prop} (h:B):if false=true then A else B:=by
 rw [if_neg Bool.false_ne_true]
 exact h
theorem eK {A B:Prop} (h:A):if true=true then A else B:=by
 rw [if_pos rfl]
 exact h
end L2
namespace L2
open PySem PySem.Spec PyProof.Rows
section
variable {X:Cx} {pins:List (Addr×Obj)} {σ:St} {H:Hp} {s:Shared} {a:Addr} {y v:V} {u r:Value} {o:Option V} {A:Around} {E:Value->Shared->Prop}
theorem Inv.big (I:Inv X pins σ H s):sysModules<s.heap.objs.size:=by
 have h:mainGlobals<s.heap.objs.size:=(I.mod.glob.keeps I.bk).lt
 exact Nat.lt_trans (by decide) h
end
noncomputable def Ce (i:Expr):Prop:=∀ov iv,subscripted i false ov iv=operate [ov,iv] (getItem ov iv)
end L2
namespace CT
open PySem
noncomputable def cM (env:Env):List (Str×NameKind)->List (Str×Addr)->List (Str×Addr)
 |[],acc=>acc
 |(n,k)::r,acc=>if k==.free then cM env r ((n,(env.cells.lookup n).getD 0)::acc) else cM env r acc
theorem oU {env:Env} (f:Str×NameKind->List (Str×Addr)->Sem (ForInStep (List (Str×Addr))))
  (hf:∀n k acc,f (n,k) acc=if k==.free then (do let c←cellOf env n;pure (.yield ((n,c)::acc))) else pure (.yield acc)):
  ∀(names:List (Str×NameKind)) (acc:List (Str×Addr)),(∀x∈names,x.2=.free->∃c,env.cells.lookup x.1=some c)->forIn names acc f=pure (cM env names acc)
 |[],acc,_=>by rw [List.forIn_nil];rfl
 |(n,k)::r,acc,h=>by
  have hr:∀x∈r,x.2=.free->∃c,env.cells.lookup x.1=some c:=fun x hx=>h x (List.mem_cons_of_mem _ hx)
  rw [List.forIn_cons,hf]
  unfold cM
  by_cases hk:(k==NameKind.free)=true
  ·rw [if_pos hk,if_pos hk]
   obtain ⟨c,hc⟩:=h (n,k) List.mem_cons_self (beq_iff_eq.mp hk)
   have hc':env.cells.lookup n=some c:=hc
   rw [hc']
   simp only [cellOf,hc',pure_bind,Option.getD_some]
   exact oU f hf r _ hr
  ·rw [if_neg hk,if_neg hk]
   simp only [pure_bind]
   exact oU f hf r _ hr
theorem gk {scope:Scope} {env:Env} (h:∀x∈scope.names,x.2=.free->∃c,env.cells.lookup x.1=some c):closureFor scope env=pure (cM env scope.names []):=by
 simp only [closureFor]
 rw [oU (env:=env) _ (fun n k acc=>by cases hk:k==NameKind.free<;>simp [hk]) _ _ h]
 rfl
theorem gj {α:Type} {x:Str} {v:α}:∀{l:List (Str×α)},(l.map (·.1)).Nodup->(x,v)∈l->l.lookup x=some v
 |(k,u)::r,hn,hm=>by
  rw [List.map_cons,List.nodup_cons] at hn
  rw [List.lookup_cons]
  rcases List.mem_cons.mp hm with e|hm
  ·cases e;simp
  ·have:x≠k:=fun e=>hn.1 (e▸List.mem_map.mpr ⟨(x,v),hm,rfl⟩)
   rw [beq_false_of_ne this]
   exact gj hn.2 hm
theorem fb {α:Type} {x:Str} {v:α}:∀{l:List (Str×α)},(x,v)∈l->∃u,l.lookup x=some u
 |(k,u)::r,hm=>by
  rw [List.lookup_cons]
  rcases List.mem_cons.mp hm with e|hm
  ·cases e;exact ⟨v,by simp⟩
  ·cases x==k with
   |true=>exact ⟨u,rfl⟩
   |false=>exact fb hm
theorem iF {env:Env} {p:Str×Addr}:∀{names:List (Str×NameKind)} {acc:List (Str×Addr)},p∈acc->p∈cM env names acc
 |[],_,h=>h
 |(n,k)::r,acc,h=>by
  unfold cM
  split
  ·exact iF (List.mem_cons_of_mem _ h)
  ·exact iF h
theorem iE {env:Env} {n:Str} {c:Addr}:∀{names:List (Str×NameKind)} {acc:List (Str×Addr)},(∀x∈names,x.2=.free->∃c,env.cells.lookup x.1=some c)->(n,c)∈cM env names acc->
  (n,c)∈acc∨(env.cells.lookup n=some c∧(n,NameKind.free)∈names)
 |[],_,_,h=>.inl h
 |(m,k)::r,acc,hf,h=>by
  have hr:∀x∈r,x.2=.free->∃c,env.cells.lookup x.1=some c:=fun x hx=>hf x (List.mem_cons_of_mem _ hx)
  unfold cM at h
  split at h
  ·rename_i hk
   have hk':k=.free:=beq_iff_eq.mp hk
   obtain ⟨c',hc⟩:=hf (m,k) List.mem_cons_self hk'
   have hc':env.cells.lookup m=some c':=hc
   rcases iE hr h with h|⟨h1,h2⟩
   ·rcases List.mem_cons.mp h with e|h
    ·rw [hc'] at e;cases e
     exact .inr ⟨hc',by rw [hk'];exact List.mem_cons_self⟩
    ·exact .inl h
   ·exact .inr ⟨h1,List.mem_cons_of_mem _ h2⟩
  ·rcases iE hr h with h|⟨h1,h2⟩
   ·exact .inl h
   ·exact .inr ⟨h1,List.mem_cons_of_mem _ h2⟩
theorem mU {env:Env} {n:Str} {c:Addr} (hc:env.cells.lookup n=some c):∀{names:List (Str×NameKind)} {acc:List (Str×Addr)},(n,NameKind.free)∈names->(n,c)∈cM env names acc
 |(m,k)::r,acc,h=>by
  unfold cM
  rcases List.mem_cons.mp h with e|h
  ·cases e
   rw [if_pos (by decide),hc]
   exact iF List.mem_cons_self
  ·split<;>exact mU hc h
theorem bB:∀(names:List (Str×NameKind)) (n:Nat) (acc:List (Str×Addr)),cellsFrom n names acc=cellsFrom n names []++acc
 |[],_,_=>rfl
 |(m,k)::r,n,acc=>by
  unfold cellsFrom
  split
  ·rw [bB r (n+1) ((m,n)::acc),bB r (n+1) [(m,n)],List.append_assoc];rfl
  ·exact bB r n acc
theorem dY {x:Str} {c:Addr}:∀{names:List (Str×NameKind)} {n:Nat} {acc:List (Str×Addr)},(x,c)∈cellsFrom n names acc->(x,c)∈acc∨(x,NameKind.cell)∈names
 |[],_,_,h=>.inl h
 |(m,k)::r,n,acc,h=>by
  unfold cellsFrom at h
  split at h
  ·rename_i hk
   have hk':k=.cell:=beq_iff_eq.mp hk
   rcases dY h with h|h
   ·rcases List.mem_cons.mp h with e|h
    ·cases e;exact .inr (by rw [hk'];exact List.mem_cons_self)
    ·exact .inl h
   ·exact .inr (List.mem_cons_of_mem _ h)
  ·rcases dY h with h|h
   ·exact .inl h
   ·exact .inr (List.mem_cons_of_mem _ h)
theorem dX {x:Str}:∀{names:List (Str×NameKind)} {n:Nat} {acc:List (Str×Addr)},(x,NameKind.cell)∈names->∃c,(x,c)∈cellsFrom n names acc
 |(m,k)::r,n,acc,h=>by
  unfold cellsFrom
  rcases List.mem_cons.mp h with e|h
  ·cases e
   rw [if_pos (by decide),bB]
   exact ⟨n,List.mem_append_right _ List.mem_cons_self⟩
  ·split
   ·exact dX h
   ·exact dX h
theorem lookup_map2 {α β:Type} {f:Str->α->β} {x:Str}:∀{l:List (Str×α)},(l.map fun p=>(p.1,f p.1 p.2)).lookup x=(l.lookup x).map (f x)
 |[]=>rfl
 |(n,k)::r=>by
  rw [List.map_cons,List.lookup_cons,List.lookup_cons]
  by_cases hx:x=n
  ·subst hx;simp
  ·rw [beq_false_of_ne hx];exact lookup_map2
noncomputable def kin (env:Env) (x:Str) (k:NameKind):NameKind:=if (k==NameKind.free&&env.scope.kind==.function&&env.kindOf x==some .cell)=true then .cell else k
theorem jP {env:Env} {x:Str} {names:List (Str×NameKind)}:
  (names.map fun (n,k)=>if (k==NameKind.free&&env.scope.kind==.function&&env.kindOf n==some .cell) then (n,NameKind.cell) else (n,k)).lookup x=(names.lookup x).map (kin env x):=by
 rw [←lookup_map2 (f:=kin env)]
 congr 1
 refine List.map_congr_left fun p _=>?_
 obtain ⟨n,k⟩:=p
 show (if _ then _ else _)=(n,if _ then _ else _)
 split<;>rfl
theorem kK {M:Model} {A:Around} {E:Value->Shared->Prop} {s:Shared} {scope:Scope} {globals:Addr} {cl:List (Str×Addr)} {qual:Str} {env:Env} {Q:Env->Shared->Prop}
  (h:Q {scope:=scope,locals:=s.heap.objs.size,globals:=globals,cells:=cellsFrom (s.heap.objs.size+1) scope.names cl,qual:=qual,func:=none,code:=env.code,frame:=env.frame,builtins:=env.builtins}
   {s with heap:=pushCells (s.heap.push {cls:=.type "dict",data:=.dict #[]}) scope.names}):
  wpAny M A (newFunctionEnv scope globals cl [] qual none .none (some env)) Q E s:=by
 simp only [newFunctionEnv,Option.isSome_some,if_true]
 refine wpAny_bind (wpAny_alloc ?_)
 refine wpAny_bind (wpAny_layCells _ (fun name kind cells=>by cases hkc:kind==NameKind.cell<;>simp [hkc]) _ _ _ _ ?_)
 rw [show ({s with heap:=s.heap.push {cls:=.type "dict",data:=.dict #[]}}:Shared).heap.objs.size=s.heap.objs.size+1 from Heap.size_push ..]
 simp only [List.forIn_nil,pure_bind]
 exact wpAny_pure h
noncomputable def aV (elt:Expr) (gens:List Comprehension) (scope:Scope) (pos:Pos) (d:Nat) (acc:Value) (env:Env):Sem Unit:=
 match gens[d+1]? with
 |some g'=>do
  let x←eval g'.iter env
  standAt g'.iter.pos
  let x←if g'.is_async !=0 then foldedIterable g'.iter x else foldedSetIterable g'.iter env x
  let _←runOwn (.compStart (.ListComp elt gens scope pos) (d+1) (←holding [x] (if g'.is_async !=0 then asyncIter x else pyIter x)) acc env) env
 |none=>do let _←call (.builtin "list.append") [acc,←eval elt env]
theorem dJ (elt:Expr) (gens:List Comprehension) (scope:Scope) (pos:Pos) (d:Nat) (it acc:Value) (env:Env) {tg iter:Expr} {ifs:List Expr} (hg:gens[d]?=some ⟨tg,iter,ifs,0⟩):
  compTurn (.ListComp elt gens scope pos) d it acc env=(standAt iter.pos>>=fun _=>pyNext it>>=fun r=>match r with
   |none=>pure (.done .next)
   |some v=>letOwnedTupleGo tg it v>>=fun _=>assign tg env v>>=fun _=>
    (forIn ifs true fun c r=>if r=true then do let ok←isTrue c env (eval c env);pure (ForInStep.yield ok) else pure (ForInStep.yield r))>>=fun ok=>
     (if ok=true then aV elt gens scope pos d acc env else pure ())>>=fun _=>again (.compLoop (.ListComp elt gens scope pos) d it acc env)):=by
 unfold compTurn aV
 simp only [hg,show ((0:Int) !=0)=false from rfl,Bool.false_eq_true,if_false]
 congr 1
 funext _
 congr 1
 funext r
 cases r with
 |none=>rfl
 |some v=>
  dsimp only
  congr 1;funext _
  congr 1;funext _
  congr 1;funext ok
  cases ok with
  |false=>simp
  |true=>
   simp only [if_true]
   cases gens[d+1]? with
   |none=>rfl
   |some g'=>
    by_cases ha:(g'.is_async !=0)=true
    ·simp [ha,bind_assoc]
    ·simp [ha,bind_assoc]
section
variable {prog:Program} {w:World} {A:Around} {R:Result->Shared->Prop} {s:Shared}
theorem eL {elt:Expr} {gens:List Comprehension} {scope:Scope} {pos:Pos} {d:Nat} {it acc:Value} {env:Env} {tg iter:Expr} {ifs:List Expr} (hg:gens[d]?=some ⟨tg,iter,ifs,0⟩)
  (h0:codeAny (model prog w) A (.compLoop (.ListComp elt gens scope pos) d it acc env) R s)
  (h:wpAny (model prog w) A (pyIter it) (fun it' s'=>codeAny (model prog w) A (.compLoop (.ListComp elt gens scope pos) d it' acc env) R s') (notedBy (model prog w) A env fun x s'=>R (.error x) s') s):
  codeAny (model prog w) A (.compStart (.ListComp elt gens scope pos) d it acc env) R s:=by
 refine codeAny_of_tree ?_
 show wpAny _ _ ((compStart (.ListComp elt gens scope pos) d it acc env).onRaise (fun x=>do noteFrame x env;standAt theWindowsPlace)) _ _ s
 refine wpAny_notedAt ?_
 unfold compStart
 have e:(clausesOf (.ListComp elt gens scope pos))[d]?=some ⟨tg,iter,ifs,0⟩:=hg
 rw [e]
 show wpAny _ _ (ask>>=_) _ _ s
 refine wpAny_bind (wpAny_askSetting (wpAny_ite ?_))
 split
 ·first
   |exact wpAny_bind (wpAny_pure (wpAny_pure (And.intro rfl h0)))
   |exact wpAny_pure (And.intro rfl h0)
 ·first
   |exact wpAny_bind (wpAny_rule (wpAny_bind (wpAny_standAt (wpAny_bind (wpAny_mono h (fun it' s' h'=>wpAny_pure (And.intro rfl h')) fun _ _ x=>x)))))
   |(refine wpAny_bind (wpAny_rule ?_);show wpAny _ _ (standAt iter.pos>>=_) _ _ s;exact wpAny_bind (wpAny_standAt (wpAny_bind (wpAny_mono h (fun it' s' h'=>wpAny_pure (And.intro rfl h')) fun _ _ x=>x))))
end
end CT
namespace CT
open PySem PySem.Spec L2
open PyProof.Rows hiding St
noncomputable def cY (X:Cx) (scope:Scope) (n0:Nat):Env:=
 {scope:=relabel scope X.env,locals:=n0+1,globals:=X.env.globals,cells:=cellsFrom (n0+2) scope.names (cM X.env scope.names []),qual:=X.env.qual,func:=none,code:=X.env.code,frame:=X.env.frame,builtins:=X.env.builtins}
structure CS (X:Cx) (scope:Scope) (own:List Str) (cap:List (Str×Nat)):Prop where
 kind:scope.kind=.function
 nd:(scope.names.map (·.1)).Nodup
 fr:∀x∈scope.names,x.2=.free->X.env.kindOf x.1=some .cell∨X.env.kindOf x.1=some .free
 BS:∀x∈own,(x,NameKind.local)∈scope.names∨(x,NameKind.cell)∈scope.names
 BZ:∀p∈cap,X.N[p.2]?=some p.1∧(p.1,NameKind.free)∈scope.names
 nN:(own++cap.map (·.1)).Nodup
noncomputable def cX (X:Cx) (scope:Scope) (own:List Str) (cap:List (Str×Nat)) (pins:List (Addr×Obj)) (s₂:Shared) (H₂:Hp) (fp:List Addr):Cx:=
 {prog:=X.prog,w:=X.w,K:=X.K,mg:=X.mg,base:=X.base,A:=X.A,N:=own++cap.map (·.1),s₀:=s₂,H₀:=H₂,env:=cY X scope s₂.heap.objs.size,outer:=X.stack,stack:=X.stack,ex:=fp,
  fn:=fun x=>decide (x∈own),calm:=X.calm,pn:=X.pn++pins,xe:=fun _ _=>False}
noncomputable def cS (own:List Str) (cap:List (Str×Nat)) (σ:St):St:=own.map (fun _=>none)++cap.map fun p=>(σ[p.2]?).join
section
variable {X:Cx} {scope:Scope} {own:List Str} {cap:List (Str×Nat)} {pins:List (Addr×Obj)} {σ:St} {H:Hp} {s:Shared} {fp:List Addr}
theorem CS.lk (cs:CS X scope own cap) {x:Str} {k:NameKind} (h:(x,k)∈scope.names):scope.names.lookup x=some k:=gj cs.nd h
theorem CS.uniq (cs:CS X scope own cap) {x:Str} {k k':NameKind} (h:(x,k)∈scope.names) (h':(x,k')∈scope.names):k=k':=Option.some.inj ((cs.lk h).symm.trans (cs.lk h'))
theorem g8 {n0:Nat} {x:Str}:(cY X scope n0).kindOf x=(scope.names.lookup x).map (kin X.env x):=jP
theorem eD {x:Str} {c:Addr}:∀{names:List (Str×NameKind)} {n:Nat} {acc:List (Str×Addr)},(x,c)∈cellsFrom n names acc->(x,c)∈acc∨n<=c
 |[],_,_,h=>.inl h
 |(m,k)::r,n,acc,h=>by
  unfold cellsFrom at h
  split at h
  ·rcases eD h with h|h
   ·rcases List.mem_cons.mp h with e|h
    ·cases e;exact .inr (Nat.le_refl _)
    ·exact .inl h
   ·exact .inr (Nat.le_of_succ_le h)
  ·exact eD h
theorem CS.oX (cs:CS X scope own cap) (ok:X.Ok):∀x∈scope.names,x.2=.free->∃c,X.env.cells.lookup x.1=some c:=fun x hx e=>ok.has x.1 (cs.fr x hx e)
theorem CS.bo (cs:CS X scope own cap) (ok:X.Ok) {n0:Nat} {x:Str} {c:Addr} (h:(cY X scope n0).cells.lookup x=some c):
  ((x,NameKind.cell)∈scope.names∧n0+2<=c∧(x,c)∈cellsFrom (n0+2) scope.names [])∨((x,NameKind.free)∈scope.names∧X.env.cells.lookup x=some c):=by
 have hm:(x,c)∈cellsFrom (n0+2) scope.names (cM X.env scope.names []):=mem_of_lookup h
 rw [bB] at hm
 rcases List.mem_append.mp hm with hm|hm
 ·refine .inl ⟨?_,?_,hm⟩
  ·rcases dY hm with z|z
   ·cases z
   ·exact z
  ·rcases eD hm with z|z
   ·cases z
   ·exact z
 ·rcases iE (cs.oX ok) hm with z|⟨z1,z2⟩
  ·cases z
  ·exact .inr ⟨z2,z1⟩
theorem CS.lU (cs:CS X scope own cap) (ok:X.Ok) {n0:Nat} {x:Str} {c:Addr} (hx:(x,NameKind.free)∈scope.names) (hc:X.env.cells.lookup x=some c):(cY X scope n0).cells.lookup x=some c:=by
 have hm:(x,c)∈cellsFrom (n0+2) scope.names (cM X.env scope.names []):=by
  rw [bB]
  exact List.mem_append_right _ (mU hc hx)
 obtain ⟨u,hu⟩:=fb hm
 have hu':(cY X scope n0).cells.lookup x=some u:=hu
 rcases cs.bo ok hu' with ⟨z,_⟩|⟨_,z⟩
 ·cases cs.uniq hx z
 ·rw [hc] at z;cases z;exact hu'
theorem CS.si (cs:CS X scope own cap) {n0:Nat} {x:Str} (hx:(x,NameKind.cell)∈scope.names):∃c,(cY X scope n0).cells.lookup x=some c:=by
 obtain ⟨c,hc⟩:=dX (n:=n0+2) (acc:=cM X.env scope.names []) hx
 exact fb hc
theorem A7 (I:Inv X pins σ H s) (cs:CS X scope own cap) (hf:∀b∈fp,a9 X pins H b) (hlt:∀b∈fp,b<s.heap.objs.size):(cX X scope own cap pins s H fp).Ok where
 mod:=I.ok.mod
 kind:=cs.kind
 glob:=I.ok.glob
 blt:=I.ok.blt
 above:=Nat.le_succ _
 inj:=fun x y c h1 h2=>by
  rcases cs.bo I.ok h1 with ⟨a1,a2,a3⟩|⟨a1,a2⟩<;>rcases cs.bo I.ok h2 with ⟨b1,b2,b3⟩|⟨b1,b2⟩
  ·have k:=cellsFrom_ok scope.names ((s.heap.push {cls:=.type "list",data:=.seq #[] 0}).push {cls:=.type "list",data:=.seq #[] 0}) 0 [] ⟨fun _ _ hm=>(nomatch hm),List.Pairwise.nil⟩ (Nat.zero_le _)
   rw [Heap.size_push,Heap.size_push] at k
   exact name_of_addr k.apart a3 b3
  ·obtain ⟨v,hv⟩:=I.cell y c b2
   exact absurd (Nat.lt_of_lt_of_le hv.lt (Nat.le_trans (Nat.le_add_right _ 2) a2)) (Nat.lt_irrefl _)
  ·obtain ⟨v,hv⟩:=I.cell x c a2
   exact absurd (Nat.lt_of_lt_of_le hv.lt (Nat.le_trans (Nat.le_add_right _ 2) b2)) (Nat.lt_irrefl _)
  ·exact I.ok.inj x y c a2 b2
 has:=fun x hx=>by
  have e:(cY X scope s.heap.objs.size).kindOf x=(scope.names.lookup x).map (kin X.env x):=g8
  have hx':(scope.names.lookup x).map (kin X.env x)=some .cell∨(scope.names.lookup x).map (kin X.env x)=some .free:=by rw [←e];exact hx
  cases hk:scope.names.lookup x with
  |none=>rw [hk] at hx';rcases hx' with z|z<;>cases z
  |some k=>
   rw [hk] at hx'
   have hm:=mem_of_lookup hk
   by_cases hfree:k=.free
   ·subst hfree
    obtain ⟨c,hc⟩:=cs.oX I.ok _ hm rfl
    exact ⟨c,cs.lU I.ok hm hc⟩
   ·have hkk:kin X.env x k=k:=by
     unfold kin
     rw [if_neg]
     intro z
     have:(k==NameKind.free)=false:=by simpa using hfree
     rw [this] at z;cases z
    have hk':k=.cell:=by
     rcases hx' with z|z
     ·have z':some (kin X.env x k)=some NameKind.cell:=z
      rw [hkk] at z';exact Option.some.inj z'
     ·have z':some (kin X.env x k)=some NameKind.free:=z
      rw [hkk] at z';exact absurd (Option.some.inj z') hfree
    subst hk'
    exact cs.si hm
 cab:=fun x c hx hc=>by
  have hx':x∈own:=of_decide_eq_true hx
  rcases cs.bo I.ok hc with ⟨_,a,_⟩|⟨a,_⟩
  ·exact Nat.le_trans (Nat.le_add_right _ 2) a
  ·rcases cs.BS x hx' with z|z<;>cases cs.uniq a z
 hd:=I.ok.hd
 frames:=I.ok.frames
 stk:=.inl rfl
 exf:=fun b hb=>⟨Nat.ne_of_lt (Nat.lt_succ_of_lt (hlt b hb)),fun x c hc=>by
  rcases cs.bo I.ok hc with ⟨_,a,_⟩|⟨_,a⟩
  ·exact Nat.ne_of_gt (Nat.lt_of_lt_of_le (hlt b hb) (Nat.le_trans (Nat.le_add_right _ 2) a))
  ·exact (hf b hb).2.2.2.2.1 x c a⟩
 bs:=fun b o e=>I.bs b o e
 bsz:=Nat.le_trans I.ok.bsz I.sz
 fI:=fun b o e hb=>by
  rcases (hf b hb).2.2.2.1 with z|z
  ·exact I.ok.fI b o e z
  ·exact absurd (Nat.lt_of_lt_of_le (Heap.lt_size e) (Nat.le_trans I.ok.bsz z)) (Nat.lt_irrefl _)
 hV:=fun b hb z=>by
  rcases List.mem_cons.mp (I.fy b z) with z|z
  ·exact (hf b hb).2.1 z
  ·exact (hf b hb).2.2.1 z
 cV:=I.stack
 frf:=I.jK
theorem sv {env:Env} {x:Str} (h:env.kindOf x=some .cell∨env.kindOf x=some .free):kin env x .free=.cell∨kin env x .free=.free:=by
 unfold kin;split
 ·exact .inl rfl
 ·exact .inr rfl
theorem tG (I:Inv X pins σ H s) (cs:CS X scope own cap) (hf:∀b∈fp,a9 X pins H b) (hlt:∀b∈fp,b<s.heap.objs.size) {o:Obj} (hof:o.isFreed=false):
  Inv (cX X scope own cap pins s H fp) [] (cS own cap σ) H {s with heap:=pushCells ((s.heap.push o).push {cls:=.type "dict",data:=.dict #[]}) scope.names}:=by
 have kp:∀b u,s.heap.get? b=some u->(pushCells ((s.heap.push o).push {cls:=.type "dict",data:=.dict #[]}) scope.names).get? b=some u:=fun b u e=>pushCells_keeps _ _ b u (Heap.get?_push_of_some _ (Heap.get?_push_of_some _ e))
 have ck:=cellsFrom_ok scope.names ((s.heap.push o).push {cls:=.type "dict",data:=.dict #[]}) 0 [] ⟨fun _ _ hm=>(nomatch hm),List.Pairwise.nil⟩ (Nat.zero_le _)
 rw [Heap.size_push,Heap.size_push] at ck
 refine ⟨A7 I cs hf hlt,rfl,I.bare,Un.kept kp,?_,?_,I.hok.fresh (Nat.le_succ _),?_,?_,I.hok.kept kp,?_⟩
 ·refine ⟨fun _=>none,?_,fun i x v e1 e2 e3=>?_⟩
  ·have n:=Heap.Ns.new (s.heap.push o) (.type "dict")
   rw [Heap.size_push] at n
   exact n.keeps (pushCells_keeps _ _)
  ·have e1':(own++cap.map (·.1))[i]?=some x:=e1
   have e2':(own.map (fun _=>(none:Option V))++cap.map fun p=>(σ[p.2]?).join)[i]?=some (some v):=e2
   by_cases hi:i<own.length
   ·rw [List.getElem?_append_left (by simpa using hi),List.getElem?_map] at e2'
    cases hq:own[i]? with
    |none=>rw [hq] at e2';cases e2'
    |some y=>rw [hq] at e2';cases e2'
   ·have hi':own.length<=i:=Nat.le_of_not_lt hi
    rw [List.getElem?_append_right hi',List.getElem?_map] at e1'
    rw [List.getElem?_append_right (by simpa using hi'),List.getElem?_map,List.length_map] at e2'
    cases hq:cap[i - own.length]? with
    |none=>rw [hq] at e1';cases e1'
    |some p=>
     rw [hq] at e1' e2'
     have e1'':p.1=x:=Option.some.inj e1'
     have e2'':(σ[p.2]?).join=some v:=Option.some.inj e2'
     subst e1''
     have e2s:σ[p.2]?=some (some v):=by
      cases hs:σ[p.2]? with
      |none=>rw [hs] at e2'';cases e2''
      |some y=>rw [hs] at e2'';rw [show y=some v from e2'']
     obtain ⟨hN,hfree⟩:=cs.BZ p (List.mem_of_getElem? hq)
     have hkk:=cs.fr _ hfree rfl
     have vis:Vis X.env.scope p.1:=hkk.elim (fun z=>.inr (.inl z)) fun z=>.inr (.inr z)
     obtain ⟨m,hn,hl⟩:=I.loc
     obtain ⟨u,r,l⟩:=hl p.2 p.1 v hN e2s vis
     refine ⟨u,r,.inr ⟨?_,?_⟩⟩
     ·have e:(cY X scope s.heap.objs.size).kindOf p.1=(scope.names.lookup p.1).map (kin X.env p.1):=g8
      rw [cs.lk hfree] at e
      rcases sv hkk with z|z
      ·exact .inl (e.trans (congrArg some z))
      ·exact .inr (e.trans (congrArg some z))
     ·rcases l with ⟨lk,_⟩|⟨_,c,hc,hcell⟩
      ·rcases hkk with z|z<;>(rw [z] at lk;cases lk)
      ·exact ⟨c,cs.lU I.ok hfree hc,hcell.keeps kp⟩
 ·intro x c hc
  rcases cs.bo I.ok hc with ⟨_,_,a⟩|⟨_,a⟩
  ·exact ⟨_,(ck.empty x c a).1⟩
  ·obtain ⟨v,hv⟩:=I.cell x c a
   exact ⟨v,hv.keeps kp⟩
 ·intro x c hc
  rcases cs.bo I.ok hc with ⟨_,a,_⟩|⟨_,a⟩
  ·exact I.hok.fresh (Nat.le_trans (Nat.le_add_right _ 2) a)
  ·exact I.bM x c a
 ·intro p hp
  have hp':p∈X.pn++pins:=by simpa [cX] using hp
  obtain ⟨e,n,ne,nf,d⟩:=I.pin p hp'
  refine ⟨kp _ _ e,n,Nat.ne_of_lt (Nat.lt_succ_of_lt (Heap.lt_size e)),fun z=>?_,d⟩
  rcases List.mem_cons.mp (I.fy p.1 z) with z|z
  ·exact ne z
  ·exact nf z
 ·simp [cX,cS]
noncomputable def Acc (h:Heap) (acc:Addr) (ys:List V):Prop:=∃its:List Value,Vals ys its∧h.PlainList acc its.toArray
theorem Acc.at {h h':Heap} {acc:Addr} {ys:List V} (x:Acc h acc ys) (k:∀o,h.get? acc=some o->h'.get? acc=some o):Acc h' acc ys:=let ⟨its,r,p⟩:=x;⟨its,r,p.at k⟩
theorem Acc.obj {h:Heap} {acc:Addr} {ys:List V} (x:Acc h acc ys):∃o,h.get? acc=some o∧∀v,o.data≠.cell v:=by
 obtain ⟨its,r,n,e⟩:=x
 exact ⟨_,e,fun v z=>by
  have z':Data.seq _ _=Data.cell v:=z
  cases z'⟩
end
structure AK (α:Type) where
 ac:Heap->Addr->α->Prop
 kept:∀{h h':Heap} {acc:Addr} {ys:α},ac h acc ys->(∀o,h.get? acc=some o->h'.get? acc=some o)->ac h' acc ys
 obj:∀{h:Heap} {acc:Addr} {ys:α},ac h acc ys->∃o,h.get? acc=some o∧∀v,o.data≠.cell v
noncomputable def oQ:AK (List V):=⟨Acc,Acc.at,Acc.obj⟩
noncomputable abbrev TBg (α:Type):=St->Hp->α->(α->Hp->Prop)->Prop
noncomputable abbrev TB:=TBg (List V)
noncomputable def PBg {α:Type} (B:AK α) (Y:Cx) (acc:Addr) (m:Sem Unit) (t:TBg α):Prop:=
 ∀(pins:List (Addr×Obj)) (s:Shared) (σ:St) (H:Hp) (ys:α) (Q:α->Hp->Prop),Inv Y pins σ H s->a9 Y pins H acc->B.ac s.heap acc ys->t σ H ys Q->
  wpAny (model Y.prog Y.w) Y.A m (fun _ s'=>∃ys' H',Inv Y pins σ H' s'∧H' acc=none∧B.ac s'.heap acc ys'∧Q ys' H') Y.xe s
noncomputable abbrev PB (Y:Cx) (acc:Addr) (m:Sem Unit) (t:TB):Prop:=PBg oQ Y acc m t
noncomputable def PTs (Y:Cx) (ifs:List Expr) (t:TT):Prop:=
 ∀(pins:List (Addr×Obj)) (s:Shared) (σ:St) (H:Hp) (Q:Bool->Hp->Prop),Inv Y pins σ H s->t σ H Q->
  wpAny (model Y.prog Y.w) Y.A (forIn ifs true fun c r=>if r=true then do let ok←isTrue c Y.env (eval c Y.env);pure (ForInStep.yield ok) else pure (ForInStep.yield r)) (TP Y pins σ Q) Y.xe s
noncomputable def AN:TT:=fun _ H Q=>Q true H
theorem ju {P:Addr->Prop} {a:Addr} (h:P a):∀b∈[a],P b:=fun b hb=>by
 have e:b=a:=by simpa using hb
 rw [e];exact h
section
variable {Y:Cx} {acc:Addr}
theorem vX:PTs Y [] AN:=fun _ _ _ H _ I h=>wpAny_pure ⟨H,I,h⟩
theorem wx {c:Expr} {t:TT} (h:PT Y c t):PTs Y [c] t:=fun pins s σ H Q I hw=>by
 simp only [List.forIn_cons,List.forIn_nil,if_true]
 exact wpAny_bind (wpAny_bind (thn (h pins s σ H Q I hw) fun b s' hb=>wpAny_pure (wpAny_pure hb)))
noncomputable def Bd (te:TE):TB:=fun σ H ys Q=>ys.length<=sizeLine∧te σ H fun v H1=>Q (ys++[v]) H1
theorem wY {elt:Expr} {te:TE} (he:PE Y elt te):PB Y acc (do let _←call (.builtin "list.append") [.ref acc,←eval elt Y.env]) (Bd te):=by
 intro pins s σ H ys Q I hf ha h
 obtain ⟨hz,h⟩:=h
 have I1:=I.pinned (fp:=[acc]) (ju hf) (ju ha.obj)
 refine wpAny_bind (thn (he _ s σ H _ I1 h) fun u s1 ⟨v,H1,I2,r,q⟩=>?_)
 obtain ⟨o,eo,_⟩:=ha.obj
 have pin:=I2.pin (acc,o) (List.mem_append_right _ (List.mem_append_right _ (bO (by simp) eo)))
 have ha1:Acc s1.heap acc ys:=ha.at fun o' e'=>by rw [eo] at e';cases e';exact pin.1
 obtain ⟨its,rv,pl⟩:=ha1
 obtain ⟨f0,f1,f2,f3,f4,f5⟩:=hf
 refine wpAny_bind (wpAny_list_append_plain pl (fun h' pl' sb=>wpAny_pure ?_) ?_)
 ·have I3:Inv Y pins σ H1 {s1 with heap:=h'}:=I2.cu.turned (t':=s1.toks) (fun b o hb e=>(sb.2 b hb).trans e) pin.2.1 f1 f3 f4 f5
  exact ⟨ys++[v],H1,I3,pin.2.1,⟨its++[u],rv.append (.cons r .nil),by simpa using pl'⟩,q⟩
 ·have:=rv.length
  simp only [List.size_toArray]
  omega
noncomputable def Fgt (σ σ':St):Prop:=σ.length=σ'.length∧∀(i:Nat) v,σ[i]?=some (some v)->σ'[i]?=some (some v)
noncomputable def iY {α:Type} (g:TG) (tt:TT) (tb:TBg α) (J:It) (σ:St) (H:Hp) (ys:α) (Q:α->Hp->Prop):Prop:=
 ∃W:Nat->Nat->α->Hp->Prop,(∃m,W 0 m ys H)∧∀i m ys H,W i m ys H->
  (J.stop i H∧Q ys H)∨(J.go i H∧∀x H',J.yld i H x H'->g x σ H' fun σ2 H2=>Fgt σ σ2∧tt σ2 H2 fun b H3=>
   if b=true then tb σ2 H3 ys fun ys' H4=>∃m',m'<m∧W (i+1) m' ys' H4 else ∃m',m'<m∧W (i+1) m' ys H3)
noncomputable def lN (P:Program) (w:World) (node:Expr) (d:Nat) (it acc:Value) (env:Env):Prop:=(∀A:Around,A.under (.compLoop node d it acc env)=A)∧(model P w).den (.compLoop node d it acc env)=(compTurn node d it acc env).onRaise (fun x=>do noteFrame x env;theTreesLotGoes x)
theorem kZ {P:Program} {w:World} {elt:Expr} {gens:List Comprehension} {scope:Scope} {pos:Pos} {d:Nat} {it acc:Value} {env:Env}:lN P w (.ListComp elt gens scope pos) d it acc env:=⟨fun _=>rfl,rfl⟩
noncomputable def qu (node:Expr) (d:Nat) (tg iter:Expr) (ifs:List Expr) (it acc:Value) (env:Env) (ins:Sem Unit):Prop:=
 compTurn node d it acc env=(standAt iter.pos>>=fun _=>pyNext it>>=fun r=>match r with
   |none=>pure (.done .next)
   |some v=>letOwnedTupleGo tg it v>>=fun _=>assign tg env v>>=fun _=>
    (forIn ifs true fun c r=>if r=true then do let ok←isTrue c env (eval c env);pure (ForInStep.yield ok) else pure (ForInStep.yield r))>>=fun ok=>
     (if ok=true then ins else pure ())>>=fun _=>again (.compLoop node d it acc env))
theorem gz {α:Type} {B:AK α} {node:Expr} {d:Nat} {tg iter:Expr} {ifs:List Expr} {ins:Sem Unit} {it:Addr} (hd:lN Y.prog Y.w node d (.ref it) (.ref acc) Y.env) (hg:qu node d tg iter ifs (.ref it) (.ref acc) Y.env ins) {g:TG} {tt:TT} {tb:TBg α} (hc:Y.calm=true) (hx:∀e s,Y.xe e s->False)
  (h1:PG Y tg g) (h2:PTs Y ifs tt) (h3:PBg B Y acc ins tb)
  {J:It} {fp:List Addr} {tn:Nat->Heap->Prop} (T:Turn Y.prog Y.w Y.K tg J fp it tn) (hac:acc∉fp)
  {pins:List (Addr×Obj)} {s:Shared} {σ:St} {H:Hp} {ys:α} {Q:α->Hp->Prop} {R:Result->Shared->Prop} (I:Inv Y pins σ H s) (st:tn 0 s.heap) (hf:∀b∈fp,a9 Y pins H b) (ha:a9 Y pins H acc) (ac:B.ac s.heap acc ys)
  (h:iY g tt tb J σ H ys Q) (hR:∀s' ys' H',Inv Y pins σ H' s'->H' acc=none->B.ac s'.heap acc ys'->Q ys' H'->R (.ok .next) s'):
  codeAny (model Y.prog Y.w) Y.A (.compLoop node d (.ref it) (.ref acc) Y.env) R s:=by
 obtain ⟨W,⟨m0,w0⟩,turn⟩:=h
 have stat:∀{H':Hp},(∀b∈fp,H' b=none)->∀b∈fp,a9 Y pins H' b:=fun hn b hb=>⟨hn b hb,(hf b hb).2⟩
 have nox:∀{E:Value->Shared->Prop} {α:Type} {m:Sem α} {P:α->Shared->Prop} {s:Shared},wpAny (model Y.prog Y.w) Y.A m P Y.xe s->wpAny (model Y.prog Y.w) Y.A m P E s:=fun h=>wpAny_mono h (fun _ _ q=>q) fun _ _ z=>(hx _ _ z).elim
 refine codeAny_loop rfl (fun n s'=>∃i H' ys',Inv Y pins σ H' s'∧tn i s'.heap∧(∀b∈fp,H' b=none)∧H' acc=none∧B.ac s'.heap acc ys'∧W i n ys' H') ?_ m0 ⟨0,H,ys,I,st,fun b hb=>(hf b hb).1,ha.1,ac,w0⟩
 rintro n s3 ⟨i,H3,ys3,I3,st3,fr3,an3,ac3,w3⟩
 rw [hd.1,hd.2]
 refine wpAny_noted ?_
 rw [hg]
 refine wpAny_bind (wpAny_standAt (wpAny_bind ?_))
 obtain ⟨oa,ea,da⟩:=(B.obj ac3)
 have fa3:a9 Y pins H3 acc:=⟨an3,ha.2⟩
 have J3:Inv Y (pins++bQ [acc] s3.heap) σ H3 s3:=I3.pinned (fp:=[acc]) (ju fa3) (ju (B.obj ac3))
 have inpa:(acc,oa)∈bQ [acc] s3.heap:=bO (by simp) ea
 have stat':∀{H':Hp},(∀b∈fp,H' b=none)->∀b∈fp,a9 Y (pins++bQ [acc] s3.heap) H' b:=fun hn b hb=>by
  obtain ⟨f0,f1,f2,f3,f4,f5⟩:=stat hn b hb
  refine ⟨f0,f1,f2,f3,f4,fun p hp z=>?_⟩
  rw [←List.append_assoc] at hp
  rcases List.mem_append.mp hp with hp|hp
  ·exact f5 p hp z
  ·have e:p.1=acc:=by simpa using (gv hp).1
   exact hac (by rw [←e,z];exact hb)
 rcases turn i n ys3 H3 w3 with ⟨stop,qn⟩|⟨go,step⟩
 ·refine thn (T.done Y rfl rfl rfl hc i _ s3 σ H3 _ J3 (stat' fr3) st3 stop) fun r s4 ⟨hr,I4⟩=>?_
  subst hr
  refine wpAny_pure ?_
  have p4:=I4.pin (acc,oa) (List.mem_append_right _ (List.mem_append_right _ inpa))
  exact hR s4 ys3 H3 I4.cu an3 (B.kept ac3 fun o e=>by rw [ea] at e;cases e;exact p4.1) qn
 ·refine thn (T.item Y rfl rfl rfl hc i _ s3 σ H3 _ J3 (stat' fr3) st3 go) fun r s4 ⟨u,hr,h4⟩=>?_
  subst hr
  refine wpAny_bind (thn h4 fun _ s5 ⟨x,H5,I5,r5,y5,st5,fr5⟩=>?_)
  have I5':=I5.pinned (stat' fr5) (T.obj _ _ st5)
  refine wpAny_bind (nox (thn (h1 _ s5 σ H5 x u _ I5' r5 (step x H5 y5)) fun _ s6 ⟨σ6,H6,I6,fg,q6⟩=>?_))
  refine wpAny_bind (nox (thn (h2 _ s6 σ6 H6 _ I6 q6) fun ok s7 ⟨H7,I7,q7⟩=>?_))
  have p7:=I7.pin (acc,oa) (List.mem_append_right _ (List.mem_append_left _ (List.mem_append_right _ inpa)))
  have ac7:B.ac s7.heap acc ys3:=B.kept ac3 fun o e=>by rw [ea] at e;cases e;exact p7.1
  have I7':Inv Y (pins++bQ fp s5.heap) σ6 H7 s7:=I7.jq fun p hp=>I7.pin p (List.mem_append_right _ ((List.mem_append.mp hp).elim (fun z=>List.mem_append_left _ (List.mem_append_left _ z)) fun z=>List.mem_append_right _ z))
  have again':∀{s8:Shared} {H8:Hp} {ys8:α},Inv Y (pins++bQ fp s5.heap) σ6 H8 s8->H8 acc=none->B.ac s8.heap acc ys8->(∃m',m'<n∧W (i+1) m' ys8 H8)->
    ∃m,m<n∧∃i H' ys',Inv Y pins σ H' s8∧tn i s8.heap∧(∀b∈fp,H' b=none)∧H' acc=none∧B.ac s8.heap acc ys'∧W i m ys' H':=fun {s8 H8 ys8} I8 an8 ac8 ⟨m',hm,w8⟩=>by
   refine ⟨m',hm,i+1,H8,ys8,I8.cu.weak fg.1 fg.2,T.keep _ _ _ st5 fun b hb o e=>(I8.pin (b,o) (List.mem_append_right _ (List.mem_append_right _ (bO hb e)))).1,fun b hb=>?_,an8,ac8,w8⟩
   obtain ⟨o,e,_⟩:=T.obj _ _ st5 b hb
   exact (I8.pin (b,o) (List.mem_append_right _ (List.mem_append_right _ (bO hb e)))).2.1
  cases ok with
  |false=>
   rw [if_neg Bool.false_ne_true] at q7 ⊢
   exact wpAny_bind (wpAny_pure (wpAny_pure ⟨rfl,again' I7' p7.2.1 ac7 q7⟩))
  |true=>
   rw [if_pos rfl] at q7 ⊢
   have fa7:a9 Y (pins++bQ fp s5.heap) H7 acc:=by
    obtain ⟨_,f1,f2,f3,f4,f5⟩:=ha
    refine ⟨p7.2.1,f1,f2,f3,f4,fun p hp z=>?_⟩
    rw [←List.append_assoc] at hp
    rcases List.mem_append.mp hp with hp|hp
    ·exact f5 p hp z
    ·exact hac (by rw [←z];exact (gv hp).1)
   exact wpAny_bind (nox (thn (h3 _ s7 σ6 H7 ys3 _ I7' fa7 ac7 q7) fun _ s8 ⟨ys8,H8,I8,an8,ac8,q8⟩=>wpAny_pure ⟨rfl,again' I8 an8 ac8 q8⟩))
noncomputable def AZ (wi:TI) (g:TG) (tt:TT) (tb:TB):TB:=fun σ H ys Q=>wi σ H fun J H1=>iY g tt tb J σ H1 ys Q
theorem vI {elt:Expr} {gens:List Comprehension} {scope:Scope} {pos:Pos} {d:Nat} {tg iter:Expr} {ifs:List Expr} (hg:gens[d+1]?=some ⟨tg,iter,ifs,0⟩) {wi:TI} {g:TG} {tt:TT} {tb:TB} (hc:Y.calm=true) (hx:∀e s,Y.xe e s->False)
  (hi:PI Y tg iter wi) (h1:PG Y tg g) (h2:PTs Y ifs tt) (h3:PB Y acc (aV elt gens scope pos (d+1) (.ref acc) Y.env) tb) (hs:∀x,foldedSetIterable iter Y.env x=pure x:=by intro _;rfl):
  PB Y acc (aV elt gens scope pos d (.ref acc) Y.env) (AZ wi g tt tb):=by
 intro pins s σ H ys Q I hf ha h
 unfold aV
 rw [hg]
 obtain ⟨oa,ea,da⟩:=ha.obj
 have J1:Inv Y (pins++bQ [acc] s.heap) σ H s:=I.pinned (fp:=[acc]) (ju hf) (ju ha.obj)
 have inpa:(acc,oa)∈bQ [acc] s.heap:=bO (by simp) ea
 refine wpAny_bind (thn (hi _ s σ H _ J1 h) fun x s1 h1'=>wpAny_bind (wpAny_standAt ?_))
 show wpAny _ _ (foldedSetIterable iter Y.env x>>=_) _ _ s1
 refine wpAny_bind (wpAny_of_eq (hs x) ?_)
 show wpAny _ _ (holding [x] (pyIter x)>>=_) _ _ s1
 refine wpAny_bind (wpAny_holding (thn h1' fun itv s2 h2'=>?_))
 obtain ⟨it,fp,tn,J,H2,e,I2,T,st2,f2,lp⟩:=h2'
 subst e
 have p2:=I2.pin (acc,oa) (List.mem_append_right _ (List.mem_append_right _ inpa))
 have ac2:Acc s2.heap acc ys:=ha.at fun o e=>by rw [ea] at e;cases e;exact p2.1
 have hac:acc∉fp:=fun z=>(f2 acc z).2.2.2.2.2 (acc,oa) (List.mem_append_right _ (List.mem_append_right _ inpa)) rfl
 have f2':∀b∈fp,a9 Y pins H2 b:=fun b hb=>by
  obtain ⟨a0,a1,a2,a3,a4,a5⟩:=f2 b hb
  exact ⟨a0,a1,a2,a3,a4,fun p hp=>a5 p ((List.mem_append.mp hp).elim (fun z=>List.mem_append_left _ z) fun z=>List.mem_append_right _ (List.mem_append_left _ z))⟩
 have fa2:a9 Y pins H2 acc:=⟨p2.2.1,hf.2⟩
 refine wpAny_bind (wpAny_runOwn (eL hg ?_ ?_))
 ·exact gz kZ (dJ _ _ _ _ _ _ _ _ hg) hc hx h1 h2 h3 T hac I2.cu st2 f2' fa2 ac2 lp fun s' ys' H' I' an' ac' q'=>wpAny_pure ⟨ys',H',I',an',ac',q'⟩
 ·exact T.self _ 0 _ _ _ st2 (gz kZ (dJ _ _ _ _ _ _ _ _ hg) hc hx h1 h2 h3 T hac I2.cu st2 f2' fa2 ac2 lp fun s' ys' H' I' an' ac' q'=>wpAny_pure ⟨ys',H',I',an',ac',q'⟩)
end
section
variable {X:Cx} {scope:Scope} {own:List Str} {cap:List (Str×Nat)} {pins:List (Addr×Obj)} {σ:St} {H H':Hp} {s s':Shared} {fp:List Addr} {acc:Addr} {ys:List V}
theorem sV {σ':St} (I:Inv X pins σ H s) (hf:∀b∈fp,a9 X pins H b) (I':Inv (cX X scope own cap pins s H fp) [] σ' H' s') (hacc:s.heap.objs.size<=acc) (han:H' acc=none) {ob:HO} (hob:∀H0,aT X.prog X.w H0 s'.heap acc ob):
  Inv X pins σ (upd H' acc ob) s':=by
 have nacc:∀b o,s.heap.get? b=some o->b≠acc:=fun b o e=>Nat.ne_of_lt (Nat.lt_of_lt_of_le (Heap.lt_size e) hacc)
 have u:Un (frs X.stack) fp H H' s.heap s'.heap:=I'.base
 refine I.uA (ch:=fp) I'.os ⟨u.keep,u.slot,fun b o e n hx=>?_,u.there,fun b xs e=>?_,fun b o v e=>?_,fun b ps e=>?_⟩ (fun b o e=>?_) I'.bare fun b hb=>?_
 ·rw [ag (nacc b o e)];exact u.free b o e n hx
 ·have:=u.fi b xs e
  rw [ag (aj this han)];exact this
 ·have:=u.eM b o v e
  rw [ag (aj this han)];exact this
 ·obtain ⟨more,this⟩:=u.e_ b ps e
  exact ⟨more,by rw [ag (aj this han)];exact this⟩
 ·by_cases hb:b=acc
  ·subst hb
   rw [ao] at e;cases e
   exact hob _
  ·rw [ag hb] at e
   exact (I'.hok b o e).eO (fun _ _ _ q=>q) (fun c q=>by rw [ag (aj q han)];exact q) fun c xs q=>by rw [ag (aj q han)];exact q
 ·obtain ⟨f0,f1,f2,f3,f4,f5⟩:=hf b hb
  exact ⟨f3,f1,f4,f5⟩
theorem j4 {α:Type} {B:AK α} {node tg iter:Expr} {ifs:List Expr} {ins:Addr->Env->Sem Unit} {g:TG} {tt:TT} {tb:TBg α} {newAcc:Sem Value} {o:Obj} {z0:α} {fin:α->Prop} {ho:Addr->α->HO} (cs:CS X scope own cap)
  (hnew:∀{Q:Value->Shared->Prop} {E:Value->Shared->Prop} {s:Shared},Q (.ref s.heap.objs.size) {s with heap:=s.heap.push o}->wpAny (model X.prog X.w) X.A newAcc Q E s) (hof:o.isFreed=false) (hz0:∀h a,h.get? a=some o->B.ac h a z0)
  (hho:∀H0 h a ys,(a==sysModules)=false->B.ac h a ys->fin ys->aT X.prog X.w H0 h a (ho a ys)) (hdn:∀it acc env,lN X.prog X.w node 0 (.ref it) (.ref acc) env) (hti:∀it acc env,qu node 0 tg iter ifs (.ref it) (.ref acc) env (ins acc env))
  (hcs:∀{it acc:Value} {env:Env} {R:Result->Shared->Prop} {s:Shared},codeAny (model X.prog X.w) X.A (.compLoop node 0 it acc env) R s->wpAny (model X.prog X.w) X.A (pyIter it) (fun it' s'=>codeAny (model X.prog X.w) X.A (.compLoop node 0 it' acc env) R s') (notedBy (model X.prog X.w) X.A env fun x s'=>R (.error x) s') s->codeAny (model X.prog X.w) X.A (.compStart node 0 it acc env) R s)
  (hc:X.calm=true)
  (h1:∀pins s₂ H₂ fp,PG (cX X scope own cap pins s₂ H₂ fp) tg g) (h2:∀pins s₂ H₂ fp,PTs (cX X scope own cap pins s₂ H₂ fp) ifs tt)
  (h3:∀pins s₂ H₂ fp acc,PBg B (cX X scope own cap pins s₂ H₂ fp) acc (ins acc (cY X scope s₂.heap.objs.size)) tb)
  {J:It} {it:Addr} {tn:Nat->Heap->Prop} (T:Turn X.prog X.w X.K tg J fp it tn) (I:Inv X pins σ H s) (st:tn 0 s.heap) (hf:∀b∈fp,a9 X pins H b)
  {Q:VK} (h:iY g tt tb J (cS own cap σ) H z0 fun ys H2=>fin ys∧∀a,H2 a=none->Q (.ref a) (upd H2 a (ho a ys))) {RR:Value->Addr->Result->Shared->Prop} {E:Value->Shared->Prop}
  (hR:∀acc C s' H' m,s.heap.objs.size<=C->Inv X pins σ H' s'->H' C=none->s'.heap.Ns C m->Q (.ref acc) H'->RR (.ref acc) C (.ok .next) s'):
  wpAny (model X.prog X.w) X.A newAcc (fun acc s₃=>wpAny (model X.prog X.w) X.A (newFunctionEnv scope X.env.globals (cM X.env scope.names []) [] X.env.qual none .none (some X.env)) (fun cenv s₄=>
   codeAny (model X.prog X.w) X.A (.compStart node 0 (.ref it) acc {cenv with scope:=relabel scope X.env}) (RR acc cenv.locals) s₄) E s₃) E s:=by
 have hlt:∀b∈fp,b<s.heap.objs.size:=fun b hb=>by
  obtain ⟨o,e,_⟩:=T.obj _ _ st b hb
  exact Heap.lt_size e
 refine hnew (kK ?_)
 have e1:(s.heap.push o).objs.size=s.heap.objs.size+1:=Heap.size_push ..
 have I1:=tG I cs hf hlt (o:=o) hof
 have kp:∀b u,s.heap.get? b=some u->(pushCells ((s.heap.push o).push {cls:=.type "dict",data:=.dict #[]}) scope.names).get? b=some u:=
  fun b u e=>pushCells_keeps _ _ b u (Heap.get?_push_of_some _ (Heap.get?_push_of_some _ e))
 have st1:=T.keep _ _ _ st fun b _ o e=>kp b o e
 have ac1:B.ac (pushCells ((s.heap.push o).push {cls:=.type "dict",data:=.dict #[]}) scope.names) s.heap.objs.size z0:=
  hz0 _ _ (pushCells_keeps _ _ _ _ (Heap.get?_push_of_some _ (Heap.get?_push_size _ hof)))
 dsimp only
 rw [e1]
 have hac:s.heap.objs.size∉fp:=fun z=>Nat.lt_irrefl _ (hlt _ z)
 have fa:a9 (cX X scope own cap pins s H fp) [] H s.heap.objs.size:=by
  refine ⟨I.hok.fresh (Nat.le_refl _),Nat.ne_of_lt (Nat.lt_succ_self _),fun z=>?_,.inr (Nat.le_refl _),fun x c e z=>?_,fun p hp z=>?_⟩
  ·rcases List.mem_cons.mp (I.fy _ z) with z|z
   ·exact absurd I.lt (by rw [←z];exact Nat.lt_irrefl _)
   ·exact I.yY (Nat.le_refl _) z
  ·rcases cs.bo I.ok e with ⟨_,a,_⟩|⟨_,a⟩
   ·rw [z] at a;omega
   ·obtain ⟨v,q⟩:=I.cell x c a
    exact absurd q.lt (by rw [z];exact Nat.lt_irrefl _)
  ·have hp':p∈X.pn++pins:=by simpa [cX] using hp
   exact absurd (Heap.lt_size (I.pin p hp').1) (by rw [z];exact Nat.lt_irrefl _)
 have ff:∀b∈fp,a9 (cX X scope own cap pins s H fp) [] H b:=fun b hb=>by
  obtain ⟨f0,f1,f2,f3,f4,f5⟩:=hf b hb
  refine ⟨f0,Nat.ne_of_lt (Nat.lt_succ_of_lt (hlt b hb)),fun z=>?_,.inl hb,fun x c e=>?_,fun p hp=>?_⟩
  ·rcases List.mem_cons.mp (I.fy _ z) with z|z
   ·exact f1 z
   ·exact f2 z
  ·rcases cs.bo I.ok e with ⟨_,a,_⟩|⟨_,a⟩
   ·exact Nat.ne_of_gt (Nat.lt_of_lt_of_le (hlt b hb) (Nat.le_trans (Nat.le_add_right _ 2) a))
   ·exact f4 x c a
  ·have hp':p∈X.pn++pins:=by simpa [cX] using hp
   exact f5 p hp'
 have fin':∀s' ys' H',Inv (cX X scope own cap pins s H fp) [] (cS own cap σ) H' s'->H' s.heap.objs.size=none->B.ac s'.heap s.heap.objs.size ys'->(fin ys'∧∀a,H' a=none->Q (.ref a) (upd H' a (ho a ys')))->
   RR (.ref s.heap.objs.size) (s.heap.objs.size+1) (.ok .next) s':=fun s' ys' H' I' an' ac' q'=>by
  have I2:=sV I hf I' (Nat.le_refl _) an' fun H0=>hho H0 _ _ _ (beq_eq_false_iff_ne.mpr (Ne.symm (Nat.ne_of_lt I.big))) ac' q'.1
  obtain ⟨m,hn,_⟩:=I'.loc
  refine hR _ _ s' _ m (Nat.le_succ _) I2 ?_ hn (q'.2 _ an')
  rw [ag (Nat.ne_of_gt (Nat.lt_succ_self _))]
  exact I'.free
 have lp:∀s₄:Shared,s₄={s with heap:=pushCells ((s.heap.push o).push {cls:=.type "dict",data:=.dict #[]}) scope.names}->
   codeAny (model X.prog X.w) X.A (.compLoop node 0 (.ref it) (.ref s.heap.objs.size) (cY X scope s.heap.objs.size)) (RR (.ref s.heap.objs.size) (s.heap.objs.size+1)) s₄:=by
  rintro s₄ rfl
  exact gz (Y:=cX X scope own cap pins s H fp) (d:=0) (hdn _ _ _) (hti _ _ _) hc (fun _ _ z=>z) (h1 pins s H fp) (h2 pins s H fp) (h3 pins s H fp s.heap.objs.size) T hac I1 st1 ff fa ac1 h fin'
 exact hcs (lp _ rfl) (T.self _ 0 _ _ _ st1 (lp _ rfl))
theorem nL {P:Program} {w:World} (H0:Hp) (h:Heap) (a:Addr) (ys:List V) (_:(a==sysModules)=false) (ac:oQ.ac h a ys) (hz:ys.length<=sizeLine):aT P w H0 h a (.lst ys):=by
 obtain ⟨its,r,n,pl⟩:=ac
 exact ⟨hz,its,n,r,pl⟩
noncomputable def pF (own:List Str) (cap:List (Str×Nat)) (wi:TI) (g:TG) (tt:TT) (tb:TB):TE:=fun σ H Q=>wi σ H fun J H1=>iY g tt tb J (cS own cap σ) H1 [] fun ys H2=>ys.length<=sizeLine∧∀a,H2 a=none->Q (.ref a) (upd H2 a (.lst ys))
variable {elt tg iter:Expr} {ifs:List Expr} {rest:List Comprehension} {pos:Pos} {wi:TI} {g:TG} {tt:TT} {tb:TB}
theorem CS.names (cs:CS X scope own cap):∀x∈scope.names,x.2=.local->scope.names.lookup x.1=some .local:=fun x hx e=>cs.lk (by rw [←e];exact hx)
theorem Inv.ux {pins:List (Addr×Obj)} {σ σ':St} {H H':Hp} {s s':Shared} {C:Addr} {h':Heap} (I:Inv X pins σ H s) (I':Inv X pins σ' H' s') (hC:s.heap.objs.size<=C) (hn:H' C=none) (hs:Heap.SameBut C s'.heap h'):Inv X pins σ' H' {s' with heap:=h'}:=by
 obtain ⟨f0,f1,f2,f3,f4,f5⟩:=I.ft hC hn
 exact I'.turned (t':=s'.toks) (fun b o hb e=>(hs.2 b hb).trans e) f0 f1 f3 f4 f5
theorem vP (cs:CS X scope own cap) (hc:X.calm=true) (hi:PI X tg iter wi) (h1:∀pins s₂ H₂ fp,PG (cX X scope own cap pins s₂ H₂ fp) tg g) (h2:∀pins s₂ H₂ fp,PTs (cX X scope own cap pins s₂ H₂ fp) ifs tt)
  (h3:∀pins s₂ H₂ fp acc,PB (cX X scope own cap pins s₂ H₂ fp) acc (aV elt (⟨tg,iter,ifs,0⟩::rest) scope pos 0 (.ref acc) (cY X scope s₂.heap.objs.size)) tb)
  (hs:∀x,foldedSetIterable iter X.env x=pure x:=by intro _;rfl):PE X (.ListComp elt (⟨tg,iter,ifs,0⟩::rest) scope pos) (pF own cap wi g tt tb):=by
 intro pins s σ H Q I h
 rw [eval_ListComp]
 refine wpAny_comprehension_free (use:=none) rfl hs (gk (cs.oX I.ok)) cs.kind cs.names ?_
 refine thn (hi pins s σ H _ I h) fun x s1 h1'=>thn h1' fun itv s2 h2'=>?_
 obtain ⟨it,fp,tn,J,H2,e,I2,T,st2,f2,lp⟩:=h2'
 subst e
 refine j4 (B:=oQ) (fin:=fun ys=>ys.length<=sizeLine) (ho:=fun _ ys=>.lst ys) (RR:=fun acc C=>compPost (model X.prog X.w) X.A X.xe none (EP X pins σ Q) acc C) cs wpAny_newObj_type rfl (fun h a e=>⟨[],.nil,_,e⟩) nL (fun _ _ _=>kZ) (fun it acc env=>dJ _ _ _ _ _ _ _ _ rfl) (eL rfl) hc h1 h2 h3 T I2 st2 f2 lp ?_
 intro acc C s' H' m hC I' hn hns q
 exact ⟨m,hns,fun h' hs'=>⟨.ref acc,H',CT.Inv.ux I2 I' hC hn hs',rfl,q⟩⟩
theorem vd {i:Nat} {x:Str} {pos' spos:Pos} (cs:CS X scope own cap) (hc:X.calm=true) (hN:X.N.Nodup) (hix:X.N[i]?=some x) (hx:Loc X.env.scope x) (hi:PI X tg iter wi) (h1:∀pins s₂ H₂ fp,PG (cX X scope own cap pins s₂ H₂ fp) tg g)
  (h2:∀pins s₂ H₂ fp,PTs (cX X scope own cap pins s₂ H₂ fp) ifs tt)
  (h3:∀pins s₂ H₂ fp acc,PB (cX X scope own cap pins s₂ H₂ fp) acc (aV elt (⟨tg,iter,ifs,0⟩::rest) scope pos 0 (.ref acc) (cY X scope s₂.heap.objs.size)) tb)
  (hsw:swapsWith (.ListComp elt (⟨tg,iter,ifs,0⟩::rest) scope pos) (some (.Name x pos')) spos.line X.env=pure true)
  (hs:∀x,foldedSetIterable iter X.env x=pure x:=by intro _;rfl) (hf:X.fn x=true∨X.env.scope.names.lookup x=some .local:=by first|exact .inl rfl|exact .inr rfl|assumption):
  PS X (.Assign [.Name x pos'] (.ListComp elt (⟨tg,iter,ifs,0⟩::rest) scope pos) spos) (mT (pF own cap wi g tt tb) (fU i)):=by
 intro pins s σ H D I h
 rw [exec_Assign_Name_used _ _ _ _ hsw]
 refine wpAny_bind (wpAny_standAt (wpAny_bind ?_))
 show wpAny _ X.A (do let _←comprehension (.ListComp elt (⟨tg,iter,ifs,0⟩::rest) scope pos) scope X.env _ (newList []) false (eval iter X.env) (some (assign (.Name x pos') X.env))) _ _ s
 refine wpAny_bind (wpAny_mono (wpAny_comprehension_free (use:=some (assign (.Name x pos') X.env)) (Q:=fun _ s'=>SP X pins D .next s') rfl hs (gk (cs.oX I.ok)) cs.kind cs.names ?_) (fun _ s' hq=>wpAny_pure (wpAny_pure hq)) fun _ _ e=>e)
 refine thn (hi pins s σ H _ I h) fun xv s1 h1'=>thn h1' fun itv s2 h2'=>?_
 obtain ⟨it,fp,tn,J,H2,e,I2,T,st2,f2,lp⟩:=h2'
 subst e
 refine j4 (B:=oQ) (fin:=fun ys=>ys.length<=sizeLine) (ho:=fun _ ys=>.lst ys) (Q:=fun x H1=>fU i x σ H1 D.nx) (RR:=fun acc C=>compPost (model X.prog X.w) X.A X.xe (some (assign (.Name x pos') X.env)) (fun _ s'=>SP X pins D .next s') acc C) cs wpAny_newObj_type rfl (fun h a e=>⟨[],.nil,_,e⟩) nL (fun _ _ _=>kZ) (fun it acc env=>dJ _ _ _ _ _ _ _ _ rfl) (eL rfl) hc h1 h2 h3 T I2 st2 f2 lp ?_
 intro acc C s' H' m hC I' hn hns q
 show wpAny _ X.A (assign (.Name x pos') X.env (.ref acc)) _ _ _
 refine wpAny_assign_Name (jU I' hN hix hx (v:=.ref acc) rfl (fun s'' I'' ⟨a,sb,ha⟩=>?_) hf)
 have hne:C≠a:=by
  rcases ha with z|z
  ·rw [z];exact Nat.ne_of_gt (Nat.lt_of_lt_of_le I2.lt hC)
  ·obtain ⟨v,hv⟩:=I2.cell x a z
   exact Nat.ne_of_gt (Nat.lt_of_lt_of_le hv.lt hC)
 exact ⟨m,hns.sameBut sb hne,fun h' hs'=>⟨_,H',CT.Inv.ux I2 I'' hC hn hs',q⟩⟩
variable {s₂:Shared} {H₂:Hp}
end
end CT
namespace CT
open PySem PySem.Builtin
theorem hZ:fillsNumberSlot (.type "tuple") "mul"=pure false:=
 fillsNumberSlot_seq (id:="tuple.__mul__") (r:=some (.builtin "tuple.__rmul__")) F.slot_tuple_mul.lookup (by decide+kernel) F.slot_tuple_rmul.lookup (by decide+kernel)
theorem mB:seqRepeat? (.type "tuple")=pure (some (.builtin "tuple.__mul__")):=by
 unfold seqRepeat?
 rw [seqSlot_of (T:="tuple") (name:="__mul__") (id:="tuple.__mul__") F.slot_tuple_mul.lookup (by decide+kernel),seqSlot_of (T:="tuple") (name:="__rmul__") (id:="tuple.__rmul__") F.slot_tuple_rmul.lookup (by decide+kernel)]
 rfl
theorem jm (a:Int) (t:Tok) (l:Addr) (d:Option Addr) (its:Array Value) (n:Nat) (sl:Array (Option Value)):
  Meets (Builtin.«int.__rmul__» ⟨[.int a t,.ref l],[]⟩) (fun _ R s=>s.heap.get? l=some {cls:=.type "tuple",dict:=d,data:=.seq its n,slots:=sl}∧R (.ok (.ret Value.notImplemented)) s):=
 .of_wp fun prog w A R s h=>by obtain ⟨hp,g,d,tk,os⟩:=s;obtain ⟨hl,h⟩:=h;wp_walk;exact ⟨_,rfl,h⟩
theorem kN (l:Addr) (d:Option Addr) (v:Value) (n:Nat) (sl:Array (Option Value)) (k:Int) (u:Tok) (h0:0<=k) (h1:k<2^20):
  Meets (Builtin.«tuple.__mul__» ⟨[.ref l,.int k u],[]⟩) (fun _ R s=>s.heap.get? l=some {cls:=.type "tuple",dict:=d,data:=.seq #[v] n,slots:=sl}∧
   if k=1 then R (.ok (.ret (.ref l))) s else R (.ok (.ret (.ref s.heap.objs.size))) {s with heap:=s.heap.push {cls:=.type "tuple",data:=.seq (List.replicate k.toNat v).toArray}}):=
 .of_wp fun prog w A R s h=>by
  obtain ⟨hp,g,dd,tk,os⟩:=s;obtain ⟨hl,h⟩:=h
  wp_walk
  refine wpAny_ite_false (by simp;omega) ?_
  wp_walk
  by_cases k1:k=1
  ·subst k1
   rw [if_pos rfl] at h
   wp_walk
   exact ⟨_,rfl,h⟩
  ·rw [if_neg k1] at h
   by_cases k0:k=0
   ·subst k0
    wp_walk
    exact ⟨_,rfl,h⟩
   ·have e:List.foldl (fun x1 x2=>x1++x2) #[] (List.replicate k.toNat #[v])=(List.replicate k.toNat v).toArray:=by
     have f:∀(m:Nat) (acc:List Value),List.foldl (fun x1 x2=>x1++x2) acc.toArray (List.replicate m #[v])=(acc++List.replicate m v).toArray:=by
      intro m
      induction m with
      |zero=>intro acc;simp
      |succ m ih=>
       intro acc
       rw [List.replicate_succ,List.foldl_cons,show acc.toArray++#[v]=(acc++[v]).toArray by simp,ih,List.replicate_succ]
       simp
     have:=f k.toNat []
     rw [List.nil_append] at this
     exact this
    wp_walk
    refine wpAny_ite_false (by simp;omega) ?_
    refine wpAny_ite_false (by simp;omega) ?_
    refine wpAny_ite_false (by simp [Tuple.tupleTooMany,sizeLine];omega) ?_
    rw [e]
    wp_walk
    refine wpAny_ite_false (by simp [sizeLine];omega) ?_
    wp_walk
    exact ⟨_,rfl,h⟩
end CT
namespace CT
open PySem PySem.Spec PySem.W L2
open Builtin Builtin.ObjectAttr
noncomputable abbrev bmV:List Value:=[.type "ValueError",.type "Exception",.type "BaseException",.type "object"]
noncomputable def fK:List Value->Bool
 |[]=>false
 |v::r=>(v::r)==bmV||(match v with|.ref _=>fK r|_=>false)
theorem iS (self:Value):∀{l:List Value},fK l=true->refuseLoop self "__setattr__" l=pure ()
 |[],e=>nomatch e
 |v::r,e=>by
  unfold fK at e
  rcases Bool.or_eq_true_iff.mp e with q|q
  ·rw [beq_iff_eq.mp q];exact PySem.F.store_ValueError.passes self
  ·cases v with
   |ref c=>rw [refuseLoop_ref];exact iS self q
   |_=>cases q
theorem jT {x:Value} (hx:bmV.contains x=true):∀{l:List Value},fK l=true->l.contains x=true
 |[],e=>nomatch e
 |v::r,e=>by
  unfold fK at e
  rcases Bool.or_eq_true_iff.mp e with q|q
  ·rw [beq_iff_eq.mp q];exact hx
  ·cases v with
   |ref c=>rw [List.contains_cons,jT hx q,Bool.or_true]
   |_=>cases q
structure br (K:Frag) (C:Addr):Prop where
 hd:hasDictIn K C=true
 ov:(clsIn K C).any (fun cd=>fK cd.mro)=true
 ga:findIn K (.ref C) "__getattribute__"=some (some (.builtin "BaseException.__getattribute__"))
 gn:findIn K (.ref C) "__getattr__"=some none
 sa:findIn K (.ref C) "__setattr__"=some (some (.builtin "object.__setattr__"))
theorem br.mro {K:Frag} {C:Addr} (c:br K C) {x:Value} (hx:bmV.contains x=true):mroIn K C x=some true:=by
 obtain ⟨cd,hc,ho⟩:=any_some c.ov
 have h:=jT hx ho
 unfold mroIn
 rw [hc,Option.bind_some,if_neg (fun q=>by cases hl:cd.mro with|nil=>rw [hl] at h;cases h|cons _ _=>rw [hl] at q;cases q),h]
section
variable {prog:Program} {w:World} {A:Around} {E:Value->Shared->Prop} {s:Shared} {K:Frag} {x C:Addr} {ox:Obj} {od:Option Obj} {name:Str}
theorem xZ {tk:Tok} {f:Found} {Q:Fin->Shared->Prop} (X:K.In s.heap) (I:InstAt s.heap x ox C od) (hf:findObj K C od name=some f)
  (h:wpAny (model prog w) A (match f with|.value v=>ret v|.bind g a=>bindTo g a (.ref x) (.ref C)|.missing=>unsupported "x") Q E s) (hm:f≠.missing):
  wpAny (model prog w) A (Builtin.«object.__getattribute__» ⟨[.ref x,.str name tk],[]⟩) Q E s:=by
 have L0:=I.type (M:=model prog w)
 have L1:=looks_find (M:=model prog w) X I hf
 unfold Builtin.«object.__getattribute__»
 refine wpAny_bind (wpAny_pure (wpAny_bind (wpAny_pure (wpAny_bind (L0.here (wpAny_bind (L1.here ?_)))))))
 cases f with
 |missing=>exact absurd rfl hm
 |value v=>exact h
 |bind g a=>exact h
theorem xo {tk:Tok} {f:Found} {R:Result->Shared->Prop} (X:K.In s.heap) (I:InstAt s.heap x ox C od) (c:br K C) (hf:findObj K C od name=some f) (hm:f≠.missing)
  (h:wpAny (model prog w) A.in1 (match f with|.value v=>ret v|.bind g a=>bindTo g a (.ref x) (.ref C)|.missing=>unsupported "x")
   (fun fin s'=>match fin with|.done f=>R (.ok f) s'|.again c'=>c'.quiet=true∧codeAny (model prog w) A c' R s') (fun e s'=>R (.error e) s') s):
  codeAny (model prog w) A (.call (.builtin "BaseException.__getattribute__") ⟨[.ref x,.str name tk],[]⟩) R s:=by
 have S:=PySem.F.attr_ValueError.ga
 have L0:Looks (model prog w) s.heap (isInstance (.ref x) (.type "BaseException")) true:=I.type.andThen (looks_mroIn X (c.mro (by decide)))
 refine codeAny_call_builtin S.plain F.entry_bexc_ga (@check_slot (model prog w) _ _ s "BaseException.__getattribute__" "BaseException" "__getattribute__" (.ref x) [.str name tk] [] _ (by decide+kernel) (by decide+kernel) L0 (F.args_bexc_ga (.ref x) (.str name tk)) ?_)
 exact xZ X I hf h hm
theorem nQ {tk:Tok} {fill expr:Bool} {f:Found} {Q:Value->Shared->Prop} (X:K.In s.heap) (I:InstAt s.heap x ox C od) (c:br K C) (hf:findObj K C od name=some f) (hm:f≠.missing)
  (h:wpAny (model prog w) A.in1 (match f with|.value v=>ret v|.bind g a=>bindTo g a (.ref x) (.ref C)|.missing=>unsupported "x")
   (fun fin s'=>match fin with|.done (.ret v)=>wpAny (model prog w) A (handedOut v) Q E s'|_=>False) (fun e s'=>False) s):
  wpAny (model prog w) A (getAttrBy (.ref x) (.str name tk) fill expr) Q E s:=by
 have L0:=I.type (M:=model prog w)
 have L1:=looks_findIn (M:=model prog w) X c.ga
 have L2:=looks_findIn (M:=model prog w) X c.gn
 have S:=PySem.F.attr_ValueError.ga
 unfold getAttrBy
 refine wpAny_holding (wpAny_bind (L0.here (wpAny_bind (L1.here ?_))))
 show wpAny _ _ (getAttrByItsOwn _ _ _ _ _ _) _ _ _
 unfold getAttrByItsOwn
 refine wpAny_bind (L2.here ?_)
 refine wpAny_bind (wpAny_attempt (wpAny_holding ?_))
 have ec:callGetattribute (.ref x) (.str name tk) (.builtin "BaseException.__getattribute__") expr=boundAndCalled (.builtin "BaseException.__getattribute__") (.ref x) (.str name tk):=by cases expr<;>rfl
 rw [ec]
 unfold boundAndCalled
 rw [S.bind]
 refine wpAny_bind (wpAny_pure (wpAny_call (xo X I c hf hm (wpAny_mono h (fun fin s' z=>?_) fun e s' z=>z.elim))))
 rcases fin with (_|_|_|_)|_<;>first|exact z|exact z.elim
theorem ua {odd:Obj} {v:Value} {expr:Bool} {Q:Value->Shared->Prop} (X:K.In s.heap) (I:InstAt s.heap x ox C (some odd)) (c:br K C) (ha:findIn K (.ref C) name=some none) (hl:lookIn name odd=some (some v)) (hv:handedIn v=true)
  (h:Q v {s with toks:=s.toks+1}):wpAny (model prog w) A (getAttr (.ref x) name expr) Q E s:=by
 unfold getAttr
 refine wpAny_bind (wpAny_mkText (nQ (s:={s with toks:=s.toks+1}) (f:=.value v) X I c (findObj_own c.hd ha rfl hl) (fun z=>nomatch z) (wpAny_pure ?_)))
 show wpAny _ _ (handedOut v) _ _ _
 rw [handedOut_of hv];exact wpAny_pure h
theorem tM {Q:Option Value->Shared->Prop} (X:K.In s.heap) (I:InstAt s.heap x ox C od) (c:br K C) (hf:findObj K C od "__class__"=some (.bind (.builtin "getset_descriptor.__get__") (.builtin "object.__class__")))
  (h:Q (some (.ref C)) {s with toks:=s.toks+1}):wpAny (model prog w) A (getAttr? (.ref x) "__class__") Q E s:=by
 unfold getAttr? getAttrBy?
 refine wpAny_bind (wpAny_mkText (wpAny_bind (wpAny_attempt (nQ (s:={s with toks:=s.toks+1}) X I c hf (fun z=>nomatch z) ?_))))
 refine wpAny_bind (wpAny_holding (wpAny_call (class_get (s:={s with toks:=s.toks+1}) X I (c.mro (by decide)) ?_)))
 exact wpAny_pure (wpAny_pure (wpAny_pure h))
theorem l9 (c:br K C) (hf:findObj K C od "__class__"=some (.bind (.builtin "getset_descriptor.__get__") (.builtin "object.__class__"))):KitX K (.ref x) (.ref C) (fun h=>InstAt h x ox C od) where
 ty:=fun _ _ _ I=>I.type
 it:=fun M h X _=>by
  obtain ⟨cd,hc,_⟩:=any_some c.ov
  unfold clsIn at hc
  split at hc
  ·rename_i ho
   intro A' Q' E' s' k q
   unfold isType loadHead
   exact wpAny_bind (wpAny_loadPart (k _ _ (X _ _ ho)) (wpAny_pure q))
  ·cases hc
 ne:=fun h tp dd its n sl X htp=>by
  obtain ⟨cd,hc,_⟩:=any_some c.ov
  cases hb:(Value.ref C==Value.ref tp) with
  |false=>rfl
  |true=>
   have e:=Value.ref.inj (beq_iff_eq.mp hb)
   rw [←e] at htp
   unfold clsIn at hc
   split at hc
   ·rename_i ho
    have z:=htp.symm.trans (X _ _ ho)
    cases z
   ·cases hc
 ca:=fun X I k=>tM X I c hf k
theorem rQ {v:Value} {Q:Unit->Shared->Prop} (X:K.In s.heap) (I:InstAt s.heap x ox C od) (c:br K C) (ht:findIn K (.ref C) name=some none)
  (h:wpAny (model prog w) A.in1 (ownDictForStores (.ref x)) (fun r s'=>∃d,r=some d∧wpAny (model prog w) A.in1 (storeInDict d (.str name s.toks) name v)
   (fun fin s''=>match fin with|.done (.ret _)=>Q () s''|_=>False) (fun _ _=>False) s') (fun _ _=>False) {s with toks:=s.toks+1}):
  wpAny (model prog w) A (setAttr (.ref x) name v) Q E s:=by
 have SF:=PySem.F.store_ValueError
 obtain ⟨cd,hc,ho⟩:=any_some c.ov
 refine set_plain X I c.sa ?_
 have sub:Looks (model prog w) s.heap (isInstance (.ref x) (.type "object")) true:=I.type.andThen (looks_mroIn X (c.mro (by decide)))
 have hm:Looks (model prog w) s.heap (mroOf (.ref C)) cd.mro:=(looks_clsIn X hc).andThen .now
 refine codeAny_call_builtin SF.slot.plain SF.entry (@check_slot (model prog w) _ _ {s with toks:=s.toks+1} "object.__setattr__" "object" "__setattr__" (.ref x) [.str name s.toks,v] [] _ SF.kind SF.split sub (SF.args (.ref x) (.str name s.toks) v) ?_)
 rw [osa_eq,refuse_eq]
 refine wpAny_bind (wpAny_bind (Looks.here (s:={s with toks:=s.toks+1}) I.type (wpAny_bind (Looks.here (s:={s with toks:=s.toks+1}) hm ?_))))
 rw [iS _ ho]
 refine wpAny_pure (wpAny_bind (Looks.here (s:={s with toks:=s.toks+1}) I.type (wpAny_bind (Looks.here (s:={s with toks:=s.toks+1}) (looks_findIn X ht) (wpAny_bind (wpAny_pure ?_))))))
 show wpAny _ _ (storeInOwnDict _ _ _ _ _ _) _ _ _
 unfold storeInOwnDict
 refine wpAny_bind (wpAny_pure (wpAny_bind (wpAny_mono h (fun r s' ⟨d,e,z⟩=>?_) fun _ _ z=>z.elim)))
 subst e
 refine wpAny_mono z (fun fin s'' q=>?_) fun _ _ q=>q.elim
 rcases fin with (_|_|_|_)|_<;>first|exact q|exact q.elim
theorem tQ {d:Addr} {v:Value} {tk:Tok} {ns:List Str} {mA:Str->Option Value} {Q:Fin->Shared->Prop} (hn:s.heap.Ns1 d mA) (hw:Within mA ns) (hz:ns.length<1000)
  (h:∀h',h'.Ns1 d (fun y=>if y=name then some v else mA y)->Heap.SameBut d s.heap h'->Q (.done (.ret .none)) {s with heap:=h',toks:=s.toks+1}):
  wpAny (model prog w) A (storeInDict d (.str name tk) name v) Q E s:=by
 unfold storeInDict
 refine wpAny_bind (wpAny_pure (wpAny_bind (wpAny_nsSet1 hn fun h' n' sb=>?_)))
 obtain ⟨oo,es,ep,e1,e2,e3⟩:=n'.count (Within.cons name v hw)
 refine wpAny_bind (wpAny_lookBehind e1 (by rw [e2];exact pastItsLine_dict (Nat.le_trans e3 (by rw [List.length_cons,sizeLine_eq];omega))) (wpAny_pure (h h' n' sb)))
theorem sN {v:Value} {vs:Array Value} {Q:Unit->Shared->Prop} (X:K.In s.heap) (hx:s.heap.get? x=some ⟨.ref C,none,.fields vs,#[]⟩) (c:br K C) (ht:findIn K (.ref C) name=some none)
  (h:∀h1 h' tk,h1=(s.heap.push emptyDict).update x (fun o=>{o with dict:=some s.heap.objs.size})->h'.Ns1 s.heap.objs.size (fun y=>if y=name then some v else none)->Heap.SameBut s.heap.objs.size h1 h'->Q () {s with heap:=h',toks:=tk}):
  wpAny (model prog w) A (setAttr (.ref x) name v) Q E s:=by
 have I:InstAt s.heap x ⟨.ref C,none,.fields vs,#[]⟩ C none:=⟨hx,rfl,rfl,trivial⟩
 obtain ⟨cd,hc,hd⟩:=any_some c.hd
 have hlt:=Heap.lt_size hx
 refine rQ X I c ht ?_
 show wpAny _ _ (instanceDict x true) _ _ _
 unfold instanceDict
 refine wpAny_bind (wpAny_loadPart hx (wpAny_bind (Looks.here (s:={s with toks:=s.toks+1}) (looks_clsIn X hc) ?_)))
 rw [hd]
 dsimp only
 rw [if_neg (by simp [typeHasDict])]
 have hx1:(s.heap.push emptyDict).get? x=some ⟨.ref C,none,.fields vs,#[]⟩:=Heap.get?_push_of_some _ hx
 refine wpAny_bind (wpAny_alloc' (wpAny_bind (wpAny_update' hx1 (wpAny_pure ⟨_,rfl,?_⟩))))
 have hg:((s.heap.push emptyDict).update x fun o=>{o with dict:=some s.heap.objs.size}).get? s.heap.objs.size=some emptyDict:=(Heap.get?_update_ne _ _ _ _ (Nat.ne_of_gt hlt)).trans (Heap.get?_push_at rfl rfl)
 have hns:((s.heap.push emptyDict).update x fun o=>{o with dict:=some s.heap.objs.size}).Ns s.heap.objs.size (fun _=>none):=⟨_,#[],_,hg,rfl,fun e he=>absurd he (by simp),fun _=>rfl⟩
 exact tQ (s:={s with heap:=(s.heap.push emptyDict).update x fun o=>{o with dict:=some s.heap.objs.size},toks:=s.toks+1}) (ns:=[]) (Heap.Ns1.of_empty hns) Within.nil (by decide) fun h' n' sb=>h _ h' _ rfl n' sb
end
end CT
namespace CT
open PySem PySem.Spec PySem.W L2
noncomputable def fP (K:Frag) (C:Addr):Bool:=match K.lookup C with
 |some ⟨.type "type",_,.cls cd,sl⟩=>(match sl.toList with|[_,_,_,_,some (.builtin n),_]=>n=="ValueError.__new__"|_=>false)&&cd.mro.head?==some (.ref C)&&tailIn K bmV cd.mro.tail&&!cd.hasDel
 |_=>false
theorem rV {K:Frag} {C:Addr} (e:fP K C=true):∃nm q N bs bm hdct sn sub ab col dd k0 k1 k2 k3 k5,K.lookup C=some (excClassObj nm q C N bs bm hdct sn sub ab col dd k0 k1 k2 k3 k5 "ValueError.__new__")∧tailIn K bmV bm=true:=by
 unfold fP at e
 split at e
 ·rename_i dd cd sl ho
  simp only [Bool.and_eq_true,beq_iff_eq,Bool.not_eq_true'] at e
  obtain ⟨⟨⟨e1,e2⟩,e3⟩,e4⟩:=e
  split at e1
  ·rename_i k0 k1 k2 k3 n k5 hs
   obtain ⟨nm,bs,mro,ns,qn,hd,sn,sub,ab,col,del⟩:=cd
   dsimp only at e2 e3 e4
   cases mro with
   |nil=>cases e2
   |cons v bm=>
    obtain rfl:v=.ref C:=by simpa using e2
    have hsl:sl=#[k0,k1,k2,k3,some (.builtin n),k5]:=by
     obtain ⟨l⟩:=sl
     exact congrArg Array.mk hs
    subst hsl e4
    rw [show n="ValueError.__new__" from beq_iff_eq.mp e1] at ho
    exact ⟨nm,qn,ns,bs,bm,hd,sn,sub,ab,col,dd,k0,k1,k2,k3,k5,ho,e3⟩
  ·cases e1
 ·cases e
noncomputable abbrev cI (us:List Value):Obj:={cls:=.type "tuple",data:=.seq us.toArray}
noncomputable abbrev bT (C t:Addr):Obj:={cls:=.ref C,data:=.fields #[.ref t,.none,.none,.none,.bool false,.none]}
section
variable {prog:Program} {w:World} {A:Around} {K:Frag} {C f:Addr} {s:Shared} {R:Result->Shared->Prop} {us:List Value}
theorem m_ {Q:Fin->Shared->Prop} {E:Value->Shared->Prop} (X:K.In s.heap) (hm:fP K C=true) (hi:findIn K (.ref C) "__init__"=some (some (.ref f))) (hf:typeIn K (.ref f)=some (.type "function")) (hl:us.length<=sizeLine)
  (h:codeAny (model prog w) A (.call (.ref f) ⟨.ref (s.heap.objs.size+1)::us,[]⟩) (fun r s'=>match r with|.ok (.ret v)=>v=.none∧Q (.done (.ret (.ref (s.heap.objs.size+1)))) s'|.ok _=>False|.error e=>E e s')
   {s with heap:=(s.heap.push (cI us)).push (bT C s.heap.objs.size)}):
  wpAny (model prog w) A (Builtin.«type.__call__» ⟨.ref C::us,[]⟩) Q E s:=by
 obtain ⟨nm,q,N,bs,bm,hdct,sn,sub,ab,col,dd,k0,k1,k2,k3,k5,ho,ht⟩:=rV hm
 have FB:=PySem.F.excBase_ValueError
 obtain ⟨hh,g,d,t,os⟩:=s
 have hC:=X _ _ ho
 have T:=tail_of_in X ht
 repeat (first|with_reducible refine wpAny_loadPart_at hC ?_|with_reducible refine wpAny_madeBy_exc hC ?_|wp_step)
 refine codeAny_call_builtin_code (Code.quiet_builtin _ FB.quiet) (wpAny_check_new_subT FB T hC ?_)
 refine codeAny_exc_new_subT (hrest:=hl) FB T hC ?_
 have kk:∀b o,hh.get? b=some o->((hh.push (cI us)).push (bT C hh.objs.size)).get? b=some o:=fun b o e=>Heap.get?_push_of_some _ (Heap.get?_push_of_some _ e)
 have X1:K.In ((hh.push (cI us)).push (bT C hh.objs.size)):=X.keeps kk
 have hg:((hh.push (cI us)).push (bT C hh.objs.size)).get? (hh.objs.size+1)=some (bT C hh.objs.size):=by heap_get
 have J:InstAt ((hh.push (cI us)).push (bT C hh.objs.size)) (hh.objs.size+1) (bT C hh.objs.size) C none:=⟨hg,rfl,rfl,trivial⟩
 have L0:=J.type (M:=model prog w)
 have L1:Looks (model prog w) ((hh.push (cI us)).push (bT C hh.objs.size)) (isSubtype (.ref C) (.ref C)) true:=by
  refine looks_mroIn X1 ?_
  unfold mroIn clsIn
  rw [ho]
  simp
 have L2:=looks_findIn (M:=model prog w) X1 hi
 have L3:=bind_fn (M:=model prog w) X1 (.ref (hh.objs.size+1)) hf
 show wpAny _ _ _ _ _ _
 unfold isInstance callSpecial? specialOf
 repeat (first|with_reducible refine wpAny_call ?_|lk)
 refine codeAny_mono h fun r s' z=>?_
 rcases r with e|(v|_|_|_)<;>first|exact z|exact z.elim|skip
 obtain ⟨rfl,z⟩:=z
 exact wpAny_pure (wpAny_pure z)
theorem ze (X:K.In s.heap) (hm:fP K C=true) (hi:findIn K (.ref C) "__init__"=some (some (.ref f))) (hf:typeIn K (.ref f)=some (.type "function")) (hl:us.length<=sizeLine)
  (h:codeAny (model prog w) (A.under (.builtin "type.__call__" ⟨.ref C::us,[]⟩)) (.call (.ref f) ⟨.ref (s.heap.objs.size+1)::us,[]⟩) (InitBack (s.heap.objs.size+1) R)
   {s with heap:=(s.heap.push (cI us)).push (bT C s.heap.objs.size)}):
  codeAny (model prog w) A (.call (.ref C) ⟨us,[]⟩) R s:=by
 obtain ⟨nm,q,N,bs,bm,hdct,sn,sub,ab,col,dd,k0,k1,k2,k3,k5,ho,ht⟩:=rV hm
 have hC:=X _ _ ho
 have f1:=tc_lookup
 have f2:=tc_bind (.ref C)
 have hT:s.TypeIs (.ref C) "type":=⟨_,hC,rfl⟩
 refine codeAny_of_tree ?_
 show wpAny _ _ (callAny (.ref C) _) _ _ _
 obtain ⟨hh,g,d,t,os⟩:=s
 repeat (any_goals (first|assumption|with_reducible refine wpAny_loadPart_at hC ?_|wp_step))
 refine ⟨rfl,codeAny_call_builtin_at (Code.quiet_builtin _ (by decide+kernel)) entry_typeCall (wpAny_check_type_call_sub hC (m_ X hm hi hf hl (codeAny_mono h fun r s' z=>?_)))⟩
 rcases r with e|(v|_|_|_)<;>first|exact z|exact z.elim
end
end CT
namespace CT
open PySem PySem.Spec PySem.W L2
noncomputable def aD (fr:Bool) (x C:Addr) (dx:Option Addr):HO:=.ext fun h=>∃vs,h.get? x=some ⟨.ref C,dx,.fields vs,#[]⟩∧vs.size=6∧(fr=true->vs[1]?=some .none)
noncomputable def dB (d:Addr) (fs:List (Str×V)):HO:=.ext fun h=>∃mA,h.Ns1 d mA∧(∀f,cK (fs.lookup f) (mA f))∧Within mA (fs.map (·.1))
section
variable {P:Program} {w:World} {H:Hp} {h:Heap} {x C d:Addr} {dx:Option Addr} {fs:List (Str×V)} {fr:Bool}
theorem dW (o:aT P w H h x (aD fr x C dx)):∃vs,h.get? x=some ⟨.ref C,dx,.fields vs,#[]⟩∧vs.size=6∧(fr=true->vs[1]?=some .none):=o.1
theorem i6 {vs:Array Value} (e:h.get? x=some ⟨.ref C,dx,.fields vs,#[]⟩) (hz:vs.size=6) (hf:fr=true->vs[1]?=some .none):aT P w H h x (aD fr x C dx):=⟨⟨vs,e,hz,hf⟩,⟨_,e⟩,fun _ _ ⟨us,q,z⟩ k=>⟨us,k _ q,z⟩⟩
theorem Bx (o:aT P w H h d (dB d fs)):∃mA,h.Ns1 d mA∧(∀f,cK (fs.lookup f) (mA f))∧Within mA (fs.map (·.1)):=o.1
theorem uN {mA:Str->Option Value} (n:h.Ns1 d mA) (r:∀f,cK (fs.lookup f) (mA f)) (q:Within mA (fs.map (·.1))):aT P w H h d (dB d fs):=
 ⟨⟨mA,n,r,q⟩,let ⟨o,_,_,e,_⟩:=n;⟨o,e⟩,fun _ _ ⟨m,n',r',q'⟩ k=>⟨m,n'.at k,r',q'⟩⟩
end
section
variable {X:Cx} {pins:List (Addr×Obj)} {σ:St} {H:Hp} {s:Shared} {a C dx:Addr} {fs:List (Str×V)} {f:Str} {v:V} {A:Around} {E:Value->Shared->Prop} {fr:Bool}
theorem uD (I:Inv X pins σ H s) (e:H a=some (aD fr a C (some dx))) (n:H dx=some (dB dx fs)):∃vs mA odd,s.heap.get? a=some ⟨.ref C,some dx,.fields vs,#[]⟩∧s.heap.Ns1 dx mA∧(∀f,cK (fs.lookup f) (mA f))∧Within mA (fs.map (·.1))∧
  InstAt s.heap a ⟨.ref C,some dx,.fields vs,#[]⟩ C (some odd)∧∀name,lookIn name odd=some (mA name):=by
 obtain ⟨vs,h1,_⟩:=dW (I.hok a _ e)
 obtain ⟨mA,h2,r,q⟩:=Bx (I.hok dx _ n)
 obtain ⟨odd,h3,h4⟩:=jS h2
 exact ⟨vs,mA,odd,h1,h2,r,q,⟨h1,rfl,rfl,h3⟩,h4⟩
theorem BU {b:Bool} {Q:Value->Shared->Prop} (I:Inv X pins σ H s) (e:H a=some (aD fr a C (some dx))) (n:H dx=some (dB dx fs)) (c:br X.K C) (na:a7 X.K C f) (l:fs.lookup f=some v)
  (h:∀u s',Inv X pins σ H s'->RelV v u->Q u s'):wpAny (model X.prog X.w) A (getAttr (.ref a) f b) Q E s:=by
 obtain ⟨vs,mA,odd,h1,h2,r,q,J,hl⟩:=uD I e n
 obtain ⟨u,hu,ru⟩:=cK.some_of (v:=v) (o:=mA f) (by rw [←l];exact r f)
 exact ua I.kIn J c na (by rw [hl,hu]) (kB ru) (h u _ (I.tok _) ru)
theorem AG {y:V} {u:Value} {Q:Unit->Shared->Prop} (I:Inv X pins σ H s) (e:H a=some (aD fr a C none)) (c:br X.K C) (na:a7 X.K C f) (ry:RelV y u)
  (h:∀d s',H d=none->d≠a->Inv X pins σ (upd (upd (upd H d (dB d [])) a (aD fr a C (some d))) d (dB d [(f,y)])) s'->Q () s'):wpAny (model X.prog X.w) A (setAttr (.ref a) f u) Q E s:=by
 obtain ⟨vs,hx,hz,hfr⟩:=dW (I.hok a _ e)
 have hlt:=Heap.lt_size hx
 have hne:s.heap.objs.size≠a:=Nat.ne_of_gt hlt
 refine sN I.kIn hx c na fun h1 h' tk e1 n' sb=>h s.heap.objs.size _ (I.hok.fresh (Nat.le_refl _)) hne ?_
 have hg:(s.heap.push emptyDict).get? s.heap.objs.size=some emptyDict:=Heap.get?_push_at rfl rfl
 have hns:(s.heap.push emptyDict).Ns s.heap.objs.size (fun _=>none):=⟨_,#[],_,hg,rfl,fun e he=>absurd he (by simp),fun _=>rfl⟩
 have I1:=I.laid (a:=s.heap.objs.size) (o:=dB s.heap.objs.size []) (h':=s.heap.push emptyDict) (t':=s.toks) (fun b u q=>Heap.get?_push_of_some _ q) (Nat.le_refl _) (uN (Heap.Ns1.of_empty hns) (fun _=>True.intro) fun y hy=>absurd rfl hy)
 have hx1:(s.heap.push emptyDict).get? a=some ⟨.ref C,none,.fields vs,#[]⟩:=Heap.get?_push_of_some _ hx
 have hx2:h1.get? a=some ⟨.ref C,some s.heap.objs.size,.fields vs,#[]⟩:=by rw [e1];exact Heap.get?_update_self _ hx1 rfl
 have I2:=I1.write (x:=a) (e:=a) (o:=aD fr a C (some s.heap.objs.size)) (h':=h1) (t':=s.toks) (by rw [ag hne.symm,e];exact True.intro) (.inl rfl) (fun b q hb z=>by rw [e1];exact (Heap.get?_update_ne _ _ _ _ hb).trans z) ⟨_,hx2⟩ (i6 hx2 hz hfr)
 refine I2.write (x:=s.heap.objs.size) (e:=s.heap.objs.size) (o:=dB s.heap.objs.size [(f,y)]) (t':=tk) (by rw [ag hne,ao];exact True.intro) (.inl rfl) (fun b q hb z=>(sb.2 b hb).trans z) (let ⟨o,_,_,q,_⟩:=n';⟨o,q⟩) (uN n' (fun g=>?_) fun g hg=>?_)
 ·show cK (List.lookup g [(f,y)]) (if g=f then some u else none)
  by_cases q:g=f
  ·subst q;simp [List.lookup];exact ry
  ·rw [if_neg q,List.lookup_cons,show (g==f)=false from beq_eq_false_iff_ne.mpr q];exact True.intro
 ·by_cases q:g=f
  ·subst q;exact List.mem_singleton.mpr rfl
  ·exact absurd (if_neg q) hg
end
section
variable {X:Cx} {o value e:Expr} {ta tv:TE} {f:Str} {pos pos' p:Pos}
noncomputable def Bh (K:Frag) (ta:TE) (f:Str):TE:=fun σ H Q=>ta σ H fun x H1=>∃fr a C dx fs v,x=.ref a∧H1 a=some (aD fr a C (some dx))∧H1 dx=some (dB dx fs)∧br K C∧a7 K C f∧fs.lookup f=some v∧Q v H1
theorem vT (he:PE X e ta) (hb:attributeBase e f X.env (eval e X.env)=eval e X.env):PE X (.Attribute e f pos) (Bh X.K ta f):=by
 intro pins s σ H Q I h
 refine nR hb (thn (he pins s σ H _ I h) fun u s1 ⟨x,H1,I1,rx,fr,a,C,dx,fs,v,ex,ea,en,c,n,l,q⟩=>?_)
 subst ex
 obtain rfl:u=Value.ref a:=rx
 exact BU I1 ea en c n l fun u' s2 I2 ru=>⟨v,H1,I2,ru,q⟩
noncomputable def sX0 (K:Frag) (ta tv:TE) (f:Str):TS:=fun D σ H=>tv σ H fun y H1=>ta σ H1 fun x H2=>∃fr a C,x=.ref a∧H2 a=some (aD fr a C none)∧br K C∧a7 K C f∧
 ∀d,H2 d=none->d≠a->D.nx σ (upd (upd (upd H2 d (dB d [])) a (aD fr a C (some d))) d (dB d [(f,y)]))
theorem A4 (ha:PE X o ta) (hv:PE X value tv) (hs:swapsWith value (some (.Attribute o f pos')) pos.line X.env=pure false):PS X (.Assign [.Attribute o f pos'] value pos) (sX0 X.K ta tv f):=by
 intro pins s σ H D I h
 refine plainObj_wpAny_Assign_Attribute (thn (hv pins s σ H _ I h) fun u s1 ⟨y,H1,I1,ry,q⟩=>thn (ha pins s1 σ H1 _ I1 q) fun ov s2 ⟨x,H2,I2,rx,fr,a,C,ex,ea,c,n,q2⟩=>?_) hs
 subst ex
 obtain rfl:ov=Value.ref a:=rx
 exact AG I2 ea c n ry fun d s3 hd hne I3=>⟨σ,_,I3,q2 d hd hne⟩
end
end CT
namespace CT
open PySem PySem.Spec PySem.W L2
section
variable {X:Cx} {pins:List (Addr×Obj)} {σ:St} {H:Hp} {s:Shared} {h':Heap}
theorem HOk.yJ {P:Program} {w:World} {h:Heap} {a:Addr} (x:HOk P w H h) (e:h.get? a=none):H a=none:=by
 cases q:H a with
 |none=>rfl
 |some o=>
  have hx:=x a o q
  have:∃u,h.get? a=some u:=by
   cases o with
   |lst xs=>obtain ⟨_,_,_,_,z⟩:=hx;exact ⟨_,z⟩
   |tup xs=>obtain ⟨_,_,_,o,z,_⟩:=hx;exact ⟨_,z⟩
   |dK kvs=>obtain ⟨_,_,_,_,o,_,_,z,_⟩:=hx;exact ⟨_,z⟩
   |dT kvs=>obtain ⟨_,_,_,_,o,_,_,z,_⟩:=hx;exact ⟨_,z⟩
   |set S n=>obtain ⟨o,_,_,_,z,_⟩:=hx;exact ⟨_,z⟩
   |ins C dx fs=>obtain ⟨_,_,_,z,_⟩:=hx;exact ⟨_,z⟩
   |own y=>exact hx
   |xd fs=>obtain ⟨_,⟨_,_,_,z,_⟩,_⟩:=hx;exact ⟨_,z⟩
   |rng lo hi=>obtain ⟨_,_,_,z⟩:=hx;exact ⟨_,z⟩
   |frz ob u=>obtain ⟨z,_⟩:=hx;exact ⟨_,z⟩
   |tbl ps=>exact ⟨_,hx⟩
   |met f y=>exact ⟨_,hx⟩
   |ext φ=>exact hx.2.1
  obtain ⟨u,z⟩:=this
  rw [e] at z;cases z
theorem Inv.Bt {a:Addr} {o:HO} {t':Nat} (I:Inv X pins σ H s) (k:∀b u,s.heap.get? b=some u->h'.get? b=some u) (hp:s.heap.get? a=none) (new:aT X.prog X.w (upd H a o) h' a o):
  Inv X pins σ (upd H a o) {s with heap:=h',toks:=t'}:=by
 have hn:=HOk.yJ I.hok hp
 refine I.un (Un.mk (fun b u q _ _ _=>k b u q) (fun b u q _ _ _=>⟨u.slots,k b u q⟩) (fun b u q n _=>?_) (fun b u q _=>⟨u,k b u q⟩) (fun b xs q=>?_) (fun b u xs q=>?_) fun b ps q=>⟨#[],?_⟩) fun b u q=>?_
 ·rw [ag (fun z=>by rw [z,hp] at q;cases q)];exact n
 ·rw [ag (aj q hn)];exact q
 ·rw [ag (aj q hn)];exact q
 ·rw [ag (aj q hn),q];simp
 ·by_cases hb:b=a
  ·subst hb;rw [ao] at q;cases q;exact new
  ·rw [ag hb] at q
   exact (I.hok b u q).eO (fun c v _ z=>k c v z) (fun c z=>by rw [ag (aj z hn)];exact z) fun c xs z=>by rw [ag (aj z hn)];exact z
end
section
variable {X:Cx} {pins:List (Addr×Obj)} {σ:St} {H:Hp} {s:Shared} {C f:Addr} {k:Nat} {CX:CXT} {fd:FuncData} {ps:List Str} {sp:Sp} {E:XK} {x:Str} {p pos:Pos} {e:Expr} {es:List Expr} {t:TA}
theorem Ae {us:List Value} {Q:VK} (I:Inv X pins σ H s) (hm:excIn X.K C bmV "ValueError.__new__"=true) (hl:us.length<=sizeLine) (h:∀a,H a=none->Q (.ref a) (upd H a (aD true a C none))):
  wpAny (model X.prog X.w) X.A (call (.ref C) us) (EP X pins σ Q) X.xe s:=by
 have K:=I.kIn
 unfold excIn at hm
 split at hm
 ·rename_i dd cd sl ho
  split at hm
  ·rename_i C' bm k0 k1 k2 k3 n k5 e1 e2
   simp only [Bool.and_eq_true,beq_iff_eq,Bool.not_eq_true'] at hm
   obtain ⟨⟨⟨⟨⟨rfl,rfl⟩,hdel⟩,ht⟩,hok⟩,hni⟩:=hm
   obtain ⟨nm,bs,mro,ns,qn,hd,sn,sub,ab,col,del⟩:=cd
   dsimp only at e1 hdel hok hni
   subst e1 hdel
   have hsl:sl=#[k0,k1,k2,k3,some (.builtin "ValueError.__new__"),k5]:=by
    obtain ⟨l⟩:=sl
    exact congrArg Array.mk e2
   subst hsl
   obtain ⟨hh,g,d,tk,os⟩:=s
   refine wpAny_call_exc_subT PySem.F.excBase_ValueError (tail_of_in K ht) (K _ _ ho) (.of_isNs (isNs_of_in K hok)) (nsMap_none_of_in K hok hni) (fun h' a made=>?_) hl
   obtain ⟨tt,h1,_,_⟩:=made.there
   exact ⟨.ref a,_,CT.Inv.Bt (t':=tk) I made.keeps made.new (i6 h1 rfl fun _=>rfl),rfl,h a (HOk.yJ I.hok made.new)⟩
  ·cases hm
 ·cases hm
noncomputable def tX0 (C:Addr):TE:=fun _ H Q=>∀a,H a=none->Q (.ref a) (upd H a (aD true a C none))
theorem uM (hm:excIn X.K C bmV "ValueError.__new__"=true) (hk:keepIn X.K (.ref C)=true) (hg:Gl X x) (hx:X.mg x=some (.ref C)) (hdb:(x==("__debug__":Str))=false:=by decide):PE X (.Call (.Name x p) [] [] pos) (tX0 C):=by
 intro pins s σ H Q I h
 refine wpAny_Call_Name_kw (c4 I hg hx ?_ hdb)
 exact callWith_K0 I.kIn hk (Ae (us:=[]) I hm (Nat.zero_le _) h)
structure XMk (K:Frag) (C f:Addr):Prop where
 makes:fP K C=true
 init:findIn K (.ref C) "__init__"=some (some (.ref f))
 fn:isFn K (.ref f)=true
 kp:keepIn K (.ref C)=true
theorem Bw {Q:VK} {us:List Value} {vs:List V} (M:XMk X.K C f) (F:aw X.prog X.w X.K X.mg X.base CX k f fd ps sp) (hr:ay (k+1) X.A) (hb:Binds X.K fd ps []) (hx:Passes CX X E) (I:Inv X pins σ H s) (r:Vals vs us) (hl:us.length<=sizeLine)
  (h:∀a,H a=none->sp (.ref a::vs) (upd H a (aD true a C none)) (fun v H2=>v=.non∧Q (.ref a) H2) E):wpAny (model X.prog X.w) X.A (call (.ref C) us) (EP X pins σ Q) X.xe s:=by
 have hq:=h (s.heap.objs.size+1) (I.hok.fresh (Nat.le_succ _))
 have hg:((s.heap.push (cI us)).push (bT C s.heap.objs.size)).get? (s.heap.objs.size+1)=some (bT C s.heap.objs.size):=by heap_get
 have I2:Inv X pins σ (upd H (s.heap.objs.size+1) (aD true (s.heap.objs.size+1) C none)) {s with heap:=(s.heap.push (cI us)).push (bT C s.heap.objs.size)}:=
  I.laid (t':=s.toks) (fun b u q=>Heap.get?_push_of_some _ (Heap.get?_push_of_some _ q)) (Nat.le_succ _) (i6 hg rfl fun _=>rfl)
 have r2:Vals (V.ref (s.heap.objs.size+1)::vs) (Value.ref (s.heap.objs.size+1)::us):=.cons rfl r
 have hn:(Value.ref (s.heap.objs.size+1)::us).length=ps.length:=by rw [←r2.length];exact F.len _ _ _ _ hq
 refine wpAny_call (ze I.kIn M.makes M.init (beq_iff_eq.mp M.fn) hl (codeAny_mono (F.run _ X.stack _ _ ⟨Value.ref (s.heap.objs.size+1)::us,[]⟩ (Value.ref (s.heap.objs.size+1)::us) _ _ E (hr.make C us [])
  (I2.ll.make C us []) (by have:=hb _ (Value.ref (s.heap.objs.size+1)::us) I2.kIn (by rw [List.append_nil];exact hn);rw [List.append_nil] at this;exact this) r2 hq) fun r s' hq'=>?_))
 cases r with
 |error e=>exact hx pins σ _ _ e s' I2 hq'
 |ok fl=>
  cases fl with
  |ret u=>
   obtain ⟨v,H',I3,rv,ev,q3⟩:=I2.after hq'
   subst ev
   exact ⟨rv,V.ref (s.heap.objs.size+1),H',I3,rfl,q3⟩
  |next=>exact False.elim hq'
  |brk=>exact False.elim hq'
  |cont=>exact False.elim hq'
noncomputable def BQ (C:Addr) (sp:Sp) (E:XK) (t:TA):TE:=fun σ H Q=>t σ H fun vs H1=>vs.length<=1000∧∀a,H1 a=none->sp (.ref a::vs) (upd H1 a (aD true a C none)) (fun v H2=>v=.non∧Q (.ref a) H2) E
theorem rH (M:XMk X.K C f) (F:aw X.prog X.w X.K X.mg X.base CX k f fd ps sp) (hr:ay (k+1) X.A) (hg:Gl X x) (hm:X.mg x=some (.ref C)) (hb:Binds X.K fd ps []) (hx:Passes CX X E) (ha:PA X (e::es) t)
  (hdb:(x==("__debug__":Str))=false:=by decide) (he:starEach (e::es) X.env=(false,eval e X.env)::starEach es X.env:=by rfl) (hpl:(backTo pos (starEach es X.env)).any (·.1)=false:=by rfl):
  PE X (.Call (.Name x p) (e::es) [] pos) (BQ C sp E t):=by
 intro pins s σ H Q I h
 refine wpAny_Call_Name_kw (c4 I hg hm ?_ hdb)
 refine callWith_K (h₀:=X.base) I.ok.mod.kin M.kp (thn (ha pos pins s σ H _ I h) fun us s1 ⟨vs,H1,I1,r,hl,q⟩=>⟨I1.kIn,?_⟩) he hpl
 exact Bw M F hr hb hx I1 r (by show us.length<=_;rw [←r.length,sizeLine_eq];omega) q
end
noncomputable def spX (C:Addr) (fls:List Str):Sp:=fun vs H Q _=>∃a us,vs=.ref a::us∧us.length=fls.length∧H a=some (aD true a C none)∧
 ∀d H',H d=none->d≠a->H' a=some (aD true a C (some d))->H' d=some (dB d (fls.zip us))->(∀b,b≠a->b≠d->H' b=H b)->Q .non H'
section
variable {P:Program} {w:World} {K:Frag} {mg:Str->Option Value} {base:Heap} {qual:Str} {st:Stmt} {f C:Addr} {fd:FuncData} {fl gl y z:Str} {p1 p2 p3 p4 q1 q2 q3 q4:Pos}
theorem Ba (F:Fun K "__init__" qual st f fd) (S:bA ["self",y] ["self",y] (ah st)) (hb:aR st=[.Assign [.Attribute (.Name "self" p1) fl p2] (.Name y p3) p4]) (c:br K C) (na:a7 K C fl)
  (hd:(y==("__debug__":Str))=false:=by decide) (hcd:(y==("__classdict__":Str))=false:=by decide):aw P w K mg base CX0 1 f fd ["self",y] (spX C [fl]):=by
 refine F.ok (k:=0) S ?_ ?_
 ·rintro vs H Q E ⟨a,us,rfl,hl,_⟩
  rw [List.length_cons,hl];rfl
 ·rintro cdv A outer s H vs Q E hr ⟨a,us,rfl,hl,ha,kk⟩
  obtain ⟨u,rfl⟩:∃u,us=[u]:=by
   cases us with
   |nil=>cases hl
   |cons u r=>cases r with
    |nil=>exact ⟨u,rfl⟩
    |cons _ _=>cases hl
  rw [hb]
  have v0:=(dM (X:=(bJ CX0 P w K mg base ["self",y] qual (ah st) f cdv A outer s H E).nox) (i:=0) (x:="self") (pos:=p1) rfl ((S.par "self" (by simp)).imp_right .inl))
  have v1:=(dM (X:=(bJ CX0 P w K mg base ["self",y] qual (ah st) f cdv A outer s H E).nox) (i:=1) (x:=y) (pos:=p3) rfl ((S.par y (by simp)).imp_right .inl) hd hcd)
  refine ⟨_,vv (A4 v0 v1 (by rfl)),?_⟩
  refine ⟨u,rfl,.ref a,rfl,true,a,C,rfl,ha,c,na,fun d hd hne=>kk d _ hd hne ?_ ao fun b h1 h2=>?_⟩
  ·rw [ag hne.symm,ao]
  ·rw [ag h2,ag h1,ag h2]
end
end CT
namespace CT
open PySem
inductive PK where
 |i (n:Int)
 |t (l:List PK)
mutual
noncomputable def PK.py:PK->PyData
 |.i n=>.int n
 |.t l=>.tuple (PK.pyL l)
noncomputable def PK.pyL:List PK->List PyData
 |[]=>[]
 |k::ks=>PK.py k::PK.pyL ks
end
mutual
noncomputable def PK.hs:PK->Int
 |.i n=>hashInt n
 |.t l=>reduceHash (Builtin.Tuple.tupleHashOf (PK.hsL l))
noncomputable def PK.hsL:List PK->List Int
 |[]=>[]
 |k::ks=>PK.hs k::PK.hsL ks
end
mutual
noncomputable def PK.dr:PK->Nat
 |.i _=>1
 |.t l=>PK.drL l+1
noncomputable def PK.drL:List PK->Nat
 |[]=>0
 |k::ks=>PK.dr k+PK.drL ks
end
mutual
noncomputable def PK.dp:PK->Nat
 |.i _=>0
 |.t l=>PK.dpL l+1
noncomputable def PK.dpL:List PK->Nat
 |[]=>0
 |k::ks=>max (PK.dp k) (PK.dpL ks)
end
mutual
noncomputable def cg (h:Heap):PK->Value->Prop
 |.i n,v=>∃tk,v=.int n tk
 |.t l,v=>∃a o its n,v=.ref a∧h.get? a=some o∧o.cls=.type "tuple"∧o.data=.seq its n∧bj h l its.toList
noncomputable def bj (h:Heap):List PK->List Value->Prop
 |[],vs=>vs=[]
 |k::ks,vs=>∃v us,vs=v::us∧cg h k v∧bj h ks us
end
mutual
theorem cg.inj {h:Heap}:∀{x y:PK} {v:Value},cg h x v->cg h y v->x=y
 |.i n,.i m,v,⟨tk,e1⟩,⟨tk',e2⟩=>by rw [e1] at e2;cases e2;rfl
 |.i n,.t l,v,⟨tk,e1⟩,⟨a,_,_,_,e2,_⟩=>by rw [e1] at e2;cases e2
 |.t l,.i n,v,⟨a,_,_,_,e2,_⟩,⟨tk,e1⟩=>by rw [e1] at e2;cases e2
 |.t l,.t l',v,⟨a,o,its,n,e1,g1,_,d1,r1⟩,⟨a',o',its',n',e2,g2,_,d2,r2⟩=>by
  rw [e1] at e2;cases e2
  rw [g1] at g2;cases g2
  rw [d1] at d2;cases d2
  rw [bj.inj r1 r2]
theorem bj.inj {h:Heap}:∀{x y:List PK} {vs:List Value},bj h x vs->bj h y vs->x=y
 |[],[],_,_,_=>rfl
 |[],_::_,_,e,⟨_,_,e',_⟩=>by rw [show _=_ from e] at e';cases e'
 |_::_,[],_,⟨_,_,e',_⟩,e=>by rw [show _=_ from e] at e';cases e'
 |k::ks,k'::ks',vs,⟨v,us,e,a,b⟩,⟨v',us',e',a',b'⟩=>by
  rw [e] at e';cases e'
  rw [cg.inj a a',bj.inj b b']
end
mutual
theorem cg.keep {h h':Heap} (hk:∀b o its n,h.get? b=some o->o.data=.seq its n->h'.get? b=some o):∀{x:PK} {v:Value},cg h x v->cg h' x v
 |.i _,_,e=>e
 |.t _,_,⟨a,o,its,n,e1,g,c,d,r⟩=>⟨a,o,its,n,e1,hk _ _ _ _ g d,c,d,bj.keep hk r⟩
theorem bj.keep {h h':Heap} (hk:∀b o its n,h.get? b=some o->o.data=.seq its n->h'.get? b=some o):∀{x:List PK} {vs:List Value},bj h x vs->bj h' x vs
 |[],_,e=>e
 |_::_,_,⟨v,us,e,a,b⟩=>⟨v,us,e,cg.keep hk a,bj.keep hk b⟩
end
mutual
theorem cg.reads {h:Heap}:∀{x:PK} {v:Value},cg h x v->∃as,Reads h v x.py as
 |.i n,_,⟨tk,e⟩=>by subst e;exact ⟨_,.int n tk⟩
 |.t l,_,⟨a,o,its,n,e1,g,c,d,r⟩=>by
  subst e1
  obtain ⟨as,ra⟩:=bj.reads r
  exact ⟨_,.tuple g c d ra⟩
theorem bj.reads {h:Heap}:∀{x:List PK} {vs:List Value},bj h x vs->∃as,ReadsAll h vs (PK.pyL x) as
 |[],_,e=>by cases (show _=_ from e);exact ⟨_,.nil⟩
 |_::_,_,⟨v,us,e,a,b⟩=>by
  subst e
  obtain ⟨as,ra⟩:=cg.reads a
  obtain ⟨bs,rb⟩:=bj.reads b
  exact ⟨_,.cons ra rb⟩
end
mutual
theorem PK.lay:∀k:PK,k.py.canLay0=true
 |.i _=>rfl
 |.t l=>PK.yd l
theorem PK.yd:∀l:List PK,PyData.canLayAll0 (PK.pyL l)=true
 |[]=>rfl
 |k::ks=>by
  show (PyData.canLay0 (PK.py k)&&PyData.canLayAll0 (PK.pyL ks))=true
  rw [PK.lay k,PK.yd ks];rfl
end
mutual
theorem PK.dep:∀k:PK,k.py.depth=k.dp
 |.i _=>rfl
 |.t l=>by
  show PyData.depthAll (PK.pyL l)+1=PK.dpL l+1
  rw [PK.y_ l]
theorem PK.y_:∀l:List PK,PyData.depthAll (PK.pyL l)=PK.dpL l
 |[]=>rfl
 |k::ks=>by
  show max (PyData.depth (PK.py k)) (PyData.depthAll (PK.pyL ks))=max (PK.dp k) (PK.dpL ks)
  rw [PK.dep k,PK.y_ ks]
end
noncomputable instance:DecidableEq PK:=fun a b=>Classical.propDecidable (a=b)
mutual
theorem PK.eqv:∀a b:PK,PyData.eqv a.py b.py=decide (a=b)
 |.i n,.i m=>by
  show decide (n=m)=_
  by_cases h:n=m<;>simp [h]
 |.i n,.t l=>by rw [decide_eq_false (by intro e;cases e)];rfl
 |.t l,.i n=>by rw [decide_eq_false (by intro e;cases e)];rfl
 |.t l,.t l'=>by
  show PyData.eqvAll (PK.pyL l) (PK.pyL l')=_
  rw [PK.Ap l l']
  by_cases h:l=l'<;>simp [h]
theorem PK.Ap:∀a b:List PK,PyData.eqvAll (PK.pyL a) (PK.pyL b)=decide (a=b)
 |[],[]=>by rw [decide_eq_true rfl];rfl
 |[],_::_=>by rw [decide_eq_false (by intro e;cases e)];rfl
 |_::_,[]=>by rw [decide_eq_false (by intro e;cases e)];rfl
 |k::ks,k'::ks'=>by
  show (PyData.eqv (PK.py k) (PK.py k')&&PyData.eqvAll (PK.pyL ks) (PK.pyL ks'))=_
  rw [PK.eqv k k',PK.Ap ks ks']
  by_cases h:k=k'<;>by_cases h2:ks=ks'<;>simp [h,h2]
end
section
variable {prog:Program} {w:World} {E:Value->Shared->Prop}
theorem Bg {A:Around} {s:Shared} {x y:PK} {u v:Value} {Q:Bool->Shared->Prop} (hu:A.units+min x.dp y.dp<cLine) (hx:cg s.heap x u) (hy:cg s.heap y v) (h:Q (decide (x=y)) s):wpAny (model prog w) A (eqBool u v) Q E s:=by
 obtain ⟨as,ra⟩:=hx.reads
 obtain ⟨bs,rb⟩:=hy.reads
 refine SeqAt.eqAt_reads _ _ A s u v as bs ra rb x.lay y.lay (by rw [PK.dep,PK.dep];exact hu) prog w E Q ?_
 rw [PK.eqv];exact h
end
end CT
namespace CT
open PySem
theorem tN {k:PK} {ks:List PK}:PK.dpL (k::ks)=max k.dp (PK.dpL ks):=rfl
theorem iQ:∀(a b:List PK),PK.hsL (a++b)=PK.hsL a++PK.hsL b
 |[],_=>rfl
 |k::ks,b=>by show PK.hs k::PK.hsL (ks++b)=_;rw [iQ ks b];rfl
theorem iU:∀(a b:List PK),PK.drL (a++b)=PK.drL a+PK.drL b
 |[],_=>by show _=0+_;rw [Nat.zero_add];rfl
 |k::ks,b=>by show PK.dr k+PK.drL (ks++b)=(PK.dr k+PK.drL ks)+_;rw [iU ks b];omega
section
variable {prog:Program} {w:World}
theorem wu:∀(n:Nat) (k:PK),k.dp<=n->∀{A:Around} {E:Value->Shared->Prop} {s:Shared} {v:Value} {Q:Int->Shared->Prop},A.units+n<cLine->cg s.heap k v->Q k.hs {s with toks:=s.toks+k.dr}->
  wpAny (model prog w) A (pyHash v) Q E s:=by
 intro n
 induction n with
 |zero=>
  intro k hk A E s v Q hu hi h
  cases k with
  |i m=>obtain ⟨tk,e⟩:=hi;subst e;exact wpAny_pyHash_int h
  |t l=>exact absurd (show PK.dpL l+1<=0 from hk) (by omega)
 |succ n ih=>
  intro k hk A E s v Q hu hi h
  cases k with
  |i m=>obtain ⟨tk,e⟩:=hi;subst e;exact wpAny_pyHash_int h
  |t l=>
   obtain ⟨a,o,its,m,e,g,c,d,r⟩:=hi
   subst e
   have hl:PK.dpL l<=n:=by have:PK.dpL l+1<=n+1:=hk;omega
   have T:s.TypeIs (.ref a) "tuple":=⟨o,g,c⟩
   have no:¬((some (Value.builtin "tuple.__hash__")==some Value.none)=true):=by rw [beq_builtin_none];exact Bool.false_ne_true
   unfold pyHash
   first|unfold pyHashByItsType|skip
   first|refine wpAny_bind (wpAny_cRoomFor_or (.inr (by omega)) ?_)|skip
   refine wpAny_bind (wpAny_specialOf T F.slot_tuple_hash.lookup ?_);show wpAny _ _ (if (some (Value.builtin "tuple.__hash__")==some Value.none)=true then _ else _) Q E s
   rw [if_neg no]
   refine wpAny_bind (wpAny_specialOf T F.slot_tuple_hash.lookup ?_);show wpAny _ _ (callSpecialIfBoundUnlessNone? (.ref a) "__hash__" _>>=_) Q E s
   refine wpAny_bind (wpAny_callSpecialIfBoundUnlessNone?_slot T F.slot_tuple_hash (wpAny_call_entry F.slot_tuple_hash T F.entry_tuple_hash ?_ (F.args_tuple_hash_1 _)))
   show wpAny _ _ (Builtin.Tuple.tupleItemsOf (.ref a)>>=_) _ _ s
   refine wpAny_bind (wpAny_tupleItemsOf g d ?_)
   refine wpAny_bind ?_;rw [←Array.forIn_toList]
   refine wpAny_forIn_list _ (fun rest (b:Array Int) s'=>∃dn lf,l=dn++lf∧bj s.heap lf rest∧b.toList=PK.hsL dn∧s'={s with toks:=s.toks+PK.drL dn}) _ ?_ ?_ _ _ ⟨[],l,rfl,r,rfl,rfl⟩
   ·rintro x rest b s' ⟨dn,lf,e1,hl',hb,e2⟩
    subst e1 e2
    cases lf with
    |nil=>exact nomatch (show x::rest=[] from hl')
    |cons k' ks'=>
     obtain ⟨v',us,e3,ha,ht⟩:=hl'
     cases e3
     have hk':k'.dp<=n:=by
      have:∀(dn:List PK),k'.dp<=PK.dpL (dn++k'::ks'):=by
       intro dn
       induction dn with
       |nil=>show k'.dp<=max _ _;omega
       |cons z zs ihz=>show k'.dp<=max _ (PK.dpL (zs++k'::ks'));omega
      exact Nat.le_trans (this dn) hl
     refine wpAny_bind (ih k' hk' (show A.in1.units+n<cLine by show A.units+1+n<cLine;omega) (s:={s with toks:=s.toks+PK.drL dn}) ha ?_)
     have fin:∃dn' lf',dn++k'::ks'=dn'++lf'∧bj s.heap lf' rest∧(b.push (PK.hs k')).toList=PK.hsL dn'∧({s with toks:=s.toks+PK.drL dn+PK.dr k'}:Shared)={s with toks:=s.toks+PK.drL dn'}:=
      ⟨dn++[k'],ks',by simp,ht,by rw [Array.toList_push,hb,iQ];rfl,by rw [iU];show _={s with toks:=s.toks+(PK.drL dn+(PK.dr k'+0))};rw [Nat.add_zero,Nat.add_assoc]⟩
     first
      |exact wpAny_pure fin
      |exact wpAny_bind (wpAny_pure (wpAny_pure fin))
   ·rintro b s' ⟨dn,lf,e1,hl',hb,e2⟩
    subst e1 e2
    cases lf with
    |cons _ _=>obtain ⟨_,_,e3,_⟩:=hl';cases e3
    |nil=>
     rw [List.append_nil] at h
     show wpAny _ _ (retInt (Builtin.Tuple.tupleHashOf b.toList)) _ _ _
     rw [hb]
     refine wpAny_ret_mkInt ?_
     change Q (reduceHash (Builtin.Tuple.tupleHashOf (PK.hsL dn))) {s with toks:=s.toks+(PK.drL dn+1)} at h
     generalize Builtin.Tuple.tupleHashOf (PK.hsL dn)=z at h ⊢
     show wpAny _ _ (if (decide (-(2:Int)^63<=z)&&decide (z<2^63))=true then _ else _) Q E _
     unfold reduceHash at h
     by_cases hz:(decide (-(2:Int)^63<=z)&&decide (z<2^63))=true
     ·rw [if_pos hz] at h ⊢
      exact wpAny_pure (by simpa [Nat.add_assoc] using h)
     ·rw [if_neg hz] at h ⊢
      exact wpAny_bind (wpAny_rule (wpAny_pure (by simpa [Nat.add_assoc] using h)))
theorem tY:∀(n:Nat) (k:PK),k.dp<=n->∀{A:Around} {E:Value->Shared->Prop} {s:Shared} {v:Value} {Q:Bool->Shared->Prop},cg s.heap k v->Q true s->wpAny (model prog w) A (eqIsQuiet n v) Q E s:=by
 intro n
 induction n with
 |zero=>
  intro k hk A E s v Q hi h
  cases k with
  |i m=>obtain ⟨tk,e⟩:=hi;subst e;rw [eqIsQuiet_byValue _ (by rfl)];exact wpAny_pure h
  |t l=>exact absurd (show PK.dpL l+1<=0 from hk) (by omega)
 |succ n ih=>
  intro k hk A E s v Q hi h
  cases k with
  |i m=>obtain ⟨tk,e⟩:=hi;subst e;rw [eqIsQuiet_byValue _ (by rfl)];exact wpAny_pure h
  |t l=>
   obtain ⟨a,o,its,m,e,g,c,d,r⟩:=hi
   subst e
   have hl:PK.dpL l<=n:=by have:PK.dpL l+1<=n+1:=hk;omega
   have T:s.TypeIs (.ref a) "tuple":=⟨o,g,c⟩
   unfold eqIsQuiet
   refine wpAny_bind (wpAny_specialOf T F.slot_tuple_eq.lookup ?_);show wpAny _ _ (isInstance (.ref a) (.type "tuple")>>=_) _ _ s
   refine wpAny_bind (wpAny_isInstance T isSubtype_tuple_tuple ?_);simp only [Bool.not_true,Bool.false_eq_true,if_false]
   refine wpAny_bind (wpAny_seqItems g d ?_)
   refine wpAny_bind ?_
   show wpAny _ _ (forIn its _ _) _ _ s;rw [←Array.forIn_toList]
   refine wpAny_forIn_list _ (fun rest q s'=>q.1=none∧s'=s∧∃lf,PK.dpL lf<=n∧bj s.heap lf rest) _ ?_ ?_ _ _ ⟨rfl,rfl,l,hl,r⟩
   ·rintro x rest q s' ⟨hq,e1,lf,hlf,hr⟩
    subst e1
    cases lf with
    |nil=>exact nomatch (show x::rest=[] from hr)
    |cons k' ks'=>
     obtain ⟨v',us,e3,ha,ht⟩:=hr
     cases e3
     rw [tN] at hlf
     refine wpAny_bind (ih k' (by omega) ha ?_);simp only [Bool.not_true,Bool.false_eq_true,if_false]
     exact wpAny_pure ⟨rfl,rfl,ks',by omega,ht⟩
   ·rintro ⟨q1,q2⟩ s' ⟨hq,e1,_⟩
    subst e1
    cases (show q1=none from hq)
    exact wpAny_pure h
noncomputable def lI (prog:Program) (w:World):HeapKind prog w PK where
 is:=fun h k a=>cg h k (.ref a)∧k.dp<=8
 hash:=PK.hs
 draws:=PK.dr
 room:=fun A=>A.units+8<cLine
 inj:=fun hx hy=>hx.1.inj hy.1
 keeps:=fun x ho hd hs=>⟨x.1.keep fun b o its n hb hb2=>(hs.2 b (by
  rintro rfl
  rw [ho] at hb
  cases hb
  rw [hd] at hb2
  cases hb2)).trans hb,x.2⟩
 pyHash:=fun hu hk h=>wu 8 _ hk.2 hu hk.1 h
 eqBool:=fun {A E s x y a b Q} hu hx hy h=>Bg (by have:=hx.2;have:=hy.2;omega) hx.1 hy.1 h
 quiet:=fun hk h=>tY 8 _ hk.2 hk.1 h
end
end CT
namespace CT
open PySem
section
variable {prog:Program} {w:World} {E:Value->Shared->Prop} {K:Type} [DecidableEq K] {knd:HeapKind prog w K} {A:Around} {s:Shared}
noncomputable def cF (knd:HeapKind prog w K) (h:Heap) (d:Addr) (xs:List (K×Addr×Value)) (ep:Nat):Prop:=
 ∃o es,h.get? d=some o∧o.ExactDict∧o.data=.dict es ep∧es.toList=xs.map (entryOfKey knd)∧(xs.map (·.1)).Nodup
theorem cF.keep {h h':Heap} {d:Addr} {xs:List (K×Addr×Value)} {ep:Nat} (x:cF knd h d xs ep) (k:∀o,h.get? d=some o->h'.get? d=some o):cF knd h' d xs ep:=let ⟨o,es,g,r⟩:=x;⟨o,es,k o g,r⟩
theorem cF.new (h:Heap):cF knd (h.push {cls:=.type "dict",data:=.dict #[]}) h.objs.size [] 0:=⟨_,#[],Heap.get?_push_size _ rfl,⟨rfl,rfl,rfl⟩,rfl,rfl,List.nodup_nil⟩
end
end CT
namespace CT
open PySem
noncomputable def Sit (h:Heap) (b:Bool) (i a:Addr) (k:Nat):Prop:=match b with|true=>h.IsTupleIter i a k|false=>h.IsListIter i a k
noncomputable def Ssq (h:Heap) (b:Bool) (a:Addr) (xs:Array Value):Prop:=match b with|true=>h.IsTuple a xs|false=>h.IsList a xs
theorem Sit.at {h h':Heap} {b:Bool} {i a:Addr} {k:Nat} (x:Sit h b i a k) (e:∀o,h.get? i=some o->h'.get? i=some o):Sit h' b i a k:=by
 cases b with
 |true=>obtain ⟨o,ho,r⟩:=x;exact ⟨o,e o ho,r⟩
 |false=>exact Heap.IsListIter.at x e
theorem Ssq.at {h h':Heap} {b:Bool} {a:Addr} {xs:Array Value} (x:Ssq h b a xs) (e:∀o,h.get? a=some o->h'.get? a=some o):Ssq h' b a xs:=by
 cases b with
 |true=>obtain ⟨o,ho,r⟩:=x;exact ⟨o,e o ho,r⟩
 |false=>exact Heap.IsList.at x e
theorem Sit.rec {h:Heap} {b:Bool} {i a:Addr} {k:Nat} (x:Sit h b i a k):∃o n vs,h.get? i=some o∧o.cls=.type n∧o.data=.fields vs:=by
 cases b with
 |true=>obtain ⟨o,ho,c,d⟩:=x;exact ⟨o,_,_,ho,c,d⟩
 |false=>obtain ⟨o,ho,c,d⟩:=x;exact ⟨o,_,_,ho,c,d⟩
section
variable {prog:Program} {w:World} {A:Around} {E:Value->Shared->Prop} {s:Shared}
theorem gX {it t:Addr} {i:Nat} {items} {x:Value} {Q:Value->Shared->Prop} (hit:s.heap.IsTupleIter it t i) (ht:s.heap.IsTuple t items) (hx:items[i]?=some x)
  (hQ:∀h',h'.IsTupleIter it t (i+1)->Heap.SameBut it s.heap h'->Q x {s with heap:=h'}):wpAny (model prog w) A (Builtin.SmallTypes.nextOf (.ref it)) Q E s:=by
 obtain ⟨o,ho,hc,hd⟩:=id hit
 obtain ⟨ol,hol,_,nl,hdl⟩:=ht
 unfold Builtin.SmallTypes.nextOf
 refine wpAny_bind (wpAny_callSpecial?_slot (name:=Str.ofString "__next__") hit.typeIs F.slot_tuple_iterator_next
  (wpAny_call_entry F.slot_tuple_iterator_next hit.typeIs F.entry_tuple_iterator_next ?_ (F.args_tuple_iterator_next_1 _)))
 show wpAny _ _ (field (.ref it) 0>>=_) _ _ s
 refine wpAny_bind (wpAny_field ho hd (x:=.ref t) rfl ?_)
 show wpAny _ _ (if (Value.ref t==Value.none)=true then _ else _) _ _ s
 rw [if_neg (show ¬((Value.ref t==Value.none)=true) from Bool.false_ne_true)]
 show wpAny _ _ (field (.ref it) 1>>=_) _ _ s
 refine wpAny_bind (wpAny_field ho hd (x:=.int i 0) rfl ?_)
 show wpAny _ _ (seqItems? (.ref t)>>=_) _ _ s
 refine wpAny_bind (wpAny_seqItems hol hdl ?_)
 simp only [Int.toNat_natCast,hx]
 refine wpAny_bind (wpAny_setField ho hd (by simp) (wpAny_pure ⟨x,rfl,wpAny_pure (hQ _ ?_ (Heap.SameBut.update ..))⟩))
 exact ⟨_,Heap.get?_update_self _ ho (Obj.isFreed_of_fields (Obj.data_mapFields hd _)),(Obj.cls_mapFields ..).trans hc,by
  rw [Obj.data_mapFields hd];simp [rawInt]⟩
theorem ig {it t:Addr} {i:Nat} {items} {Q:Value->Shared->Prop} (hh:A.handled=none) (hit:s.heap.IsTupleIter it t i) (ht:s.heap.IsTuple t items) (hx:items[i]?=none)
  (hE:∀h' e,Heap.ExtBut it s.heap h'->(∃o,h'.get? e=some o∧o.cls=.type "StopIteration")->E (.ref e) {s with heap:=h'}):
  wpAny (model prog w) A (Builtin.SmallTypes.nextOf (.ref it)) Q E s:=by
 obtain ⟨o,ho,hc,hd⟩:=id hit
 obtain ⟨ol,hol,_,nl,hdl⟩:=ht
 unfold Builtin.SmallTypes.nextOf
 refine wpAny_bind (wpAny_callSpecial?_slot (name:=Str.ofString "__next__") hit.typeIs F.slot_tuple_iterator_next
  (wpAny_call_entry F.slot_tuple_iterator_next hit.typeIs F.entry_tuple_iterator_next ?_ (F.args_tuple_iterator_next_1 _)))
 show wpAny _ _ (field (.ref it) 0>>=_) _ _ s
 refine wpAny_bind (wpAny_field ho hd (x:=.ref t) rfl ?_)
 show wpAny _ _ (if (Value.ref t==Value.none)=true then _ else _) _ _ s
 rw [if_neg (show ¬((Value.ref t==Value.none)=true) from Bool.false_ne_true)]
 show wpAny _ _ (field (.ref it) 1>>=_) _ _ s
 refine wpAny_bind (wpAny_field ho hd (x:=.int i 0) rfl ?_)
 show wpAny _ _ (seqItems? (.ref t)>>=_) _ _ s
 refine wpAny_bind (wpAny_seqItems hol hdl ?_)
 simp only [Int.toNat_natCast,hx]
 refine wpAny_bind (wpAny_rule (wpAny_bind (wpAny_setField ho hd (by simp) ?_)))
 show wpAny _ _ (newExc (.type "StopIteration") []>>=_) _ _ _
 refine wpAny_bind ?_
 simp only [newExc,newTuple]
 refine wpAny_bind (wpAny_newObj_type ?_ (by size_fits))
 refine wpAny_bind (m:=firstArgMember _ _) (wpAny_of_eq (a:=Value.none) (by first|rfl|(simp only [firstArgMember];rfl)) ?_)
 refine wpAny_newObj_type ?_ (by size_fits)
 simp only [raiseNew]
 refine wpAny_bind (wpAny_handled ?_)
 first|rw [show A.in1.handled=none from hh]|rw [hh]
 refine wpAny_bind (wpAny_pure (wpAny_throw ?_))
 exact hE _ _ (((Heap.SameBut.update ..).extBut.push _).push _) ⟨_,Heap.get?_push_size _ rfl,rfl⟩
theorem bq {b:Bool} {it a:Addr} {i:Nat} {items:Array Value} {x:Value} {Q:Value->Shared->Prop} (hit:Sit s.heap b it a i) (hl:Ssq s.heap b a items) (hx:items[i]?=some x)
  (hQ:∀h',Sit h' b it a (i+1)->Heap.SameBut it s.heap h'->Q x {s with heap:=h'}):wpAny (model prog w) A (Builtin.SmallTypes.nextOf (.ref it)) Q E s:=by
 cases b with
 |true=>exact gX hit hl hx hQ
 |false=>exact wpAny_nextOf_list_item hit hl hx hQ
theorem cm {b:Bool} {it a:Addr} {i:Nat} {items:Array Value} {Q:Value->Shared->Prop} (hh:A.handled=none) (hit:Sit s.heap b it a i) (hl:Ssq s.heap b a items) (hx:items[i]?=none)
  (hE:∀h' e,Heap.ExtBut it s.heap h'->(∃o,h'.get? e=some o∧o.cls=.type "StopIteration")->E (.ref e) {s with heap:=h'}):wpAny (model prog w) A (Builtin.SmallTypes.nextOf (.ref it)) Q E s:=by
 cases b with
 |true=>exact ig hh hit hl hx hE
 |false=>exact wpAny_nextOf_list_end hh hit hl hx hE
noncomputable abbrev aq (h:Heap) (T:Addr) (vs:Array Value):Prop:=h.get? T=some {cls:=.type "tuple",data:=.seq vs}
theorem y6:8<=sizeLine:=by rw [sizeLine_eq];decide
theorem a8 {T:Addr} {vs:Array Value} {x:Value} {k:Nat} {Q:Unit->Shared->Prop} (hT:aq s.heap T vs) (hv:vs.size<=8)
  (h:∀h',aq h' T (vs.setIfInBounds k x)->Heap.SameBut T s.heap h'->Q () {s with heap:=h'}):wpAny (model prog w) A (updateSeq T (·.setIfInBounds k x)) Q E s:=by
 have h8:=y6
 refine wpAny_updateSeq hT rfl (h _ ?_ (Heap.SameBut.update ..)) (hz:=by omega) (_hz':=by simp;omega)
 show Heap.get? _ _=_
 rw [Heap.get?_update_self _ hT rfl]
 simp [Obj.mapSeq]
theorem ne3 {l:List Addr} {a b:Addr} (ha:a∉l) (hb:b∈l):a≠b:=fun e=>ha (e▸hb)
theorem qC {z TI TO i1 i2 a1 a2:Addr} {b1 b2:Bool} {k:Nat} {xs ys ts:Array Value} {x y:Value} {Q:Value->Shared->Prop}
  (nd:[z,TI,TO,i1,i2].Nodup) (n1:a1∉[z,TO,i1,i2]) (n2:a2∉[z,TO,i1,i2])
  (hz:IsZip s.heap z TI TO .none) (hTI:aq s.heap TI #[.ref i1,.ref i2]) (hTO:aq s.heap TO ts) (hts:ts.size=2)
  (h1:Sit s.heap b1 i1 a1 k) (h2:Sit s.heap b2 i2 a2 k) (hl1:Ssq s.heap b1 a1 xs) (hl2:Ssq s.heap b2 a2 ys) (hx:xs[k]?=some x) (hy:ys[k]?=some y)
  (hQ:∀h',IsZip h' z TI TO (rawInt s.heap.objs.size)->aq h' TO #[x,y]->Sit h' b1 i1 a1 (k+1)->Sit h' b2 i2 a2 (k+1)->aq h' s.heap.objs.size #[x,y]->h'.objs.size=s.heap.objs.size+1->
   (∀c o,c∉[z,TO,i1,i2]->s.heap.get? c=some o->h'.get? c=some o)->Q (.ref s.heap.objs.size) {s with heap:=h'}):
  wpAny (model prog w) A (Builtin.«zip.__next__» ⟨[.ref z],[]⟩) (fun fin s'=>∃v,fin=.done (.ret v)∧Q v s') E s:=by
 simp only [List.nodup_cons,List.mem_cons,List.not_mem_nil,or_false,not_or,List.nodup_nil,and_true,not_false_eq_true] at nd
 obtain ⟨⟨zTI,zTO,zi1,zi2⟩,⟨TITO,TIi1,TIi2⟩,⟨TOi1,TOi2⟩,i12⟩:=nd
 simp only [List.mem_cons,List.not_mem_nil,or_false,not_or] at n1 n2
 obtain ⟨a1z,a1T,a1i,a1j⟩:=n1
 obtain ⟨a2z,a2T,a2i,a2j⟩:=n2
 show wpAny _ _ (field (.ref z) 2>>=_) _ _ _
 refine wpAny_bind (wpAny_field hz rfl (x:=.bool false) rfl ?_)
 show wpAny _ _ (field (.ref z) 3>>=_) _ _ _
 refine wpAny_bind (wpAny_field hz rfl (x:=.ref TI) rfl ?_)
 refine wpAny_bind (wpAny_seqItems hTI rfl ?_)
 show wpAny _ _ (Builtin.SmallTypes.ownedTupleIsFree (.ref z)>>=_) _ _ _
 refine wpAny_bind ?_
 unfold Builtin.SmallTypes.ownedTupleIsFree
 refine wpAny_bind (wpAny_field hz rfl (x:=.none) rfl (wpAny_pure ?_))
 simp only [if_true]
 refine wpAny_bind (wpAny_rule ?_)
 refine wpAny_bind (wpAny_field hz rfl (x:=.ref TO) rfl ?_)
 refine wpAny_bind (wpAny_setField_rec hz (by simp) fun h₁ hz₁ hs₁=>?_)
 replace hz₁:IsZip h₁ z TI TO .ellipsis:=hz₁
 refine wpAny_bind ?_
 simp only [List.zipIdx_cons,List.zipIdx_nil,List.forIn_cons,List.forIn_nil]
 refine wpAny_bind (wpAny_bind (wpAny_onRaise ?_))
 show wpAny _ _ (Builtin.SmallTypes.nextOf (.ref i1)>>=_) _ _ _
 refine wpAny_bind (bq (h1.at fun o e=>hs₁.extBut _ _ (Ne.symm zi1) e) (hl1.at fun o e=>hs₁.extBut _ _ a1z e) hx fun h₂ h1₂ hs₂=>wpAny_pure ?_)
 have hTO₂:aq h₂ TO ts:=hs₂.extBut _ _ TOi1 (hs₁.extBut _ _ (Ne.symm zTO) hTO)
 refine wpAny_bind (wpAny_seqItems hTO₂ rfl ?_)
 refine wpAny_bind (a8 hTO₂ (by omega) fun h₃ hTO₃ hs₃=>?_)
 refine wpAny_bind (wpAny_letGo (wpAny_pure ?_))
 refine wpAny_bind (wpAny_bind (wpAny_onRaise ?_))
 show wpAny _ _ (Builtin.SmallTypes.nextOf (.ref i2)>>=_) _ _ _
 refine wpAny_bind (bq (h2.at fun o e=>hs₃.extBut _ _ (Ne.symm TOi2) (hs₂.extBut _ _ (Ne.symm i12) (hs₁.extBut _ _ (Ne.symm zi2) e)))
  (hl2.at fun o e=>hs₃.extBut _ _ a2T (hs₂.extBut _ _ a2i (hs₁.extBut _ _ a2z e))) hy fun h₄ h2₄ hs₄=>wpAny_pure ?_)
 have hTO₄:=hs₄.extBut _ _ TOi2 hTO₃
 refine wpAny_bind (wpAny_seqItems hTO₄ rfl ?_)
 refine wpAny_bind (a8 hTO₄ (by simp;omega) fun h₅ hTO₅ hs₅=>?_)
 refine wpAny_bind (wpAny_letGo (wpAny_pure (wpAny_pure ?_)))
 have ets:((ts.setIfInBounds 0 x).setIfInBounds 1 y)=#[x,y]:=by
  match ts,hts with
  |⟨[p,q]⟩,_=>rfl
 replace hTO₅:aq h₅ TO #[x,y]:=by rw [←ets];exact hTO₅
 refine wpAny_bind (wpAny_seqItems hTO₅ rfl ?_)
 refine wpAny_bind (wpAny_newTuple ?_)
 have hsz:h₅.objs.size=s.heap.objs.size:=by rw [hs₅.1,hs₄.1,hs₃.1,hs₂.1,hs₁.1]
 have hz₅:IsZip h₅ z TI TO .ellipsis:=hs₅.extBut _ _ zTO (hs₄.extBut _ _ zi2 (hs₃.extBut _ _ zTO (hs₂.extBut _ _ zi1 hz₁)))
 have hk₅:∀c o,c∉[z,TO,i1,i2]->s.heap.get? c=some o->h₅.get? c=some o:=fun c o hc e=>
  hs₅.extBut _ _ (ne3 hc (by simp)) (hs₄.extBut _ _ (ne3 hc (by simp)) (hs₃.extBut _ _ (ne3 hc (by simp)) (hs₂.extBut _ _ (ne3 hc (by simp)) (hs₁.extBut _ _ (ne3 hc (by simp)) e))))
 have h1₅:Sit h₅ b1 i1 a1 (k+1):=h1₂.at fun o e=>hs₅.extBut _ _ (Ne.symm TOi1) (hs₄.extBut _ _ i12 (hs₃.extBut _ _ (Ne.symm TOi1) e))
 have h2₅:Sit h₅ b2 i2 a2 (k+1):=h2₄.at fun o e=>hs₅.extBut _ _ (Ne.symm TOi2) e
 have hzlt:z<h₅.objs.size:=Heap.lt_size hz₅
 have hTOlt:TO<h₅.objs.size:=Heap.lt_size hTO₅
 show wpAny _ _ (Builtin.SmallTypes.ownedTupleHandOut (.ref z) (.ref h₅.objs.size)>>=_) _ _ _
 refine wpAny_bind ?_
 unfold Builtin.SmallTypes.ownedTupleHandOut
 have hz₆:IsZip (h₅.push {cls:=.type "tuple",data:=.seq #[x,y]}) z TI TO .ellipsis:=Heap.get?_push_of_some _ hz₅
 refine wpAny_bind (wpAny_setField_rec hz₆ (by simp) fun h₇ hz₇ hs₇=>?_)
 replace hz₇:IsZip h₇ z TI TO (rawInt h₅.objs.size):=hz₇
 refine wpAny_setField_rec hz₇ (by simp) fun h₈ hz₈ hs₈=>?_
 replace hz₈:IsZip h₈ z TI TO (rawInt h₅.objs.size):=hz₈
 have up:∀c o,c≠z->h₅.get? c=some o->h₈.get? c=some o:=fun c o c1 e=>hs₈.extBut _ _ c1 (hs₇.extBut _ _ c1 (Heap.get?_push_of_some _ e))
 have hT₈:aq h₈ h₅.objs.size #[x,y]:=hs₈.extBut _ _ (Nat.ne_of_gt hzlt) (hs₇.extBut _ _ (Nat.ne_of_gt hzlt) (Heap.get?_push_size _ rfl))
 have hz8:h₈.objs.size=h₅.objs.size+1:=by rw [hs₈.1,hs₇.1,Heap.size_push]
 rw [hsz] at hz₈ hT₈ hz8
 refine wpAny_pure ⟨_,rfl,?_⟩
 show Q (.ref h₅.objs.size) _
 rw [hsz]
 exact hQ h₈ hz₈ (up _ _ (Ne.symm zTO) hTO₅) (h1₅.at fun o e=>up _ o (Ne.symm zi1) e) (h2₅.at fun o e=>up _ o (Ne.symm zi2) e) hT₈ hz8 fun c o hc e=>up c o (ne3 hc (by simp)) (hk₅ c o hc e)
theorem tF {z TI TO i1 i2 a1 a2:Addr} {b1 b2:Bool} {k:Nat} {xs ys ts:Array Value} {Q:PySem.Fin->Shared->Prop} (hh:A.handled=none)
  (nd:[z,TI,TO,i1,i2].Nodup) (n1:a1∉[z,TO,i1,i2]) (n2:a2∉[z,TO,i1,i2])
  (hz:IsZip s.heap z TI TO .none) (hTI:aq s.heap TI #[.ref i1,.ref i2]) (hTO:aq s.heap TO ts) (hts:ts.size=2)
  (h1:Sit s.heap b1 i1 a1 k) (h2:Sit s.heap b2 i2 a2 k) (hl1:Ssq s.heap b1 a1 xs) (hl2:Ssq s.heap b2 a2 ys) (hend:xs[k]?=none∨ys[k]?=none)
  (hE:∀h' e,(∀c o,c∉[z,TO,i1,i2]->s.heap.get? c=some o->h'.get? c=some o)->(∃o,h'.get? e=some o∧o.cls=.type "StopIteration")->E (.ref e) {s with heap:=h'}):
  wpAny (model prog w) A (Builtin.«zip.__next__» ⟨[.ref z],[]⟩) Q E s:=by
 simp only [List.nodup_cons,List.mem_cons,List.not_mem_nil,or_false,not_or,List.nodup_nil,and_true,not_false_eq_true] at nd
 obtain ⟨⟨zTI,zTO,zi1,zi2⟩,⟨TITO,TIi1,TIi2⟩,⟨TOi1,TOi2⟩,i12⟩:=nd
 simp only [List.mem_cons,List.not_mem_nil,or_false,not_or] at n1 n2
 obtain ⟨a1z,a1T,a1i,a1j⟩:=n1
 obtain ⟨a2z,a2T,a2i,a2j⟩:=n2
 show wpAny _ _ (field (.ref z) 2>>=_) _ _ _
 refine wpAny_bind (wpAny_field hz rfl (x:=.bool false) rfl ?_)
 show wpAny _ _ (field (.ref z) 3>>=_) _ _ _
 refine wpAny_bind (wpAny_field hz rfl (x:=.ref TI) rfl ?_)
 refine wpAny_bind (wpAny_seqItems hTI rfl ?_)
 show wpAny _ _ (Builtin.SmallTypes.ownedTupleIsFree (.ref z)>>=_) _ _ _
 refine wpAny_bind ?_
 unfold Builtin.SmallTypes.ownedTupleIsFree
 refine wpAny_bind (wpAny_field hz rfl (x:=.none) rfl (wpAny_pure ?_))
 simp only [if_true]
 refine wpAny_bind (wpAny_rule ?_)
 refine wpAny_bind (wpAny_field hz rfl (x:=.ref TO) rfl ?_)
 refine wpAny_bind (wpAny_setField_rec hz (by simp) fun h₁ hz₁ hs₁=>?_)
 replace hz₁:IsZip h₁ z TI TO .ellipsis:=hz₁
 refine wpAny_bind ?_
 simp only [List.zipIdx_cons,List.zipIdx_nil,List.forIn_cons,List.forIn_nil]
 refine wpAny_bind (wpAny_bind (wpAny_onRaise ?_))
 show wpAny _ _ (Builtin.SmallTypes.nextOf (.ref i1)>>=_) _ _ _
 have hi1:=h1.at (h':=h₁) fun o e=>hs₁.extBut _ _ (Ne.symm zi1) e
 have hL1:=hl1.at (h':=h₁) fun o e=>hs₁.extBut _ _ a1z e
 cases hx:xs[k]? with
 |none=>
  refine wpAny_bind (cm hh hi1 hL1 hx fun h₂ e hs₂ he=>?_)
  obtain ⟨oe,hoe,hce⟩:=he
  have hz₂:IsZip h₂ z TI TO .ellipsis:=hs₂ _ _ zi1 hz₁
  have hez:e≠z:=fun x=>by subst x;rw [hz₂] at hoe;cases hoe;simp at hce
  refine wpAny_setField_rec hz₂ (by simp) fun h₃ _ hs₃=>hE h₃ e (fun c o hc x=>hs₃.extBut _ _ (ne3 hc (by simp)) (hs₂ _ _ (ne3 hc (by simp)) (hs₁.extBut _ _ (ne3 hc (by simp)) x))) ⟨oe,hs₃.extBut _ _ hez hoe,hce⟩
 |some x=>
  have hy:ys[k]?=none:=by rcases hend with h|h;rw [hx] at h;cases h;exact h
  refine wpAny_bind (bq hi1 hL1 hx fun h₂ h1₂ hs₂=>wpAny_pure ?_)
  have hTO₂:aq h₂ TO ts:=hs₂.extBut _ _ TOi1 (hs₁.extBut _ _ (Ne.symm zTO) hTO)
  refine wpAny_bind (wpAny_seqItems hTO₂ rfl ?_)
  refine wpAny_bind (a8 hTO₂ (by omega) fun h₃ hTO₃ hs₃=>?_)
  refine wpAny_bind (wpAny_letGo (wpAny_pure ?_))
  refine wpAny_bind (wpAny_bind (wpAny_onRaise ?_))
  show wpAny _ _ (Builtin.SmallTypes.nextOf (.ref i2)>>=_) _ _ _
  refine wpAny_bind (cm hh (h2.at fun o e=>hs₃.extBut _ _ (Ne.symm TOi2) (hs₂.extBut _ _ (Ne.symm i12) (hs₁.extBut _ _ (Ne.symm zi2) e)))
   (hl2.at fun o e=>hs₃.extBut _ _ a2T (hs₂.extBut _ _ a2i (hs₁.extBut _ _ a2z e))) hy fun h₄ e hs₄ he=>?_)
  obtain ⟨oe,hoe,hce⟩:=he
  have hz₄:IsZip h₄ z TI TO .ellipsis:=hs₄ _ _ zi2 (hs₃.extBut _ _ zTO (hs₂.extBut _ _ zi1 hz₁))
  have hez:e≠z:=fun x=>by subst x;rw [hz₄] at hoe;cases hoe;simp at hce
  refine wpAny_setField_rec hz₄ (by simp) fun h₅ _ hs₅=>hE h₅ e (fun c o hc x=>hs₅.extBut _ _ (ne3 hc (by simp)) (hs₄ _ _ (ne3 hc (by simp)) (hs₃.extBut _ _ (ne3 hc (by simp)) (hs₂.extBut _ _ (ne3 hc (by simp)) (hs₁.extBut _ _ (ne3 hc (by simp)) x))))) ⟨oe,hs₅.extBut _ _ hez hoe,hce⟩
theorem rJ {z TI TO i1 i2 i3 a1 a2 a3:Addr} {b1 b2 b3:Bool} {k:Nat} {xs ys us ts:Array Value} {x y u:Value} {Q:Value->Shared->Prop}
  (nd:[z,TI,TO,i1,i2,i3].Nodup) (n1:a1∉[z,TO,i1,i2,i3]) (n2:a2∉[z,TO,i1,i2,i3]) (n3:a3∉[z,TO,i1,i2,i3])
  (hz:IsZip s.heap z TI TO .none) (hTI:aq s.heap TI #[.ref i1,.ref i2,.ref i3]) (hTO:aq s.heap TO ts) (hts:ts.size=3)
  (h1:Sit s.heap b1 i1 a1 k) (h2:Sit s.heap b2 i2 a2 k) (h3:Sit s.heap b3 i3 a3 k) (hl1:Ssq s.heap b1 a1 xs) (hl2:Ssq s.heap b2 a2 ys) (hl3:Ssq s.heap b3 a3 us)
  (hx:xs[k]?=some x) (hy:ys[k]?=some y) (hu:us[k]?=some u)
  (hQ:∀h',IsZip h' z TI TO (rawInt s.heap.objs.size)->aq h' TO #[x,y,u]->Sit h' b1 i1 a1 (k+1)->Sit h' b2 i2 a2 (k+1)->Sit h' b3 i3 a3 (k+1)->aq h' s.heap.objs.size #[x,y,u]->h'.objs.size=s.heap.objs.size+1->
   (∀c o,c∉[z,TO,i1,i2,i3]->s.heap.get? c=some o->h'.get? c=some o)->Q (.ref s.heap.objs.size) {s with heap:=h'}):
  wpAny (model prog w) A (Builtin.«zip.__next__» ⟨[.ref z],[]⟩) (fun fin s'=>∃v,fin=.done (.ret v)∧Q v s') E s:=by
 simp only [List.nodup_cons,List.mem_cons,List.not_mem_nil,or_false,not_or,List.nodup_nil,and_true,not_false_eq_true] at nd
 obtain ⟨⟨zTI,zTO,zi1,zi2,zi3⟩,⟨TITO,TIi1,TIi2,TIi3⟩,⟨TOi1,TOi2,TOi3⟩,⟨i12,i13⟩,i23⟩:=nd
 simp only [List.mem_cons,List.not_mem_nil,or_false,not_or] at n1 n2 n3
 obtain ⟨a1z,a1T,a1i,a1j,a1k⟩:=n1
 obtain ⟨a2z,a2T,a2i,a2j,a2k⟩:=n2
 obtain ⟨a3z,a3T,a3i,a3j,a3k⟩:=n3
 show wpAny _ _ (field (.ref z) 2>>=_) _ _ _
 refine wpAny_bind (wpAny_field hz rfl (x:=.bool false) rfl ?_)
 show wpAny _ _ (field (.ref z) 3>>=_) _ _ _
 refine wpAny_bind (wpAny_field hz rfl (x:=.ref TI) rfl ?_)
 refine wpAny_bind (wpAny_seqItems hTI rfl ?_)
 show wpAny _ _ (Builtin.SmallTypes.ownedTupleIsFree (.ref z)>>=_) _ _ _
 refine wpAny_bind ?_
 unfold Builtin.SmallTypes.ownedTupleIsFree
 refine wpAny_bind (wpAny_field hz rfl (x:=.none) rfl (wpAny_pure ?_))
 simp only [if_true]
 refine wpAny_bind (wpAny_rule ?_)
 refine wpAny_bind (wpAny_field hz rfl (x:=.ref TO) rfl ?_)
 refine wpAny_bind (wpAny_setField_rec hz (by simp) fun h₁ hz₁ hs₁=>?_)
 replace hz₁:IsZip h₁ z TI TO .ellipsis:=hz₁
 refine wpAny_bind ?_
 simp only [List.zipIdx_cons,List.zipIdx_nil,List.forIn_cons,List.forIn_nil]
 refine wpAny_bind (wpAny_bind (wpAny_onRaise ?_))
 show wpAny _ _ (Builtin.SmallTypes.nextOf (.ref i1)>>=_) _ _ _
 refine wpAny_bind (bq (h1.at fun o e=>hs₁.extBut _ _ (Ne.symm zi1) e) (hl1.at fun o e=>hs₁.extBut _ _ a1z e) hx fun h₂ h1₂ hs₂=>wpAny_pure ?_)
 have hTO₂:aq h₂ TO ts:=hs₂.extBut _ _ TOi1 (hs₁.extBut _ _ (Ne.symm zTO) hTO)
 refine wpAny_bind (wpAny_seqItems hTO₂ rfl ?_)
 refine wpAny_bind (a8 hTO₂ (by omega) fun h₃ hTO₃ hs₃=>?_)
 refine wpAny_bind (wpAny_letGo (wpAny_pure ?_))
 refine wpAny_bind (wpAny_bind (wpAny_onRaise ?_))
 show wpAny _ _ (Builtin.SmallTypes.nextOf (.ref i2)>>=_) _ _ _
 refine wpAny_bind (bq (h2.at fun o e=>hs₃.extBut _ _ (Ne.symm TOi2) (hs₂.extBut _ _ (Ne.symm i12) (hs₁.extBut _ _ (Ne.symm zi2) e)))
  (hl2.at fun o e=>hs₃.extBut _ _ a2T (hs₂.extBut _ _ a2i (hs₁.extBut _ _ a2z e))) hy fun h₄ h2₄ hs₄=>wpAny_pure ?_)
 have hTO₄:=hs₄.extBut _ _ TOi2 hTO₃
 refine wpAny_bind (wpAny_seqItems hTO₄ rfl ?_)
 refine wpAny_bind (a8 hTO₄ (by simp;omega) fun h₅ hTO₅ hs₅=>?_)
 refine wpAny_bind (wpAny_letGo (wpAny_pure ?_))
 refine wpAny_bind (wpAny_bind (wpAny_onRaise ?_))
 show wpAny _ _ (Builtin.SmallTypes.nextOf (.ref i3)>>=_) _ _ _
 refine wpAny_bind (bq (h3.at fun o e=>hs₅.extBut _ _ (Ne.symm TOi3) (hs₄.extBut _ _ (Ne.symm i23) (hs₃.extBut _ _ (Ne.symm TOi3) (hs₂.extBut _ _ (Ne.symm i13) (hs₁.extBut _ _ (Ne.symm zi3) e)))))
  (hl3.at fun o e=>hs₅.extBut _ _ a3T (hs₄.extBut _ _ a3j (hs₃.extBut _ _ a3T (hs₂.extBut _ _ a3i (hs₁.extBut _ _ a3z e))))) hu fun h₆ h3₆ hs₆=>wpAny_pure ?_)
 have hTO₆:=hs₆.extBut _ _ TOi3 hTO₅
 refine wpAny_bind (wpAny_seqItems hTO₆ rfl ?_)
 refine wpAny_bind (a8 hTO₆ (by simp;omega) fun h₇ hTO₇ hs₇=>?_)
 refine wpAny_bind (wpAny_letGo (wpAny_pure (wpAny_pure ?_)))
 have ets:(((ts.setIfInBounds 0 x).setIfInBounds 1 y).setIfInBounds 2 u)=#[x,y,u]:=by
  match ts,hts with
  |⟨[p,q,r]⟩,_=>rfl
 replace hTO₇:aq h₇ TO #[x,y,u]:=by rw [←ets];exact hTO₇
 refine wpAny_bind (wpAny_seqItems hTO₇ rfl ?_)
 refine wpAny_bind (wpAny_newTuple ?_)
 have hsz:h₇.objs.size=s.heap.objs.size:=by rw [hs₇.1,hs₆.1,hs₅.1,hs₄.1,hs₃.1,hs₂.1,hs₁.1]
 have hz₅:IsZip h₇ z TI TO .ellipsis:=hs₇.extBut _ _ zTO (hs₆.extBut _ _ zi3 (hs₅.extBut _ _ zTO (hs₄.extBut _ _ zi2 (hs₃.extBut _ _ zTO (hs₂.extBut _ _ zi1 hz₁)))))
 have hk₅:∀c o,c∉[z,TO,i1,i2,i3]->s.heap.get? c=some o->h₇.get? c=some o:=fun c o hc e=>
  hs₇.extBut _ _ (ne3 hc (by simp)) (hs₆.extBut _ _ (ne3 hc (by simp)) (hs₅.extBut _ _ (ne3 hc (by simp)) (hs₄.extBut _ _ (ne3 hc (by simp)) (hs₃.extBut _ _ (ne3 hc (by simp)) (hs₂.extBut _ _ (ne3 hc (by simp)) (hs₁.extBut _ _ (ne3 hc (by simp)) e))))))
 have h1₅:Sit h₇ b1 i1 a1 (k+1):=h1₂.at fun o e=>hs₇.extBut _ _ (Ne.symm TOi1) (hs₆.extBut _ _ i13 (hs₅.extBut _ _ (Ne.symm TOi1) (hs₄.extBut _ _ i12 (hs₃.extBut _ _ (Ne.symm TOi1) e))))
 have h2₅:Sit h₇ b2 i2 a2 (k+1):=h2₄.at fun o e=>hs₇.extBut _ _ (Ne.symm TOi2) (hs₆.extBut _ _ i23 (hs₅.extBut _ _ (Ne.symm TOi2) e))
 have h3₅:Sit h₇ b3 i3 a3 (k+1):=h3₆.at fun o e=>hs₇.extBut _ _ (Ne.symm TOi3) e
 have hzlt:z<h₇.objs.size:=Heap.lt_size hz₅
 have hTOlt:TO<h₇.objs.size:=Heap.lt_size hTO₇
 show wpAny _ _ (Builtin.SmallTypes.ownedTupleHandOut (.ref z) (.ref h₇.objs.size)>>=_) _ _ _
 refine wpAny_bind ?_
 unfold Builtin.SmallTypes.ownedTupleHandOut
 have hz₆:IsZip (h₇.push {cls:=.type "tuple",data:=.seq #[x,y,u]}) z TI TO .ellipsis:=Heap.get?_push_of_some _ hz₅
 refine wpAny_bind (wpAny_setField_rec hz₆ (by simp) fun h₈ hz₈ hs₈=>?_)
 replace hz₈:IsZip h₈ z TI TO (rawInt h₇.objs.size):=hz₈
 refine wpAny_setField_rec hz₈ (by simp) fun h₉ hz₉ hs₉=>?_
 replace hz₉:IsZip h₉ z TI TO (rawInt h₇.objs.size):=hz₉
 have up:∀c o,c≠z->h₇.get? c=some o->h₉.get? c=some o:=fun c o c1 e=>hs₉.extBut _ _ c1 (hs₈.extBut _ _ c1 (Heap.get?_push_of_some _ e))
 have hT₈:aq h₉ h₇.objs.size #[x,y,u]:=hs₉.extBut _ _ (Nat.ne_of_gt hzlt) (hs₈.extBut _ _ (Nat.ne_of_gt hzlt) (Heap.get?_push_size _ rfl))
 have hz8:h₉.objs.size=h₇.objs.size+1:=by rw [hs₉.1,hs₈.1,Heap.size_push]
 rw [hsz] at hz₉ hT₈ hz8
 refine wpAny_pure ⟨_,rfl,?_⟩
 show Q (.ref h₇.objs.size) _
 rw [hsz]
 exact hQ h₉ hz₉ (up _ _ (Ne.symm zTO) hTO₇) (h1₅.at fun o e=>up _ o (Ne.symm zi1) e) (h2₅.at fun o e=>up _ o (Ne.symm zi2) e) (h3₅.at fun o e=>up _ o (Ne.symm zi3) e) hT₈ hz8 fun c o hc e=>up c o (ne3 hc (by simp)) (hk₅ c o hc e)
theorem tV {z TI TO i1 i2 i3 a1 a2 a3:Addr} {b1 b2 b3:Bool} {k:Nat} {xs ys us ts:Array Value} {Q:PySem.Fin->Shared->Prop} (hh:A.handled=none)
  (nd:[z,TI,TO,i1,i2,i3].Nodup) (n1:a1∉[z,TO,i1,i2,i3]) (n2:a2∉[z,TO,i1,i2,i3]) (n3:a3∉[z,TO,i1,i2,i3])
  (hz:IsZip s.heap z TI TO .none) (hTI:aq s.heap TI #[.ref i1,.ref i2,.ref i3]) (hTO:aq s.heap TO ts) (hts:ts.size=3)
  (h1:Sit s.heap b1 i1 a1 k) (h2:Sit s.heap b2 i2 a2 k) (h3:Sit s.heap b3 i3 a3 k) (hl1:Ssq s.heap b1 a1 xs) (hl2:Ssq s.heap b2 a2 ys) (hl3:Ssq s.heap b3 a3 us)
  (hend:xs[k]?=none∨ys[k]?=none∨us[k]?=none)
  (hE:∀h' e,(∀c o,c∉[z,TO,i1,i2,i3]->s.heap.get? c=some o->h'.get? c=some o)->(∃o,h'.get? e=some o∧o.cls=.type "StopIteration")->E (.ref e) {s with heap:=h'}):
  wpAny (model prog w) A (Builtin.«zip.__next__» ⟨[.ref z],[]⟩) Q E s:=by
 simp only [List.nodup_cons,List.mem_cons,List.not_mem_nil,or_false,not_or,List.nodup_nil,and_true,not_false_eq_true] at nd
 obtain ⟨⟨zTI,zTO,zi1,zi2,zi3⟩,⟨TITO,TIi1,TIi2,TIi3⟩,⟨TOi1,TOi2,TOi3⟩,⟨i12,i13⟩,i23⟩:=nd
 simp only [List.mem_cons,List.not_mem_nil,or_false,not_or] at n1 n2 n3
 obtain ⟨a1z,a1T,a1i,a1j,a1k⟩:=n1
 obtain ⟨a2z,a2T,a2i,a2j,a2k⟩:=n2
 obtain ⟨a3z,a3T,a3i,a3j,a3k⟩:=n3
 show wpAny _ _ (field (.ref z) 2>>=_) _ _ _
 refine wpAny_bind (wpAny_field hz rfl (x:=.bool false) rfl ?_)
 show wpAny _ _ (field (.ref z) 3>>=_) _ _ _
 refine wpAny_bind (wpAny_field hz rfl (x:=.ref TI) rfl ?_)
 refine wpAny_bind (wpAny_seqItems hTI rfl ?_)
 show wpAny _ _ (Builtin.SmallTypes.ownedTupleIsFree (.ref z)>>=_) _ _ _
 refine wpAny_bind ?_
 unfold Builtin.SmallTypes.ownedTupleIsFree
 refine wpAny_bind (wpAny_field hz rfl (x:=.none) rfl (wpAny_pure ?_))
 simp only [if_true]
 refine wpAny_bind (wpAny_rule ?_)
 refine wpAny_bind (wpAny_field hz rfl (x:=.ref TO) rfl ?_)
 refine wpAny_bind (wpAny_setField_rec hz (by simp) fun h₁ hz₁ hs₁=>?_)
 replace hz₁:IsZip h₁ z TI TO .ellipsis:=hz₁
 refine wpAny_bind ?_
 simp only [List.zipIdx_cons,List.zipIdx_nil,List.forIn_cons,List.forIn_nil]
 refine wpAny_bind (wpAny_bind (wpAny_onRaise ?_))
 show wpAny _ _ (Builtin.SmallTypes.nextOf (.ref i1)>>=_) _ _ _
 have hi1:=h1.at (h':=h₁) fun o e=>hs₁.extBut _ _ (Ne.symm zi1) e
 have hL1:=hl1.at (h':=h₁) fun o e=>hs₁.extBut _ _ a1z e
 cases hx:xs[k]? with
 |none=>
  refine wpAny_bind (cm hh hi1 hL1 hx fun h₂ e hs₂ he=>?_)
  obtain ⟨oe,hoe,hce⟩:=he
  have hz₂:IsZip h₂ z TI TO .ellipsis:=hs₂ _ _ zi1 hz₁
  have hez:e≠z:=fun x=>by subst x;rw [hz₂] at hoe;cases hoe;simp at hce
  refine wpAny_setField_rec hz₂ (by simp) fun h₃ _ hs₃=>hE h₃ e (fun c o hc x=>hs₃.extBut _ _ (ne3 hc (by simp)) (hs₂ _ _ (ne3 hc (by simp)) (hs₁.extBut _ _ (ne3 hc (by simp)) x))) ⟨oe,hs₃.extBut _ _ hez hoe,hce⟩
 |some x=>
  have hyu:ys[k]?=none∨us[k]?=none:=by rcases hend with h|h;rw [hx] at h;cases h;exact h
  refine wpAny_bind (bq hi1 hL1 hx fun h₂ h1₂ hs₂=>wpAny_pure ?_)
  have hTO₂:aq h₂ TO ts:=hs₂.extBut _ _ TOi1 (hs₁.extBut _ _ (Ne.symm zTO) hTO)
  refine wpAny_bind (wpAny_seqItems hTO₂ rfl ?_)
  refine wpAny_bind (a8 hTO₂ (by omega) fun h₃ hTO₃ hs₃=>?_)
  refine wpAny_bind (wpAny_letGo (wpAny_pure ?_))
  refine wpAny_bind (wpAny_bind (wpAny_onRaise ?_))
  show wpAny _ _ (Builtin.SmallTypes.nextOf (.ref i2)>>=_) _ _ _
  have hi2:=h2.at (h':=h₃) fun o e=>hs₃.extBut _ _ (Ne.symm TOi2) (hs₂.extBut _ _ (Ne.symm i12) (hs₁.extBut _ _ (Ne.symm zi2) e))
  have hL2:=hl2.at (h':=h₃) fun o e=>hs₃.extBut _ _ a2T (hs₂.extBut _ _ a2i (hs₁.extBut _ _ a2z e))
  cases hy:ys[k]? with
  |none=>
   refine wpAny_bind (cm hh hi2 hL2 hy fun h₄ e hs₄ he=>?_)
   obtain ⟨oe,hoe,hce⟩:=he
   have hz₄:IsZip h₄ z TI TO .ellipsis:=hs₄ _ _ zi2 (hs₃.extBut _ _ zTO (hs₂.extBut _ _ zi1 hz₁))
   have hez:e≠z:=fun x=>by subst x;rw [hz₄] at hoe;cases hoe;simp at hce
   refine wpAny_setField_rec hz₄ (by simp) fun h₅ _ hs₅=>hE h₅ e (fun c o hc x=>hs₅.extBut _ _ (ne3 hc (by simp)) (hs₄ _ _ (ne3 hc (by simp)) (hs₃.extBut _ _ (ne3 hc (by simp)) (hs₂.extBut _ _ (ne3 hc (by simp)) (hs₁.extBut _ _ (ne3 hc (by simp)) x))))) ⟨oe,hs₅.extBut _ _ hez hoe,hce⟩
  |some y=>
   have hu:us[k]?=none:=by rcases hyu with h|h;rw [hy] at h;cases h;exact h
   refine wpAny_bind (bq hi2 hL2 hy fun h₄ h2₄ hs₄=>wpAny_pure ?_)
   have hTO₄:=hs₄.extBut _ _ TOi2 hTO₃
   refine wpAny_bind (wpAny_seqItems hTO₄ rfl ?_)
   refine wpAny_bind (a8 hTO₄ (by simp;omega) fun h₅ hTO₅ hs₅=>?_)
   refine wpAny_bind (wpAny_letGo (wpAny_pure ?_))
   refine wpAny_bind (wpAny_bind (wpAny_onRaise ?_))
   show wpAny _ _ (Builtin.SmallTypes.nextOf (.ref i3)>>=_) _ _ _
   refine wpAny_bind (cm hh (h3.at fun o e=>hs₅.extBut _ _ (Ne.symm TOi3) (hs₄.extBut _ _ (Ne.symm i23) (hs₃.extBut _ _ (Ne.symm TOi3) (hs₂.extBut _ _ (Ne.symm i13) (hs₁.extBut _ _ (Ne.symm zi3) e)))))
    (hl3.at fun o e=>hs₅.extBut _ _ a3T (hs₄.extBut _ _ a3j (hs₃.extBut _ _ a3T (hs₂.extBut _ _ a3i (hs₁.extBut _ _ a3z e))))) hu fun h₆ e hs₆ he=>?_)
   obtain ⟨oe,hoe,hce⟩:=he
   have hz₆:IsZip h₆ z TI TO .ellipsis:=hs₆ _ _ zi3 (hs₅.extBut _ _ zTO (hs₄.extBut _ _ zi2 (hs₃.extBut _ _ zTO (hs₂.extBut _ _ zi1 hz₁))))
   have hez:e≠z:=fun x=>by subst x;rw [hz₆] at hoe;cases hoe;simp at hce
   refine wpAny_setField_rec hz₆ (by simp) fun h₇ _ hs₇=>hE h₇ e (fun c o hc x=>hs₇.extBut _ _ (ne3 hc (by simp)) (hs₆ _ _ (ne3 hc (by simp)) (hs₅.extBut _ _ (ne3 hc (by simp)) (hs₄.extBut _ _ (ne3 hc (by simp)) (hs₃.extBut _ _ (ne3 hc (by simp)) (hs₂.extBut _ _ (ne3 hc (by simp)) (hs₁.extBut _ _ (ne3 hc (by simp)) x))))))) ⟨oe,hs₇.extBut _ _ hez hoe,hce⟩
theorem d8 {z TI TO:Addr} {f0:Value} {Q:Option Value->Shared->Prop} (hz:IsZip s.heap z TI TO f0)
  (h:wpAny (model prog w) A.in1 (Builtin.«zip.__next__» ⟨[.ref z],[]⟩) (fun fin s'=>∃v,fin=.done (.ret v)∧Q (some v) s') (fun e s'=>∃a o,e=.ref a∧s'.heap.get? a=some o∧o.cls=.type "StopIteration"∧Q none s') s):
  wpAny (model prog w) A (pyNext (.ref z)) Q E s:=by
 have hT:s.TypeIs (.ref z) "zip":=⟨_,hz,rfl⟩
 unfold pyNext
 refine wpAny_bind (wpAny_attempt (wpAny_callSpecial?_slot (name:=Str.ofString "__next__") hT F.slot_zip_next
  (wpAny_call_entry F.slot_zip_next hT F.entry_zip_next (wpAny_mono h (fun fin s' hv=>?_) fun e s' he=>?_) (F.args_zip_next_1 _))))
 ·obtain ⟨v,rfl,q⟩:=hv
  exact ⟨v,rfl,wpAny_pure q⟩
 ·obtain ⟨a,o,rfl,ho,hc,q⟩:=he
  refine wpAny_bind (wpAny_isInstance (T:="StopIteration") (b:=true) ⟨o,ho,hc⟩ isSubtype_stop ?_)
  exact wpAny_pure q
noncomputable def bp (b:Bool) (a:Addr):Obj:={cls:=.type (match b with|true=>"tuple_iterator"|false=>"list_iterator"),data:=.fields #[.ref a,.int 0 0]}
theorem c5 {b:Bool} {a:Addr} {xs:Array Value} {Q:Value->Shared->Prop} (h:Ssq s.heap b a xs) (hQ:Q (.ref s.heap.objs.size) {s with heap:=s.heap.push (bp b a)}):wpAny (model prog w) A (pyIter (.ref a)) Q E s:=by
 cases b with
 |true=>exact wpAny_pyIter_tuple h hQ
 |false=>exact wpAny_pyIter_list h hQ
theorem Sit.new {h:Heap} (b:Bool) (a:Addr):Sit (h.push (bp b a)) b h.objs.size a 0:=by
 cases b with
 |true=>exact ⟨_,Heap.get?_push_size _ rfl,rfl,rfl⟩
 |false=>exact ⟨_,Heap.get?_push_size _ rfl,rfl,rfl⟩
end
theorem pO (b1 b2:Bool) (a1 a2:Addr) (xs ys:Array Value):
  Meets (Builtin.«zip.__new__» ⟨[.type "zip",.ref a1,.ref a2],[]⟩) (fun _ R s=>Ssq s.heap b1 a1 xs∧Ssq s.heap b2 a2 ys∧
   ∀h',aq h' (s.heap.objs.size+2) #[.ref s.heap.objs.size,.ref (s.heap.objs.size+1)]->aq h' (s.heap.objs.size+3) #[.none,.none]->IsZip h' (s.heap.objs.size+4) (s.heap.objs.size+2) (s.heap.objs.size+3) .none->
    Sit h' b1 s.heap.objs.size a1 0->Sit h' b2 (s.heap.objs.size+1) a2 0->
    (∀c o,s.heap.get? c=some o->h'.get? c=some o)->h'.objs.size=s.heap.objs.size+5->R (.ok (.ret (.ref (s.heap.objs.size+4)))) {s with heap:=h'}):=
 .of_wp fun prog w A R s h=>by
  obtain ⟨hp,g,d,tk,os⟩:=s;obtain ⟨hl1,hl2,h⟩:=h
  have hsub:=sub_zip
  have hL1:Ssq (Shared.heap ⟨hp,g,d,tk,os⟩) b1 a1 xs:=hl1
  have hL2:Ssq (Shared.heap ⟨hp.push (bp b1 a1),g,d,tk,os⟩) b2 a2 ys:=Ssq.at (h':=hp.push (bp b1 a1)) hl2 fun o e=>Heap.get?_push_of_some _ e
  wp_walk using c5 hL1,c5 hL2
  refine ⟨_,rfl,?_⟩
  dsimp only at h ⊢
  generalize e1:hp.push (bp b1 a1)=h1
  generalize e2:h1.push (bp b2 a2)=h2
  generalize e3:h2.push _=h3
  generalize e4:h3.push _=h4
  generalize e5:h4.push _=h5
  have z1:h1.objs.size=hp.objs.size+1:=e1▸Heap.size_push ..
  have z2:h2.objs.size=hp.objs.size+2:=by rw [←e2,Heap.size_push,z1]
  have z3:h3.objs.size=hp.objs.size+3:=by rw [←e3,Heap.size_push,z2]
  have z4:h4.objs.size=hp.objs.size+4:=by rw [←e4,Heap.size_push,z3]
  have z5:h5.objs.size=hp.objs.size+5:=by rw [←e5,Heap.size_push,z4]
  have k5:∀c o,h4.get? c=some o->h5.get? c=some o:=fun c o e=>e5▸Heap.get?_push_of_some _ e
  have k4:∀c o,h3.get? c=some o->h5.get? c=some o:=fun c o e=>k5 c o (e4▸Heap.get?_push_of_some _ e)
  have k3:∀c o,h2.get? c=some o->h5.get? c=some o:=fun c o e=>k4 c o (e3▸Heap.get?_push_of_some _ e)
  have k2:∀c o,h1.get? c=some o->h5.get? c=some o:=fun c o e=>k3 c o (e2▸Heap.get?_push_of_some _ e)
  have g3:=Heap.get?_push_size h2 (o:={cls:=.type "tuple",data:=.seq #[.ref hp.objs.size,.ref h1.objs.size]}) rfl
  have g4:=Heap.get?_push_size h3 (o:={cls:=.type "tuple",data:=.seq #[.none,.none]}) rfl
  have g5:=Heap.get?_push_size h4 (o:={cls:=.type "zip",data:=.fields #[.none,.bool false,.bool false,.ref h2.objs.size,.ref h3.objs.size]}) rfl
  have q3:h3.get? h2.objs.size=_:=(congrArg (fun h=>h.get? h2.objs.size) e3).symm.trans g3
  have q4:h4.get? h3.objs.size=_:=(congrArg (fun h=>h.get? h3.objs.size) e4).symm.trans g4
  have q5:h5.get? h4.objs.size=_:=(congrArg (fun h=>h.get? h4.objs.size) e5).symm.trans g5
  rw [z1,z2] at q3
  rw [z3] at q4
  rw [z2,z3,z4] at q5
  rw [z4]
  refine h h5 (k4 _ _ q3) (k5 _ _ q4) q5 (Sit.at (Sit.new (h:=hp) b1 a1) fun o e=>k2 _ _ (e1▸e)) ?_ (fun c o e=>k2 _ _ (e1▸Heap.get?_push_of_some _ e)) z5
  rw [←z1]
  exact Sit.at (Sit.new (h:=h1) b2 a2) fun o e=>k3 _ _ (e2▸e)
theorem o4 (b1 b2 b3:Bool) (a1 a2 a3:Addr) (xs ys us:Array Value):
  Meets (Builtin.«zip.__new__» ⟨[.type "zip",.ref a1,.ref a2,.ref a3],[]⟩) (fun _ R s=>Ssq s.heap b1 a1 xs∧Ssq s.heap b2 a2 ys∧Ssq s.heap b3 a3 us∧
   ∀h',aq h' (s.heap.objs.size+3) #[.ref s.heap.objs.size,.ref (s.heap.objs.size+1),.ref (s.heap.objs.size+2)]->aq h' (s.heap.objs.size+4) #[.none,.none,.none]->
    IsZip h' (s.heap.objs.size+5) (s.heap.objs.size+3) (s.heap.objs.size+4) .none->
    Sit h' b1 s.heap.objs.size a1 0->Sit h' b2 (s.heap.objs.size+1) a2 0->Sit h' b3 (s.heap.objs.size+2) a3 0->
    (∀c o,s.heap.get? c=some o->h'.get? c=some o)->h'.objs.size=s.heap.objs.size+6->R (.ok (.ret (.ref (s.heap.objs.size+5)))) {s with heap:=h'}):=
 .of_wp fun prog w A R s h=>by
  obtain ⟨hp,g,d,tk,os⟩:=s;obtain ⟨hl1,hl2,hl3,h⟩:=h
  have hsub:=sub_zip
  have hL1:Ssq (Shared.heap ⟨hp,g,d,tk,os⟩) b1 a1 xs:=hl1
  have hL2:Ssq (Shared.heap ⟨hp.push (bp b1 a1),g,d,tk,os⟩) b2 a2 ys:=Ssq.at (h':=hp.push (bp b1 a1)) hl2 fun o e=>Heap.get?_push_of_some _ e
  have hL3:Ssq (Shared.heap ⟨(hp.push (bp b1 a1)).push (bp b2 a2),g,d,tk,os⟩) b3 a3 us:=Ssq.at (h':=(hp.push (bp b1 a1)).push (bp b2 a2)) hl3 fun o e=>Heap.get?_push_of_some _ (Heap.get?_push_of_some _ e)
  wp_walk using c5 hL1,c5 hL2,c5 hL3
  refine ⟨_,rfl,?_⟩
  dsimp only at h ⊢
  generalize e1:hp.push (bp b1 a1)=h1
  generalize e2:h1.push (bp b2 a2)=h2
  generalize e2b:h2.push (bp b3 a3)=h2b
  generalize e3:h2b.push _=h3
  generalize e4:h3.push _=h4
  generalize e5:h4.push _=h5
  have z1:h1.objs.size=hp.objs.size+1:=e1▸Heap.size_push ..
  have z2:h2.objs.size=hp.objs.size+2:=by rw [←e2,Heap.size_push,z1]
  have z2b:h2b.objs.size=hp.objs.size+3:=by rw [←e2b,Heap.size_push,z2]
  have z3:h3.objs.size=hp.objs.size+4:=by rw [←e3,Heap.size_push,z2b]
  have z4:h4.objs.size=hp.objs.size+5:=by rw [←e4,Heap.size_push,z3]
  have z5:h5.objs.size=hp.objs.size+6:=by rw [←e5,Heap.size_push,z4]
  have k5:∀c o,h4.get? c=some o->h5.get? c=some o:=fun c o e=>e5▸Heap.get?_push_of_some _ e
  have k4:∀c o,h3.get? c=some o->h5.get? c=some o:=fun c o e=>k5 c o (e4▸Heap.get?_push_of_some _ e)
  have k3:∀c o,h2b.get? c=some o->h5.get? c=some o:=fun c o e=>k4 c o (e3▸Heap.get?_push_of_some _ e)
  have k2b:∀c o,h2.get? c=some o->h5.get? c=some o:=fun c o e=>k3 c o (e2b▸Heap.get?_push_of_some _ e)
  have k2:∀c o,h1.get? c=some o->h5.get? c=some o:=fun c o e=>k2b c o (e2▸Heap.get?_push_of_some _ e)
  have g3:=Heap.get?_push_size h2b (o:={cls:=.type "tuple",data:=.seq #[.ref hp.objs.size,.ref h1.objs.size,.ref h2.objs.size]}) rfl
  have g4:=Heap.get?_push_size h3 (o:={cls:=.type "tuple",data:=.seq #[.none,.none,.none]}) rfl
  have g5:=Heap.get?_push_size h4 (o:={cls:=.type "zip",data:=.fields #[.none,.bool false,.bool false,.ref h2b.objs.size,.ref h3.objs.size]}) rfl
  have q3:h3.get? h2b.objs.size=_:=(congrArg (fun h=>h.get? h2b.objs.size) e3).symm.trans g3
  have q4:h4.get? h3.objs.size=_:=(congrArg (fun h=>h.get? h3.objs.size) e4).symm.trans g4
  have q5:h5.get? h4.objs.size=_:=(congrArg (fun h=>h.get? h4.objs.size) e5).symm.trans g5
  rw [z1,z2,z2b] at q3
  rw [z3] at q4
  rw [z2b,z3,z4] at q5
  rw [z4]
  refine h h5 (k4 _ _ q3) (k5 _ _ q4) q5 (Sit.at (Sit.new (h:=hp) b1 a1) fun o e=>k2 _ _ (e1▸e)) ?_ ?_ (fun c o e=>k2 _ _ (e1▸Heap.get?_push_of_some _ e)) z5
  ·rw [←z1]
   exact Sit.at (Sit.new (h:=h1) b2 a2) fun o e=>k2b _ _ (e2▸e)
  ·rw [←z2]
   exact Sit.at (Sit.new (h:=h2) b3 a3) fun o e=>k3 _ _ (e2b▸e)
theorem jN (a b c:Value):checkTypeCall "zip" ⟨[a,b,c],[]⟩=pure ():=by kernel_rfl
theorem kJ (a b c:Value):checkBuiltinCall "zip.__new__" ⟨[.type "zip",a,b,c],[]⟩=pure ():=by kernel_rfl
theorem gq (a b c d:Value):argsOk "object.__init__" ⟨[a,b,c,d],[]⟩:=by
 unfold argsOk;rw [signature?_of (id:="object.__init__") (n:=['_','_','t','i','n','i','_','_']) (o:=['t','c','e','j','b','o']) (by kernel_rfl) F.owner_object];kernel_rfl
section
variable {prog:Program} {w:World} {A:Around} {E:Value->Shared->Prop} {s:Shared}
theorem pw {b1 b2:Bool} {a1 a2:Addr} {xs ys:Array Value} {Q:Value->Shared->Prop} (hl1:Ssq s.heap b1 a1 xs) (hl2:Ssq s.heap b2 a2 ys)
  (h:∀h',aq h' (s.heap.objs.size+2) #[.ref s.heap.objs.size,.ref (s.heap.objs.size+1)]->aq h' (s.heap.objs.size+3) #[.none,.none]->IsZip h' (s.heap.objs.size+4) (s.heap.objs.size+2) (s.heap.objs.size+3) .none->
    Sit h' b1 s.heap.objs.size a1 0->Sit h' b2 (s.heap.objs.size+1) a2 0->
    (∀c o,s.heap.get? c=some o->h'.get? c=some o)->h'.objs.size=s.heap.objs.size+5->Q (.ref (s.heap.objs.size+4)) {s with heap:=h'}):
  wpAny (model prog w) A (call (.type "zip") [.ref a1,.ref a2]) Q E s:=by
 refine callType_new F.called_zip (by decide) (F.typeCall_zip_2 _ _) (F.newCall_zip_2 _ _) (fun obj=>F.args_object_init_3 obj _ _) F.entry_zip_new
  (pO b1 b2 a1 a2 xs ys) ⟨hl1,hl2,fun h' x1 x2 x3 x4 x5 x6 x7=>?_⟩
 exact ⟨⟨_,x3,rfl⟩,h h' x1 x2 x3 x4 x5 x6 x7⟩
theorem pf {b1 b2 b3:Bool} {a1 a2 a3:Addr} {xs ys us:Array Value} {Q:Value->Shared->Prop} (hl1:Ssq s.heap b1 a1 xs) (hl2:Ssq s.heap b2 a2 ys) (hl3:Ssq s.heap b3 a3 us)
  (h:∀h',aq h' (s.heap.objs.size+3) #[.ref s.heap.objs.size,.ref (s.heap.objs.size+1),.ref (s.heap.objs.size+2)]->aq h' (s.heap.objs.size+4) #[.none,.none,.none]->
    IsZip h' (s.heap.objs.size+5) (s.heap.objs.size+3) (s.heap.objs.size+4) .none->
    Sit h' b1 s.heap.objs.size a1 0->Sit h' b2 (s.heap.objs.size+1) a2 0->Sit h' b3 (s.heap.objs.size+2) a3 0->
    (∀c o,s.heap.get? c=some o->h'.get? c=some o)->h'.objs.size=s.heap.objs.size+6->Q (.ref (s.heap.objs.size+5)) {s with heap:=h'}):
  wpAny (model prog w) A (call (.type "zip") [.ref a1,.ref a2,.ref a3]) Q E s:=by
 refine callType_new F.called_zip (by decide) (jN _ _ _) (kJ _ _ _) (fun obj=>gq obj _ _ _) F.entry_zip_new
  (o4 b1 b2 b3 a1 a2 a3 xs ys us) ⟨hl1,hl2,hl3,fun h' x1 x2 x3 x4 x5 x6 x7 x8=>?_⟩
 exact ⟨⟨_,x3,rfl⟩,h h' x1 x2 x3 x4 x5 x6 x7 x8⟩
end
end CT
namespace CT
open PySem PySem.Spec L2
open PyProof.Rows hiding St
noncomputable def SqB (K:PySem.W.Frag) (H:Hp) (b:Bool) (a:Addr) (xs:List V):Prop:=match b with|true=>SqT K H a xs|false=>SqL K H a xs
section
variable {X:Cx} {pins:List (Addr×Obj)} {σ:St} {H:Hp} {s:Shared} {a:Addr} {xs ys:List V} {b:Bool}
theorem Inv.sqb (I:Inv X pins σ H s) (h:SqB X.K H b a xs):∃its:List Value,Vals xs its∧Ssq s.heap b a its.toArray∧xs.length<=sizeLine:=by
 cases b with
 |true=>obtain ⟨its,r,p,z⟩:=I.tuple h;exact ⟨its,r,p,z⟩
 |false=>obtain ⟨its,r,p,z⟩:=I.list h;exact ⟨its,r,p.isList,z⟩
theorem Inv.ek (I:Inv X pins σ H s) (h:SqB X.K H b a xs) (h':SqB X.K H b a ys):xs=ys:=by
 cases b with
 |true=>exact I.j_ h h'
 |false=>exact I.ma h h'
theorem Inv.cT {c:Addr} (I:Inv X pins σ H s) (h:SqB X.K H b a xs) (f:a9 X pins H c):a≠c:=by
 have fromK:∀o,X.K.lookup a=some o->a≠c:=fun o hk z=>by
  have e:=I.ok.mod.kin a o hk
  rcases f.2.2.2.1 with q|q
  ·exact I.ok.fI a o e (z▸q)
  ·exact absurd (Nat.lt_of_lt_of_le (Heap.lt_size e) (Nat.le_trans I.ok.bsz (z▸q))) (Nat.lt_irrefl _)
 have fromR:∀u,Rd H a u->a≠c:=fun u h=>by
  rcases h with h|⟨_,h⟩<;>exact aj h f.1
 cases b with
 |true=>
  rcases h with h|⟨o,_,_,hk,_⟩
  ·exact fromR _ h
  ·exact fromK o hk
 |false=>
  rcases h with h|⟨o,_,_,hk,_⟩
  ·exact fromR _ h
  ·exact fromK o hk
theorem Inv.ei {h':Heap} {t':Nat} {ch:List Addr} (I:Inv X pins σ H s) (hf:∀b∈ch,a9 X pins H b) (k:∀b o,b∉ch->s.heap.get? b=some o->h'.get? b=some o):Inv X pins σ H {s with heap:=h',toks:=t'}:=by
 have nit:∀b u,H b=some u->b∉ch:=fun b u e z=>by have:=(hf b z).1;rw [e] at this;cases this
 refine I.step (g':=s.gens) (d':=s.drawn) (ch:=ch) (fun b hb=>?_) (fun b o _ _ hc e _=>k b o hc e) (fun b o _ _ hc e _=>⟨o.slots,k b o hc e⟩) (fun _ _ _ _ n=>n)
  (fun b o hc e=>⟨o,k b o hc e⟩) (fun _ _ e=>e) (fun _ _ _ e=>e) (fun b ps e=>⟨#[],by rw [e];simp⟩) (fun m hm=>?_) (fun b u e=>?_) I.bare
 ·obtain ⟨f0,f1,f2,f3,f4,f5⟩:=hf b hb
  exact ⟨f3,f1,f4,f5⟩
 ·obtain ⟨o,es,ep,ho,r⟩:=hm
  exact ⟨o,es,ep,k _ o (fun z=>(hf _ z).2.1 rfl) ho,r⟩
 ·refine (I.hok b u e).eO (fun c v hc q=>k c v ?_ q) (fun _ q=>q) fun _ _ q=>q
  rcases hc with z|z
  ·rw [z];exact nit b u e
  ·exact nit c _ z
theorem Inv.adopt {T:Addr} {o:HO} (I:Inv X pins σ H s) (f:a9 X pins H T) (new:aT X.prog X.w (upd H T o) s.heap T o):Inv X pins σ (upd H T o) s:=by
 have neT:∀{b:Addr} {u:HO},H b=some u->b≠T:=fun e=>aj e f.1
 have r:Inv X pins σ (upd H T o) {s with heap:=s.heap,gens:=s.gens,drawn:=s.drawn,toks:=s.toks}:=
  I.step (ch:=[T]) (fun b hb=>by
   have e:b=T:=by simpa using hb
   subst e
   obtain ⟨f0,f1,f2,f3,f4,f5⟩:=f
   exact ⟨f3,f1,f4,f5⟩) (fun b o _ _ _ e _=>e) (fun b o _ _ _ e _=>⟨o.slots,e⟩) (fun b o hc e n=>by rw [ag (fun z=>hc (by simp [z]))];exact n)
   (fun b o _ e=>⟨o,e⟩) (fun b xs e=>by rw [ag (neT e)];exact e) (fun b o u e=>by rw [ag (neT e)];exact e) (fun b ps e=>⟨#[],by rw [ag (neT e),e];simp⟩) (fun m hm=>hm) (fun b u e=>by
    by_cases hb:b=T
    ·subst hb;rw [ao] at e;cases e;exact new
    ·rw [ag hb] at e
     exact (I.hok b u e).eO (fun _ _ _ q=>q) (fun c q=>by rw [ag (neT q)];exact q) fun c xs q=>by rw [ag (neT q)];exact q) I.bare
 exact r
end
noncomputable def yN (K:PySem.W.Frag) (b1 b2:Bool) (a1 a2:Addr):It:=
 ⟨fun i H=>∃xs ys x y,SqB K H b1 a1 xs∧SqB K H b2 a2 ys∧xs[i]?=some x∧ys[i]?=some y,
  fun i H v H'=>∃T x y,H T=none∧v=.ref T∧H'=upd H T (.tup [x,y])∧(∀xs,SqB K H b1 a1 xs->xs[i]?=some x)∧(∀ys,SqB K H b2 a2 ys->ys[i]?=some y),
  fun i H=>∃xs ys,SqB K H b1 a1 xs∧SqB K H b2 a2 ys∧(xs.length<=i∨ys.length<=i)⟩
noncomputable def Am (K:PySem.W.Frag) (b1 b2 b3:Bool) (a1 a2 a3:Addr):It:=
 ⟨fun i H=>∃xs ys us x y u,SqB K H b1 a1 xs∧SqB K H b2 a2 ys∧SqB K H b3 a3 us∧xs[i]?=some x∧ys[i]?=some y∧us[i]?=some u,
  fun i H v H'=>∃T x y u,H T=none∧v=.ref T∧H'=upd H T (.tup [x,y,u])∧(∀xs,SqB K H b1 a1 xs->xs[i]?=some x)∧(∀ys,SqB K H b2 a2 ys->ys[i]?=some y)∧(∀us,SqB K H b3 a3 us->us[i]?=some u),
  fun i H=>∃xs ys us,SqB K H b1 a1 xs∧SqB K H b2 a2 ys∧SqB K H b3 a3 us∧(xs.length<=i∨ys.length<=i∨us.length<=i)⟩
theorem jA {xs:List V} {its:List Value} {i:Nat} {x:V} (r:Vals xs its) (h:xs[i]?=some x):∃u,its.toArray[i]?=some u∧RelV x u:=by
 obtain ⟨u,h1,h2⟩:=r.get h
 exact ⟨u,by simpa using h1,h2⟩
theorem jg {xs:List V} {its:List Value} {i:Nat} (r:Vals xs its) (h:xs.length<=i):its.toArray[i]?=none:=by
 have:=r.length
 simp
 omega
theorem jx {α:Type} {a b c d e x:α} (h:x∈[a,c,d,e]):x∈[a,b,c,d,e]:=by
 simp only [List.mem_cons,List.not_mem_nil,or_false] at h ⊢
 rcases h with h|h|h|h<;>simp [h]
theorem qZ {P:Program} {w:World} {K:PySem.W.Frag} {elts:List Expr} {x1} {pos:Pos} {z TI TO i1 i2 a1 a2:Addr} {b1 b2:Bool} (nd:[z,TI,TO,i1,i2].Nodup):
  Turn P w K (.Tuple elts x1 pos) (yN K b1 b2 a1 a2) [z,TI,TO,i1,i2] z
   (fun i h=>IsZip h z TI TO .none∧aq h TI #[.ref i1,.ref i2]∧(∃ts,aq h TO ts∧ts.size=2)∧Sit h b1 i1 a1 i∧Sit h b2 i2 a2 i) where
 mem:=by simp
 obj:=fun i h ⟨q1,q2,⟨ts,q3,_⟩,q4,q5⟩ b hb=>by
  simp only [List.mem_cons,List.not_mem_nil,or_false] at hb
  rcases hb with rfl|rfl|rfl|rfl|rfl
  ·exact ⟨_,q1,fun v e=>by have e':Data.fields _=Data.cell v:=e;cases e'⟩
  ·exact ⟨_,q2,fun v e=>by have e':Data.seq _ _=Data.cell v:=e;cases e'⟩
  ·exact ⟨_,q3,fun v e=>by have e':Data.seq _ _=Data.cell v:=e;cases e'⟩
  ·obtain ⟨o,n,vs,e,_,d⟩:=q4.rec
   exact ⟨o,e,fun v e=>by rw [d] at e;cases e⟩
  ·obtain ⟨o,n,vs,e,_,d⟩:=q5.rec
   exact ⟨o,e,fun v e=>by rw [d] at e;cases e⟩
 keep:=fun i h h' ⟨q1,q2,⟨ts,q3,q3'⟩,q4,q5⟩ k=>⟨k z (by simp) _ q1,k TI (by simp) _ q2,⟨ts,k TO (by simp) _ q3,q3'⟩,q4.at fun o e=>k i1 (by simp) o e,q5.at fun o e=>k i2 (by simp) o e⟩
 item:=by
  intro X hP hw hK hc i pins s σ H E I hf ⟨q1,q2,⟨ts,q3,q3'⟩,q4,q5⟩ hg
  subst hP hw hK
  obtain ⟨xs,ys,x,y,hx,hy,ex,ey⟩:=hg
  obtain ⟨its,r1,p1,_⟩:=CT.Inv.sqb I hx
  obtain ⟨its2,r2,p2,_⟩:=CT.Inv.sqb I hy
  obtain ⟨u,eu,ru⟩:=jA r1 ex
  obtain ⟨v,ev,rv⟩:=jA r2 ey
  have n1:a1∉[z,TO,i1,i2]:=fun m=>CT.Inv.cT I hx (hf a1 (jx m)) rfl
  have n2:a2∉[z,TO,i1,i2]:=fun m=>CT.Inv.cT I hy (hf a2 (jx m)) rfl
  refine d8 q1 (qC nd n1 n2 q1 q2 q3 q3' q4 q5 p1 p2 eu ev fun h' z1 z2 z3 z4 z5 z6 kk=>?_)
  refine ⟨_,rfl,wpAny_letOwnedTupleGo_zip z1 fun h2 z1' sb=>?_⟩
  have nT:∀b∈[z,TI,TO,i1,i2],b≠s.heap.objs.size:=fun b hb=>by
   simp only [List.mem_cons,List.not_mem_nil,or_false] at hb
   rcases hb with rfl|rfl|rfl|rfl|rfl
   ·exact Nat.ne_of_lt (Heap.lt_size q1)
   ·exact Nat.ne_of_lt (Heap.lt_size q2)
   ·exact Nat.ne_of_lt (Heap.lt_size q3)
   ·obtain ⟨o,n,vs,e,_,d⟩:=q4.rec;exact Nat.ne_of_lt (Heap.lt_size e)
   ·obtain ⟨o,n,vs,e,_,d⟩:=q5.rec;exact Nat.ne_of_lt (Heap.lt_size e)
  have nd':=nd
  simp only [List.nodup_cons,List.mem_cons,List.not_mem_nil,or_false,not_or,List.nodup_nil,and_true,not_false_eq_true] at nd'
  obtain ⟨⟨zTI,zTO,zi1,zi2⟩,⟨TITO,TIi1,TIi2⟩,⟨TOi1,TOi2⟩,i12⟩:=nd'
  have k2:∀c o,c∉[z,TO,i1,i2]->s.heap.get? c=some o->h2.get? c=some o:=fun c o hc e=>sb.extBut c o (fun q=>hc (by simp [q])) (kk c o hc e)
  have I1:Inv X pins σ H {s with heap:=h2}:=CT.Inv.ei (t':=s.toks) (ch:=[z,TO,i1,i2]) I (fun b hb=>hf b (jx hb)) k2
  have hT:h2.get? s.heap.objs.size=some {cls:=.type "tuple",data:=.seq #[u,v]}:=sb.extBut _ _ (Ne.symm (nT z (by simp))) z5
  have I2:Inv X pins σ (upd H s.heap.objs.size (.tup [x,y])) {s with heap:=h2}:=CT.Inv.adopt I1 (I.ft (Nat.le_refl _) (I.hok.fresh (Nat.le_refl _)))
   ⟨by show 2<=sizeLine;decide,[u,v],.cons ru (.cons rv .nil),_,hT,rfl,_,rfl⟩
  refine ⟨.ref s.heap.objs.size,_,I2,rfl,⟨_,x,y,I.hok.fresh (Nat.le_refl _),rfl,rfl,fun xs' h'=>by rw [CT.Inv.ek I h' hx];exact ex,fun ys' h'=>by rw [CT.Inv.ek I h' hy];exact ey⟩,?_,fun b hb=>?_⟩
  ·refine ⟨z1',k2 _ _ (by simp [Ne.symm zTI,TITO,TIi1,TIi2]) q2,⟨#[u,v],sb.extBut _ _ (Ne.symm zTO) z2,rfl⟩,z3.at fun o e=>sb.extBut _ _ (Ne.symm zi1) e,z4.at fun o e=>sb.extBut _ _ (Ne.symm zi2) e⟩
  ·rw [ag (nT b hb)];exact (hf b hb).1
 done:=by
  intro X hP hw hK hc i pins s σ H E I hf ⟨q1,q2,⟨ts,q3,q3'⟩,q4,q5⟩ hg
  subst hP hw hK
  obtain ⟨xs,ys,hx,hy,he⟩:=hg
  obtain ⟨its,r1,p1,_⟩:=CT.Inv.sqb I hx
  obtain ⟨its2,r2,p2,_⟩:=CT.Inv.sqb I hy
  have n1:a1∉[z,TO,i1,i2]:=fun m=>CT.Inv.cT I hx (hf a1 (jx m)) rfl
  have n2:a2∉[z,TO,i1,i2]:=fun m=>CT.Inv.cT I hy (hf a2 (jx m)) rfl
  refine d8 q1 (tF (I.ok.hd hc) nd n1 n2 q1 q2 q3 q3' q4 q5 p1 p2 (he.imp (jg r1) (jg r2)) fun h' e kk ⟨o,ho,hcls⟩=>⟨e,o,rfl,ho,hcls,rfl,?_⟩)
  exact CT.Inv.ei (t':=s.toks) (ch:=[z,TO,i1,i2]) I (fun b hb=>hf b (jx hb)) kk
 self:=fun _ _ _ _ _ ⟨q1,_⟩ h=>wpAny_pyIter_zip q1 h
noncomputable def A5 (K:PySem.W.Frag) (t:TA):TI:=fun σ H R=>t σ H fun vs H1=>∃b1 b2 a1 a2 xs ys,vs=[.ref a1,.ref a2]∧SqB K H1 b1 a1 xs∧SqB K H1 b2 a2 ys∧R (yN K b1 b2 a1 a2) H1
noncomputable def AD (K:PySem.W.Frag) (t:TA):TI:=fun σ H R=>t σ H fun vs H1=>∃b1 b2 b3 a1 a2 a3 xs ys us,vs=[.ref a1,.ref a2,.ref a3]∧SqB K H1 b1 a1 xs∧SqB K H1 b2 a2 ys∧SqB K H1 b3 a3 us∧R (Am K b1 b2 b3 a1 a2 a3) H1
section
variable {X:Cx} {elts:List Expr} {x1:Nat} {tpos:Pos}
theorem vJ {a b:Expr} {ta:TA} {k} {p pos:Pos} (hg:Gl X "zip") (hm:X.mg "zip"=none) (ha:PA X [a,b] ta) (hs:starEach [a,b] X.env=[(false,eval a X.env),(false,eval b X.env)]:=by rfl) (hs2:starEach [b] X.env=[(false,eval b X.env)]:=by rfl):
  PI X (.Tuple elts k tpos) (.Call (.Name "zip" p) [a,b] [] pos) (A5 X.K ta):=by
 intro pins s σ H R I h
 refine Call_ (dR I hg hm boot_zip (PyProof.Rows.callWith_type1 (thn (ha pos pins s σ H _ I h) fun us s1 ⟨vs,H1,I1,r1,q1⟩=>?_) (by rw [hs,hs2]) (by rw [hs2];rfl)))
 obtain ⟨b1,b2,a1,a2,xs,ys,e,hx,hy,q⟩:=q1
 subst e
 cases r1 with
 |cons r rr=>
  cases rr with
  |cons r' rr=>
   cases rr
   cases r
   cases r'
   obtain ⟨its,rv1,p1,_⟩:=CT.Inv.sqb I1 hx
   obtain ⟨its2,rv2,p2,_⟩:=CT.Inv.sqb I1 hy
   refine pw p1 p2 fun h' x1 x2 x3 x4 x5 x6 x7=>?_
   refine wpAny_pyIter_zip x3 ?_
   refine ⟨_,_,_,_,H1,rfl,I1.kept (t':=s1.toks) x6,qZ (TI:=s1.heap.objs.size+2) (TO:=s1.heap.objs.size+3) (i1:=s1.heap.objs.size) (i2:=s1.heap.objs.size+1) (by simp),⟨x3,x1,⟨_,x2,rfl⟩,x4,x5⟩,fun b hb=>?_,q⟩
   have hle:s1.heap.objs.size<=b:=by
    simp only [List.mem_cons,List.not_mem_nil,or_false] at hb
    rcases hb with rfl|rfl|rfl|rfl|rfl<;>omega
   exact I1.ft hle (I1.hok.fresh hle)
end
end CT
namespace CT
open PySem PySem.Spec L2
open PyProof.Rows hiding St
noncomputable def KP:List (PK×Addr×V)->List (PK×Addr×Value)->Prop:=Paired fun p q=>p.1=q.1∧p.2.1=q.2.1∧RelV p.2.2 q.2.2
noncomputable def Cz (h:Heap) (d:Addr) (xs:List (PK×Addr×Value)) (ep:Nat):Prop:=
 ∃o es,h.get? d=some o∧o.ExactDict∧o.data=.dict es ep∧es.toList=xs.map (fun x=>⟨x.1.hs,.ref x.2.1,x.2.2⟩)∧(xs.map (·.1)).Nodup
noncomputable def PD (a:Addr) (ep:Nat) (kvs:List (PK×Addr×V)):HO:=.ext fun h=>kvs.length<=sizeLine∧(a==sysModules)=false∧∃xs,KP kvs xs∧Cz h a xs ep
section
variable {P:Program} {w:World} {H:Hp} {h:Heap} {a:Addr} {ep:Nat} {kvs:List (PK×Addr×V)}
theorem AH (ok:HOk P w H h) (e:H a=some (PD a ep kvs)):kvs.length<=sizeLine∧(a==sysModules)=false∧∃xs,KP kvs xs∧cF (lI P w) h a xs ep:=(show aT P w H h a (PD a ep kvs) from ok a _ e).1
theorem yP {xs:List (PK×Addr×Value)} (z:kvs.length<=sizeLine) (hd:(a==sysModules)=false) (k:KP kvs xs) (r:cF (lI P w) h a xs ep):aT P w H h a (PD a ep kvs):=
 ⟨⟨z,hd,xs,k,r⟩,let ⟨o,_,e,_⟩:=r;⟨o,e⟩,fun h1 h2 ⟨z,hd,xs,k,r⟩ kk=>⟨z,hd,xs,k,cF.keep (knd:=lI P w) r kk⟩⟩
end
section
variable {X:Cx} {tg o i e value:Expr} {pos pos' apos cpos:Pos} {td ty tv:TE}
noncomputable def A3:TE:=fun _ H Q=>∀p,H p=none->Q (.ref p) (upd H p (PD p 0 []))
theorem w5:PE X (.Dict [] [] pos) A3:=fun pins s σ H Q I h=>
 wpAny_Dict_empty ⟨.ref s.heap.objs.size,_,I.laid (a:=s.heap.objs.size) (o:=PD s.heap.objs.size 0 []) (t':=s.toks) (fun _ _ q=>Heap.get?_push_of_some _ q) (Nat.le_refl _)
  (yP (Nat.zero_le _) (beq_eq_false_iff_ne.mpr (Ne.symm (Nat.ne_of_lt I.big))) (xs:=[]) .nil (cF.new s.heap)),rfl,h _ (I.hok.fresh (Nat.le_refl _))⟩
end
end CT
namespace CT
open PySem PySem.Spec L2
open PyProof.Rows hiding St
inductive D where
 |non|bl (b:Bool)|int (i:Int)|str (x:Str)|tup (xs:List D)|lst (xs:List D)|ins (C:Addr) (fs:List (Str×D))|exc (C:Addr) (fs:List (Str×D))
 |ty (n:String)|cl (C:Addr)
 |dct (kvs:List (D×D))|pdc (es:List (PK×D))
mutual
noncomputable def PK.d:PK->D
 |.i n=>.int n
 |.t l=>.tup (PK.dL l)
noncomputable def PK.dL:List PK->List D
 |[]=>[]
 |k::ks=>PK.d k::PK.dL ks
end
noncomputable def BP:Key->D
 |.inl i=>.int i
 |.inr x=>.str x
noncomputable abbrev Ad:=Addr->Prop
noncomputable def SqK (K:PySem.W.Frag) (a:Addr) (xs:List V):Prop:=
 ∃(o:Obj) (its:Array Value) (n:Nat),K.lookup a=some o∧o.cls=.type "list"∧o.dict=none∧o.data=.seq its n∧its.size<=sizeLine∧Vals xs its.toList
mutual
inductive Rds (K:PySem.W.Frag) (H:Hp) (S:Ad):D->V->Prop
 |non:Rds K H S .non .non
 |bl (b:Bool):Rds K H S (.bl b) (.bl b)
 |int (i:Int):Rds K H S (.int i) (.int i)
 |str (x:Str):Rds K H S (.str x) (.str x)
 |ty (n:String):Rds K H S (.ty n) (.ty n)
 |cl (C:Addr):Rds K H S (.cl C) (.ref C)
 |tup {a:Addr} {vs:List V} {xs:List D}:H a=some (.tup vs)->¬S a->ae K H S xs vs->Rds K H S (.tup xs) (.ref a)
 |lst {a:Addr} {vs:List V} {xs:List D}:Rd H a (.lst vs)->¬S a->ae K H S xs vs->Rds K H S (.lst xs) (.ref a)
 |lstK {a:Addr} {vs:List V} {xs:List D}:SqK K a vs->ae K H S xs vs->Rds K H S (.lst xs) (.ref a)
 |ins {a C dx:Addr} {fs:List (Str×D)} {gs:List (Str×V)}:H a=some (.ins C dx gs)->¬S a->aG K H S fs gs->Rds K H S (.ins C fs) (.ref a)
 |gf {fr:Bool} {a C:Addr}:H a=some (aD fr a C none)->¬S a->Rds K H S (.exc C []) (.ref a)
 |exc {fr:Bool} {a C dx:Addr} {fs:List (Str×D)} {gs:List (Str×V)}:H a=some (aD fr a C (some dx))->H dx=some (dB dx gs)->¬S a->¬S dx->aG K H S fs gs->Rds K H S (.exc C fs) (.ref a)
 |dK {a:Addr} {kvs:List (Key×V)} {es:List (D×D)}:H a=some (.dK kvs)->¬S a->es.map (·.1)=kvs.map (fun p=>BP p.1)->ae K H S (es.map (·.2)) (kvs.map (·.2))->Rds K H S (.dct es) (.ref a)
 |dP {a:Addr} {ep:Nat} {kvs:List (PK×Addr×V)} {es:List (PK×D)}:H a=some (PD a ep kvs)->¬S a->bI K H S es kvs->Rds K H S (.pdc es) (.ref a)
inductive ae (K:PySem.W.Frag) (H:Hp) (S:Ad):List D->List V->Prop
 |nil:ae K H S [] []
 |cons {d:D} {v:V} {ds:List D} {vs:List V}:Rds K H S d v->ae K H S ds vs->ae K H S (d::ds) (v::vs)
inductive bI (K:PySem.W.Frag) (H:Hp) (S:Ad):List (PK×D)->List (PK×Addr×V)->Prop
 |nil:bI K H S [] []
 |cons {k:PK} {a:Addr} {d:D} {v:V} {ds:List (PK×D)} {vs:List (PK×Addr×V)}:k.dp<=8->Rds K H S (PK.d k) (.ref a)->Rds K H S d v->bI K H S ds vs->bI K H S ((k,d)::ds) ((k,a,v)::vs)
inductive aG (K:PySem.W.Frag) (H:Hp) (S:Ad):List (Str×D)->List (Str×V)->Prop
 |nil:aG K H S [] []
 |cons {n:Str} {d:D} {v:V} {ds:List (Str×D)} {vs:List (Str×V)}:Rds K H S d v->aG K H S ds vs->aG K H S ((n,d)::ds) ((n,v)::vs)
end
noncomputable def Ext (S:Ad) (H H':Hp):Prop:=∀a o,¬S a->H a=some o->H' a=some o
noncomputable abbrev no:Ad:=fun _=>False
noncomputable abbrev aF (H H':Hp):Prop:=Ext no H H'
theorem Ext.refl {S:Ad} {H:Hp}:Ext S H H:=fun _ _ _ e=>e
theorem Ext.trans {S:Ad} {H H1 H2:Hp} (a:Ext S H H1) (b:Ext S H1 H2):Ext S H H2:=fun c o n e=>b c o n (a c o n e)
theorem Ext.to {H H':Hp} (e:aF H H') (S:Ad):Ext S H H':=fun a o _ h=>e a o (fun z=>z) h
theorem Ext.new {H:Hp} {p:Addr} {o:HO} (hp:H p=none):aF H (upd H p o):=fun a u _ e=>by rw [ag (aj e hp)];exact e
theorem Ext.set {H:Hp} {S:Ad} {p:Addr} {o:HO} (hp:S p):Ext S H (upd H p o):=fun a u n e=>by rw [ag (fun z:a=p=>n (by rw [z];exact hp))];exact e
theorem Ext.ne {H H':Hp} (e:aF H H') {a:Addr} (h:H a≠none):H' a≠none:=by
 cases q:H a with
 |none=>exact absurd q h
 |some o=>rw [e a o (fun z=>z) q];intro z;cases z
theorem Rd.ext {S:Ad} {H H':Hp} {a:Addr} {u:HO} (e:Ext S H H') (n:¬S a) (r:Rd H a u):Rd H' a u:=r.elim (fun z=>.inl (e _ _ n z)) fun ⟨o,z⟩=>.inr ⟨o,e _ _ n z⟩
section
variable {K:PySem.W.Frag} {H H':Hp} {S S':Ad}
mutual
theorem Rds.ext (e:Ext S H H'):∀{d:D} {v:V},Rds K H S d v->Rds K H' S d v
 |_,_,.non=>.non
 |_,_,.bl b=>.bl b
 |_,_,.int i=>.int i
 |_,_,.str x=>.str x
 |_,_,.ty n=>.ty n
 |_,_,.cl C=>.cl C
 |_,_,.tup h n r=>.tup (e _ _ n h) n (ae.ext e r)
 |_,_,.lst h n r=>.lst (CT.Rd.ext e n h) n (ae.ext e r)
 |_,_,.lstK h r=>.lstK h (ae.ext e r)
 |_,_,.ins h n r=>.ins (e _ _ n h) n (aG.ext e r)
 |_,_,.gf h n=>.gf (e _ _ n h) n
 |_,_,.exc h h2 n n2 r=>.exc (e _ _ n h) (e _ _ n2 h2) n n2 (aG.ext e r)
 |_,_,.dK h n k r=>.dK (e _ _ n h) n k (ae.ext e r)
 |_,_,.dP h n r=>.dP (e _ _ n h) n (bI.ext e r)
theorem bI.ext (e:Ext S H H'):∀{ds:List (PK×D)} {vs:List (PK×Addr×V)},bI K H S ds vs->bI K H' S ds vs
 |_,_,.nil=>.nil
 |_,_,.cons p k r t=>.cons p (Rds.ext e k) (Rds.ext e r) (bI.ext e t)
theorem ae.ext (e:Ext S H H'):∀{ds:List D} {vs:List V},ae K H S ds vs->ae K H' S ds vs
 |_,_,.nil=>.nil
 |_,_,.cons r t=>.cons (Rds.ext e r) (ae.ext e t)
theorem aG.ext (e:Ext S H H'):∀{ds:List (Str×D)} {vs:List (Str×V)},aG K H S ds vs->aG K H' S ds vs
 |_,_,.nil=>.nil
 |_,_,.cons r t=>.cons (Rds.ext e r) (aG.ext e t)
end
mutual
theorem Rds.av (e:∀a,S' a->S a∨H a=none):∀{d:D} {v:V},Rds K H S d v->Rds K H S' d v
 |_,_,.non=>.non
 |_,_,.bl b=>.bl b
 |_,_,.int i=>.int i
 |_,_,.str x=>.str x
 |_,_,.ty n=>.ty n
 |_,_,.cl C=>.cl C
 |_,_,.tup h n r=>.tup h (fun z=>(e _ z).elim n fun q=>by rw [h] at q;cases q) (ae.av e r)
 |_,_,.lst h n r=>.lst h (fun z=>(e _ z).elim n fun q=>by rcases h with h|⟨_,h⟩<;>(rw [h] at q;cases q)) (ae.av e r)
 |_,_,.lstK h r=>.lstK h (ae.av e r)
 |_,_,.ins h n r=>.ins h (fun z=>(e _ z).elim n fun q=>by rw [h] at q;cases q) (aG.av e r)
 |_,_,.gf h n=>.gf h (fun z=>(e _ z).elim n fun q=>by rw [h] at q;cases q)
 |_,_,.exc h h2 n n2 r=>.exc h h2 (fun z=>(e _ z).elim n fun q=>by rw [h] at q;cases q) (fun z=>(e _ z).elim n2 fun q=>by rw [h2] at q;cases q) (aG.av e r)
 |_,_,.dK h n k r=>.dK h (fun z=>(e _ z).elim n fun q=>by rw [h] at q;cases q) k (ae.av e r)
 |_,_,.dP h n r=>.dP h (fun z=>(e _ z).elim n fun q=>by rw [h] at q;cases q) (bI.av e r)
theorem bI.av (e:∀a,S' a->S a∨H a=none):∀{ds:List (PK×D)} {vs:List (PK×Addr×V)},bI K H S ds vs->bI K H S' ds vs
 |_,_,.nil=>.nil
 |_,_,.cons p k r t=>.cons p (Rds.av e k) (Rds.av e r) (bI.av e t)
theorem ae.av (e:∀a,S' a->S a∨H a=none):∀{ds:List D} {vs:List V},ae K H S ds vs->ae K H S' ds vs
 |_,_,.nil=>.nil
 |_,_,.cons r t=>.cons (Rds.av e r) (ae.av e t)
theorem aG.av (e:∀a,S' a->S a∨H a=none):∀{ds:List (Str×D)} {vs:List (Str×V)},aG K H S ds vs->aG K H S' ds vs
 |_,_,.nil=>.nil
 |_,_,.cons r t=>.cons (Rds.av e r) (aG.av e t)
end
theorem ae.length:∀{ds:List D} {vs:List V},ae K H S ds vs->ds.length=vs.length
 |_,_,.nil=>rfl
 |_,_,.cons _ t=>by rw [List.length_cons,List.length_cons,ae.length t]
theorem ae.get:∀{ds:List D} {vs:List V} {i:Nat} {d:D},ae K H S ds vs->ds[i]?=some d->∃v,vs[i]?=some v∧Rds K H S d v
 |_,_,0,_,.cons r _,e=>by simp at e;subst e;exact ⟨_,rfl,r⟩
 |_,_,i+1,_,.cons _ t,e=>by
  obtain ⟨v,h1,h2⟩:=ae.get (i:=i) t (by simpa using e)
  exact ⟨v,by simpa using h1,h2⟩
theorem ae.app:∀{ds es:List D} {vs us:List V},ae K H S ds vs->ae K H S es us->ae K H S (ds++es) (vs++us)
 |_,_,_,_,.nil,s=>s
 |_,_,_,_,.cons r t,s=>.cons r (ae.app t s)
theorem ae.rep {d:D} {v:V} (r:Rds K H S d v):∀n:Nat,ae K H S (List.replicate n d) (List.replicate n v)
 |0=>.nil
 |n+1=>.cons r (ae.rep r n)
theorem aG.look {f:Str}:∀{ds:List (Str×D)} {vs:List (Str×V)} {d:D},aG K H S ds vs->ds.lookup f=some d->∃v,vs.lookup f=some v∧Rds K H S d v
 |(n,x)::r,_,d,.cons q t,e=>by
  rw [List.lookup_cons] at e ⊢
  cases hb:f==n with
  |true=>rw [hb] at e;cases e;exact ⟨_,rfl,q⟩
  |false=>rw [hb] at e;exact aG.look t e
theorem aG.none {f:Str}:∀{ds:List (Str×D)} {vs:List (Str×V)},aG K H S ds vs->ds.lookup f=none->vs.lookup f=none
 |[],_,.nil,_=>rfl
 |(n,x)::r,_,.cons q t,e=>by
  rw [List.lookup_cons] at e ⊢
  cases hb:f==n with
  |true=>rw [hb] at e;cases e
  |false=>rw [hb] at e;exact aG.none t e
theorem Rds.aX {i:Int} {v:V} (r:Rds K H S (.int i) v):v=.int i:=by cases r;rfl
theorem Rds.blV {b:Bool} {v:V} (r:Rds K H S (.bl b) v):v=.bl b:=by cases r;rfl
theorem Rds.pN {v:V} (r:Rds K H S .non v):v=.non:=by cases r;rfl
theorem Rds.d3 {xs:List D} {v:V} (r:Rds K H S (.tup xs) v):∃a vs,v=.ref a∧H a=some (.tup vs)∧ae K H S xs vs:=by cases r with|tup h n r=>exact ⟨_,_,rfl,h,r⟩
theorem Rds.iy {xs:List D} {v:V} (r:Rds K H S (.lst xs) v):∃a vs,v=.ref a∧SqL K H a vs∧ae K H S xs vs:=by
 cases r with
 |lst h n r=>exact ⟨_,_,rfl,.inl h,r⟩
 |lstK h r=>exact ⟨_,_,rfl,.inr h,r⟩
theorem Rds.gJ {C:Addr} {fs:List (Str×D)} {v:V} (r:Rds K H S (.ins C fs) v):∃a dx gs,v=.ref a∧H a=some (.ins C dx gs)∧aG K H S fs gs:=by cases r with|ins h n r=>exact ⟨_,_,_,rfl,h,r⟩
theorem ae.one {d:D} {vs:List V} (r:ae K H S [d] vs):∃v,vs=[v]∧Rds K H S d v:=by cases r with|cons r t=>cases t;exact ⟨_,rfl,r⟩
theorem ae.two {d e:D} {vs:List V} (r:ae K H S [d,e] vs):∃v u,vs=[v,u]∧Rds K H S d v∧Rds K H S e u:=by
 cases r with|cons r t=>obtain ⟨u,rfl,q⟩:=t.one;exact ⟨_,_,rfl,r,q⟩
noncomputable def Dom (H:Hp) (S:Ad):Prop:=∀a,S a->H a≠none
theorem Dom.ext {H H':Hp} {S:Ad} (d:Dom H S) (e:aF H H'):Dom H' S:=fun a h=>e.ne (d a h)
theorem Dom.not {H:Hp} {S:Ad} (d:Dom H S) {p:Addr} (hp:H p=Option.none):¬S p:=fun z=>d p z hp
theorem Rds.dN {p:Addr} {vs:List V} {xs:List D} (dm:Dom H S) (hp:H p=Option.none) (r:ae K H S xs vs):Rds K (upd H p (.tup vs)) S (.tup xs) (.ref p):=.tup ao (dm.not hp) (r.ext ((Ext.new hp).to S))
theorem Rds.iV {p:Addr} {vs:List V} {xs:List D} (dm:Dom H S) (hp:H p=Option.none) (r:ae K H S xs vs):Rds K (upd H p (.lst vs)) S (.lst xs) (.ref p):=.lst (.inl ao) (dm.not hp) (r.ext ((Ext.new hp).to S))
end
inductive Ow where
 |l (xs:List D)|d (es:List (PK×D))
noncomputable def Ow.D:Ow->D
 |.l xs=>.lst xs
 |.d es=>.pdc es
noncomputable def cL (K:PySem.W.Frag) (H:Hp) (S:Ad) (a:Addr):Ow->HO->Prop
 |.l xs,o=>∃vs,o=.lst vs∧ae K H S xs vs
 |.d es,o=>∃ep kvs,o=PD a ep kvs∧bI K H S es kvs
inductive Sl where
 |nil|any|val (d:D)|owx (c:Ow)|new (C x dx:Addr) (fs:List (Str×D))
noncomputable abbrev Sl.own (xs:List D):Sl:=.owx (.l xs)
section
variable {K:PySem.W.Frag} {H H':Hp} {S S':Ad} {a:Addr} {c:Ow} {o:HO}
theorem cL.ext (e:Ext S H H') (h:cL K H S a c o):cL K H' S a c o:=by
 cases c with
 |l xs=>obtain ⟨vs,q,r⟩:=h;exact ⟨vs,q,r.ext e⟩
 |d es=>obtain ⟨ep,vs,q,r⟩:=h;exact ⟨ep,vs,q,r.ext e⟩
theorem cL.av (e:∀a,S' a->S a∨H a=none) (h:cL K H S a c o):cL K H S' a c o:=by
 cases c with
 |l xs=>obtain ⟨vs,q,r⟩:=h;exact ⟨vs,q,r.av e⟩
 |d es=>obtain ⟨ep,vs,q,r⟩:=h;exact ⟨ep,vs,q,r.av e⟩
theorem cL.rds (h:cL K H S a c o) (ha:H a=some o) (n:¬S a):Rds K H S c.D (.ref a):=by
 cases c with
 |l xs=>obtain ⟨vs,rfl,r⟩:=h;exact .lst (.inl ha) n r
 |d es=>obtain ⟨ep,vs,rfl,r⟩:=h;exact .dP ha n r
theorem cL.sort (h:cL K H S a c o):(∃vs,o=.lst vs)∨∃ep kvs,o=PD a ep kvs:=by
 cases c with
 |l xs=>obtain ⟨vs,rfl,r⟩:=h;exact .inl ⟨vs,rfl⟩
 |d es=>obtain ⟨ep,vs,rfl,r⟩:=h;exact .inr ⟨ep,vs,rfl⟩
end
noncomputable abbrev Rho:=List Sl
noncomputable def Sl.dD:Sl->Prop
 |.owx _=>True|.new _ _ _ _=>True|_=>False
noncomputable def RO (K:PySem.W.Frag) (H:Hp) (S:Ad):Sl->Option V->Prop
 |.nil,v=>v=none
 |.any,_=>True
 |.val d,v=>∃u,v=some u∧Rds K H S d u
 |.owx c,v=>∃a o,v=some (.ref a)∧S a∧H a=some o∧cL K H S a c o
 |.new C x dx fs,v=>∃gs,v=some (.ref x)∧S x∧H x=some (.ins C dx gs)∧aG K H S fs gs
theorem RO.ext {K:PySem.W.Frag} {H H':Hp} {S:Ad} (e:aF H H'):∀{x:Sl} {v:Option V},RO K H S x v->RO K H' S x v
 |.nil,_,h=>h
 |.any,_,_=>trivial
 |.val _,_,⟨u,h,r⟩=>⟨u,h,r.ext (e.to S)⟩
 |.owx _,_,⟨a,vs,h,s,o,r⟩=>⟨a,vs,h,s,e _ _ (fun z=>z) o,r.ext (e.to S)⟩
 |.new _ _ _ _,_,⟨gs,h,s,o,r⟩=>⟨gs,h,s,e _ _ (fun z=>z) o,r.ext (e.to S)⟩
structure VE (K:PySem.W.Frag) (H:Hp) (S:Ad) (ρ:Rho) (σ:St):Prop where
 len:ρ.length=σ.length
 rel:∀(i:Nat) (x:Sl),ρ[i]?=some x->∃v,σ[i]?=some v∧RO K H S x v
 dist:∀(i j:Nat) (x y:Sl) (a:Addr),i≠j->ρ[i]?=some x->ρ[j]?=some y->x.dD->y.dD->σ[i]?=some (some (.ref a))->σ[j]?≠some (some (.ref a))
 dom:Dom H S
section
variable {K:PySem.W.Frag} {H H':Hp} {S:Ad} {ρ:Rho} {σ:St} {i:Nat}
theorem VE.ext (v:VE K H S ρ σ) (e:aF H H'):VE K H' S ρ σ:=⟨v.len,fun i x h=>let ⟨u,h1,h2⟩:=v.rel i x h;⟨u,h1,h2.ext e⟩,v.dist,v.dom.ext e⟩
theorem VE.get {d:D} (v:VE K H S ρ σ) (h:ρ[i]?=some (.val d)):∃u,σ[i]?=some (some u)∧Rds K H S d u:=by
 obtain ⟨w,h1,u,rfl,r⟩:=v.rel i _ h
 exact ⟨u,h1,r⟩
theorem VE.set {d:D} {u:V} (v:VE K H S ρ σ) (r:Rds K H S d u):VE K H S (ρ.set i (.val d)) (σ.set i (some u)):=by
 refine ⟨by simpa using v.len,fun j x h=>?_,fun j k x y a hjk h1 h2 o1 o2 h3=>?_,v.dom⟩
 ·by_cases hj:i=j
  ·subst hj
   have hi:i<ρ.length:=by
    have:=(List.getElem?_eq_some_iff.mp h).1
    simpa using this
   rw [List.getElem?_set_self hi] at h
   cases h
   exact ⟨some u,List.getElem?_set_self (v.len▸hi),u,rfl,r⟩
  ·rw [List.getElem?_set_ne hj] at h ⊢
   exact v.rel j x h
 ·have n1:i≠j:=fun z=>by
   subst z
   have hi:=(List.getElem?_eq_some_iff.mp h1).1
   rw [List.getElem?_set_self (by simpa using hi)] at h1;cases h1;exact o1
  have n2:i≠k:=fun z=>by
   subst z
   have hi:=(List.getElem?_eq_some_iff.mp h2).1
   rw [List.getElem?_set_self (by simpa using hi)] at h2;cases h2;exact o2
  rw [List.getElem?_set_ne n1] at h1 h3
  rw [List.getElem?_set_ne n2] at h2 ⊢
  exact v.dist j k x y a hjk h1 h2 o1 o2 h3
theorem VE.unset (v:VE K H S ρ σ) (h:ρ[i]?=some .nil):σ[i]?=some none:=by
 obtain ⟨w,h1,rfl⟩:=v.rel i _ h
 exact h1
end
noncomputable def tD (K:PySem.W.Frag) (ρ:Rho) (d:D):TE:=fun σ H Q=>∃S,VE K H S ρ σ∧∀v H',aF H H'->Rds K H' S d v->Q v H'
noncomputable def tDT (K:PySem.W.Frag) (ρ:Rho) (b:Bool):TT:=fun σ H Q=>∃S,VE K H S ρ σ∧∀H',aF H H'->Q b H'
noncomputable def tDA (K:PySem.W.Frag) (ρ:Rho) (ds:List D):TA:=fun σ H Q=>∃S,VE K H S ρ σ∧∀vs H',aF H H'->ae K H' S ds vs->Q vs H'
noncomputable def DE (X:Cx) (ρ:Rho) (e:Expr) (d:D):Prop:=PE X e (tD X.K ρ d)
noncomputable def DT (X:Cx) (ρ:Rho) (e:Expr) (b:Bool):Prop:=PT X e (tDT X.K ρ b)
noncomputable def DW (X:Cx) (ρ:Rho) (e:Expr) (b:Bool):Prop:=PW X e (tDT X.K ρ b)
noncomputable def DA (X:Cx) (ρ:Rho) (es:List Expr) (ds:List D):Prop:=PA X es (tDA X.K ρ ds)
section
variable {X:Cx}
theorem PE.weak {e:Expr} {t t':TE} (h:PE X e t) (w:∀σ H Q,t' σ H Q->t σ H Q):PE X e t':=fun pins s σ H Q I q=>h pins s σ H Q I (w σ H Q q)
theorem PT.weak {e:Expr} {t t':TT} (h:PT X e t) (w:∀σ H Q,t' σ H Q->t σ H Q):PT X e t':=fun pins s σ H Q I q=>h pins s σ H Q I (w σ H Q q)
theorem PW.weak {e:Expr} {t t':TT} (h:PW X e t) (w:∀σ H Q,t' σ H Q->t σ H Q):PW X e t':=fun wh pins s σ H Q I q=>h wh pins s σ H Q I (w σ H Q q)
theorem PA.weak {es:List Expr} {t t':TA} (h:PA X es t) (w:∀σ H Q,t' σ H Q->t σ H Q):PA X es t':=fun pos pins s σ H Q I q=>h pos pins s σ H Q I (w σ H Q q)
theorem PS.weak {st:Stmt} {t t':TS} (h:PS X st t) (w:∀D σ H,t' D σ H->t D σ H):PS X st t':=fun pins s σ H D I q=>h pins s σ H D I (w D σ H q)
theorem PSs.weak {st:List Stmt} {t t':TS} (h:PSs X st t) (w:∀D σ H,t' D σ H->t D σ H):PSs X st t':=fun pins s σ H D I q=>h pins s σ H D I (w D σ H q)
variable {ρ:Rho} {a b c e:Expr} {pos:Pos} {d da db dc:D}
theorem lQ {i:Nat} {x:Str} (hN:X.N[i]?=some x) (hv:Vis X.env.scope x) (hr:ρ[i]?=some (.val d)) (hd:(x==("__debug__":Str))=false:=by decide) (hcd:(x==("__classdict__":Str))=false:=by decide):DE X ρ (.Name x pos) d:=
 PE.weak (dM hN hv hd hcd) fun σ H Q ⟨S,ve,k⟩=>let ⟨u,h1,r⟩:=ve.get hr;⟨u,h1,k u H Ext.refl r⟩
theorem zt {i:Int} {j}:DE X ρ (.Constant (.int i) j pos) (.int i):=PE.weak Ax fun σ H Q ⟨S,ve,k⟩=>k _ H Ext.refl (.int i)
theorem uS {q:Bool} {j}:DE X ρ (.Constant (.bool q) j pos) (.bl q):=PE.weak Bo fun σ H Q ⟨S,ve,k⟩=>k _ H Ext.refl (.bl q)
theorem gK {j}:DE X ρ (.Constant .none j pos) .non:=PE.weak y9 fun σ H Q ⟨S,ve,k⟩=>k _ H Ext.refl .non
theorem zU {x:Str} {j}:DE X ρ (.Constant (.str x) j pos) (.str x):=PE.weak As fun σ H Q ⟨S,ve,k⟩=>k _ H Ext.refl (.str x)
theorem A8 {x:Str} {n:String} (hg:Gl X x) (hm:X.mg x=none) (hv:bootBuiltins x=some (.type n)) (hn:x≠"__name__":=by decide) (hd:(x==("__debug__":Str))=false:=by decide):DE X ρ (.Name x pos) (.ty n):=
 PE.weak (xj hg hm hv (v:=.ty n) rfl hn hd) fun σ H Q ⟨S,ve,k⟩=>k _ H Ext.refl (.ty n)
theorem A0 {x:Str} {C:Addr} (hg:Gl X x) (hm:X.mg x=some (.ref C)) (hd:(x==("__debug__":Str))=false:=by decide):DE X ρ (.Name x pos) (.cl C):=
 PE.weak (nK hg hm (v:=.ref C) rfl hd) fun σ H Q ⟨S,ve,k⟩=>k _ H Ext.refl (.cl C)
theorem sy {x:Str} {i:Int} {t:Tok} (hg:Gl X x) (hm:X.mg x=some (.int i t)) (hd:(x==("__debug__":Str))=false:=by decide):DE X ρ (.Name x pos) (.int i):=
 PE.weak (nK hg hm (v:=.int i) ⟨t,rfl⟩ hd) fun σ H Q ⟨S,ve,k⟩=>k _ H Ext.refl (.int i)
noncomputable def R2D (K:PySem.W.Frag) (r:R2) (da db d:D):Prop:=∀(x y:V) (H:Hp) (S:Ad) (Q:VK),Rds K H S da x->Rds K H S db y->Dom H S->(∀v H',aF H H'->Rds K H' S d v->Q v H')->r x y H Q
theorem l_ {r:R2} (h:R2D X.K r da db d) (σ:St) (H:Hp) (Q:VK) (q:tD X.K ρ d σ H Q):tOp r (tD X.K ρ da) (tD X.K ρ db) σ H Q:=by
 obtain ⟨S,ve,k⟩:=q
 exact ⟨S,ve,fun x H1 e1 r1=>⟨S,ve.ext e1,fun y H2 e2 r2=>h x y H2 S Q (r1.ext (e2.to S)) r2 ((ve.ext e1).ext e2).dom fun v H' e3 r3=>k v H' (e1.trans (e2.trans e3)) r3⟩⟩
theorem dw {op:Operator} {r:R2} (ho:OpR X (binaryOp op) r) (h:R2D X.K r da db d) (ha:DE X ρ a da) (hb:DE X ρ b db):DE X ρ (.BinOp a op b pos) d:=PE.weak (AX ho ha hb) (l_ h)
theorem bS {op:CmpOp} {r:R2} (ho:OpR X (compareOp op) r) (h:R2D X.K r da db d) (ha:DE X ρ a da) (hb:DE X ρ b db) (hm:behindInMarks op b=false):DE X ρ (.Compare a [op] [b] pos) d:=PE.weak (vK ho ha hb hm) (l_ h)
theorem xC {te:TE} {q:Bool} (h:∀σ H Q,tD X.K ρ (.bl q) σ H Q->te σ H Q) (σ:St) (H:Hp) (Q:Bool->Hp->Prop) (w:tDT X.K ρ q σ H Q):tB te σ H Q:=by
 obtain ⟨S,ve,k⟩:=w
 exact h σ H _ ⟨S,ve,fun v H' e r=>⟨q,r.blV,k H' e⟩⟩
theorem bR {op:CmpOp} {r:R2} {q:Bool} (ho:OpR X (compareOp op) r) (h:R2D X.K r da db (.bl q)) (ha:DE X ρ a da) (hb:DE X ρ b db) (hm:behindInMarks op b=false):DT X ρ (.Compare a [op] [b] pos) q:=by
 refine PT.weak (vq ho ha hb hm) fun σ H Q w=>?_
 obtain ⟨S,ve,k⟩:=w
 exact l_ h σ H _ ⟨S,ve,fun v H' e r=>by rw [r.blV];exact ⟨q,rfl,k H' e⟩⟩
theorem gI {q:Bool} (h:DE X ρ e (.bl q)) (he:∀whole,isTrue e X.env whole=(do let v←whole;standAt e.pos;holding [v] (truthy v)):=by intro _;rfl):DT X ρ e q:=PT.weak (yh h he) (xC fun _ _ _ w=>w)
theorem xG {i j:Int} {K:PySem.W.Frag}:R2D K (rI0 fun i j=>.int (i+j)) (.int i) (.int j) (.int (i+j)):=fun x y H S Q rx ry dm k=>⟨i,j,rx.aX,ry.aX,k _ H Ext.refl (.int _)⟩
theorem Af {i j:Int} {K:PySem.W.Frag}:R2D K (rI0 fun i j=>.int (i - j)) (.int i) (.int j) (.int (i - j)):=fun x y H S Q rx ry dm k=>⟨i,j,rx.aX,ry.aX,k _ H Ext.refl (.int _)⟩
theorem yW {i j:Int} {K:PySem.W.Frag} (h:iI i j):R2D K (rI iI fun i j=>.int (i*j)) (.int i) (.int j) (.int (i*j)):=fun x y H S Q rx ry dm k=>⟨i,j,rx.aX,ry.aX,h,k _ H Ext.refl (.int _)⟩
theorem zb {i j:Int} {K:PySem.W.Frag} (h:0<j):R2D K (rI (fun _ j=>0<j) fun i j=>.int (i%j)) (.int i) (.int j) (.int (i%j)):=fun x y H S Q rx ry dm k=>⟨i,j,rx.aX,ry.aX,h,k _ H Ext.refl (.int _)⟩
theorem xr {i j:Int} {K:PySem.W.Frag} (h:pE i j):R2D K (rI pE fun i j=>.int (i / j)) (.int i) (.int j) (.int (i / j)):=fun x y H S Q rx ry dm k=>⟨i,j,rx.aX,ry.aX,h,k _ H Ext.refl (.int _)⟩
theorem dQ {i j:Int} {K:PySem.W.Frag} {g:Int->Int->Bool}:R2D K (rI0 fun i j=>.bl (g i j)) (.int i) (.int j) (.bl (g i j)):=fun x y H S Q rx ry dm k=>⟨i,j,rx.aX,ry.aX,k _ H Ext.refl (.bl _)⟩
theorem zT {i j:Int} (ha:DE X ρ a (.int i)) (hb:DE X ρ b (.int j)):DE X ρ (.BinOp a .Add b pos) (.int (i+j)):=dw zL xG ha hb
theorem yO {i j:Int} (ha:DE X ρ a (.int i)) (hb:DE X ρ b (.int j)):DE X ρ (.BinOp a .Sub b pos) (.int (i - j)):=dw zA Af ha hb
theorem zj {i j:Int} (h:iI i j) (ha:DE X ρ a (.int i)) (hb:DE X ρ b (.int j)):DE X ρ (.BinOp a .Mult b pos) (.int (i*j)):=dw zO (yW h) ha hb
theorem zE {i j:Int} (h:0<j) (ha:DE X ρ a (.int i)) (hb:DE X ρ b (.int j)):DE X ρ (.BinOp a .Mod b pos) (.int (i%j)):=dw ym (zb h) ha hb
theorem xB {i j:Int} (h:pE i j) (ha:DE X ρ a (.int i)) (hb:DE X ρ b (.int j)):DE X ρ (.BinOp a .FloorDiv b pos) (.int (i / j)):=dw wR (xr h) ha hb
theorem A6 {i j:Int} (ha:DE X ρ a (.int i)) (hb:DE X ρ b (.int j)):DE X ρ (.Compare a [.Lt] [b] pos) (.bl (decide (i<j))):=bS pj dQ ha hb (aP _)
theorem Bz {i j:Int} (ha:DE X ρ a (.int i)) (hb:DE X ρ b (.int j)):DE X ρ (.Compare a [.LtE] [b] pos) (.bl (decide (i<=j))):=bS pK dQ ha hb (aP _)
theorem Br {i j:Int} (ha:DE X ρ a (.int i)) (hb:DE X ρ b (.int j)):DE X ρ (.Compare a [.Gt] [b] pos) (.bl (decide (j<i))):=bS u7 dQ ha hb (aP _)
theorem BF {i j:Int} (ha:DE X ρ a (.int i)) (hb:DE X ρ b (.int j)):DE X ρ (.Compare a [.GtE] [b] pos) (.bl (decide (j<=i))):=bS uB dQ ha hb (aP _)
theorem Bk {i j:Int} (ha:DE X ρ a (.int i)) (hb:DE X ρ b (.int j)):DT X ρ (.Compare a [.Lt] [b] pos) (decide (i<j)):=bR pj dQ ha hb (aP _)
theorem Bs {i j:Int} (ha:DE X ρ a (.int i)) (hb:DE X ρ b (.int j)):DT X ρ (.Compare a [.LtE] [b] pos) (decide (i<=j)):=bR pK dQ ha hb (aP _)
theorem Bc {i j:Int} (ha:DE X ρ a (.int i)) (hb:DE X ρ b (.int j)):DT X ρ (.Compare a [.Gt] [b] pos) (decide (j<i)):=bR u7 dQ ha hb (aP _)
theorem AS {i j:Int} (ha:DE X ρ a (.int i)) (hb:DE X ρ b (.int j)):DT X ρ (.Compare a [.GtE] [b] pos) (decide (j<=i)):=bR uB dQ ha hb (aP _)
noncomputable def flat:D->Option V
 |.non=>some .non|.bl b=>some (.bl b)|.int i=>some (.int i)|.str x=>some (.str x)
 |_=>none
theorem iZ {K:PySem.W.Frag} {H:Hp} {S:Ad} {d:D} {u v:V} (h:flat d=some u) (r:Rds K H S d v):v=u:=by
 cases r<;>(simp only [flat] at h;first|(cases h;rfl)|cases h)
theorem uU {K:PySem.W.Frag} {u v:V} (ha:flat da=some u) (hb:flat db=some v) (hs:pq u v=true):R2D K rEq da db (.bl (decide (u=v))):=fun x y H S Q rx ry dm k=>by
 rw [iZ ha rx,iZ hb ry]
 exact ⟨hs,k _ H Ext.refl (.bl _)⟩
theorem u9 {K:PySem.W.Frag} {u v:V} (ha:flat da=some u) (hb:flat db=some v) (hs:pq u v=true):R2D K rNe da db (.bl (!decide (u=v))):=fun x y H S Q rx ry dm k=>by
 rw [iZ ha rx,iZ hb ry]
 exact ⟨hs,k _ H Ext.refl (.bl _)⟩
theorem y4 {i j:Int} (ha:DE X ρ a (.int i)) (hb:DE X ρ b (.int j)):DE X ρ (.Compare a [.Eq] [b] pos) (.bl (decide (i=j))):=by
 have:=bS (pos:=pos) uu (uU (K:=X.K) (da:=.int i) (db:=.int j) rfl rfl rfl) ha hb (aP _)
 simpa using this
theorem zi {i j:Int} (ha:DE X ρ a (.int i)) (hb:DE X ρ b (.int j)):DE X ρ (.Compare a [.NotEq] [b] pos) (.bl (!decide (i=j))):=by
 have:=bS (pos:=pos) uQ (u9 (K:=X.K) (da:=.int i) (db:=.int j) rfl rfl rfl) ha hb (aP _)
 simpa using this
theorem xM {i j:Int} (ha:DE X ρ a (.int i)) (hb:DE X ρ b (.int j)):DT X ρ (.Compare a [.Eq] [b] pos) (decide (i=j)):=by
 have:=bR (pos:=pos) uu (uU (K:=X.K) (da:=.int i) (db:=.int j) rfl rfl rfl) ha hb (aP _)
 simpa using this
theorem zV {i j:Int} (ha:DE X ρ a (.int i)) (hb:DE X ρ b (.int j)):DT X ρ (.Compare a [.NotEq] [b] pos) (!decide (i=j)):=by
 have:=bR (pos:=pos) uQ (u9 (K:=X.K) (da:=.int i) (db:=.int j) rfl rfl rfl) ha hb (aP _)
 simpa using this
theorem Ak {i:Int} (ha:DE X ρ a (.int i)):DE X ρ (.UnaryOp .USub a pos) (.int (-i)):=
 PE.weak (AB zP ha) fun σ H Q ⟨S,ve,k⟩=>⟨S,ve,fun v H' e r=>⟨i,r.aX,k _ H' e (.int _)⟩⟩
theorem zF {op} (h:DE X ρ a d):DE X ρ (.BoolOp op [a] pos) d:=yZ h
theorem q_ {p q:Bool} {rest:List Expr} (ha:DE X ρ a (.bl p)) (hb:p=true->DE X ρ (.BoolOp .And (b::rest) pos) (.bl q)):DE X ρ (.BoolOp .And (a::b::rest) pos) (.bl (p&&q)):=by
 cases p with
 |true=>exact PE.weak (rA ha (hb rfl)) fun σ H Q ⟨S,ve,k⟩=>⟨S,ve,fun v H' e r=>⟨true,r.blV,by refine eK ?_;exact ⟨S,ve.ext e,fun v' H'' e' r'=>k v' H'' (e.trans e') r'⟩⟩⟩
 |false=>
  have hn:PE X (.BoolOp .And (b::rest) pos) (fun _ _ _=>False):=fun _ _ _ _ _ _ z=>z.elim
  exact PE.weak (rA ha hn) fun σ H Q ⟨S,ve,k⟩=>⟨S,ve,fun v H' e r=>⟨false,r.blV,by refine fj ?_;exact k _ H' e (.bl _)⟩⟩
theorem uL {p q:Bool} {rest:List Expr} (ha:DE X ρ a (.bl p)) (hb:p=false->DE X ρ (.BoolOp .Or (b::rest) pos) (.bl q)):DE X ρ (.BoolOp .Or (a::b::rest) pos) (.bl (p||q)):=by
 cases p with
 |false=>exact PE.weak (u4 ha (hb rfl)) fun σ H Q ⟨S,ve,k⟩=>⟨S,ve,fun v H' e r=>⟨false,r.blV,by refine fj ?_;exact ⟨S,ve.ext e,fun v' H'' e' r'=>k v' H'' (e.trans e') r'⟩⟩⟩
 |true=>
  have hn:PE X (.BoolOp .Or (b::rest) pos) (fun _ _ _=>False):=fun _ _ _ _ _ _ z=>z.elim
  exact PE.weak (u4 ha hn) fun σ H Q ⟨S,ve,k⟩=>⟨S,ve,fun v H' e r=>⟨true,r.blV,by refine eK ?_;exact k _ H' e (.bl _)⟩⟩
theorem yi {p:Bool} (ha:DE X ρ a (.bl p)):DE X ρ (.UnaryOp .Not a pos) (.bl (!p)):=PE.weak (yt ha) fun σ H Q ⟨S,ve,k⟩=>⟨S,ve,fun v H' e r=>⟨p,r.blV,k _ H' e (.bl _)⟩⟩
theorem zh {p:Bool} (ha:DT X ρ a p):DT X ρ (.UnaryOp .Not a pos) (!p):=PT.weak (yo ha) fun σ H Q ⟨S,ve,k⟩=>⟨S,ve,fun H' e=>k H' e⟩
theorem DW.dt {p:Bool} (h:DW X ρ e p):DT X ρ e p:=PW.pt h
theorem wo {p:Bool} (ha:DT X ρ a p):DW X ρ (.BoolOp .And [a] pos) p:=wq ha
theorem yR {p:Bool} (ha:DT X ρ a p):DW X ρ (.BoolOp .Or [a] pos) p:=Aa ha
theorem qY {p q:Bool} {rest:List Expr} (ha:DT X ρ a p) (hb:p=true->DW X ρ (.BoolOp .And (b::rest) pos) q):DW X ρ (.BoolOp .And (a::b::rest) pos) (p&&q):=by
 cases p with
 |true=>exact PW.weak (rD ha (hb rfl)) fun σ H Q ⟨S,ve,k⟩=>⟨S,ve,fun H' e=>by refine eK ?_;exact ⟨S,ve.ext e,fun H'' e'=>k H'' (e.trans e')⟩⟩
 |false=>
  have hn:PW X (.BoolOp .And (b::rest) pos) (fun _ _ _=>False):=fun _ _ _ _ _ _ _ z=>z.elim
  exact PW.weak (rD ha hn) fun σ H Q ⟨S,ve,k⟩=>⟨S,ve,fun H' e=>by refine fj ?_;exact k H' e⟩
theorem uv {p q:Bool} {rest:List Expr} (ha:DT X ρ a p) (hb:p=false->DW X ρ (.BoolOp .Or (b::rest) pos) q):DW X ρ (.BoolOp .Or (a::b::rest) pos) (p||q):=by
 cases p with
 |false=>exact PW.weak (uT ha (hb rfl)) fun σ H Q ⟨S,ve,k⟩=>⟨S,ve,fun H' e=>by refine fj ?_;exact ⟨S,ve.ext e,fun H'' e'=>k H'' (e.trans e')⟩⟩
 |true=>
  have hn:PW X (.BoolOp .Or (b::rest) pos) (fun _ _ _=>False):=fun _ _ _ _ _ _ _ z=>z.elim
  exact PW.weak (uT ha hn) fun σ H Q ⟨S,ve,k⟩=>⟨S,ve,fun H' e=>by refine eK ?_;exact k H' e⟩
theorem uO {p:Bool} (hc:DT X ρ c p) (ha:p=true->DE X ρ a d) (hb:p=false->DE X ρ b d):DE X ρ (.IfExp c a b pos) d:=by
 have hn:∀e:Expr,PE X e (fun _ _ _=>False):=fun _ _ _ _ _ _ _ z=>z.elim
 cases p with
 |true=>exact PE.weak (mE hc (ha rfl) (hn b)) fun σ H Q ⟨S,ve,k⟩=>⟨S,ve,fun H' e=>by refine eK ?_;exact ⟨S,ve.ext e,fun v' H'' e' r'=>k v' H'' (e.trans e') r'⟩⟩
 |false=>exact PE.weak (mE hc (hn a) (hb rfl)) fun σ H Q ⟨S,ve,k⟩=>⟨S,ve,fun H' e=>by refine fj ?_;exact ⟨S,ve.ext e,fun v' H'' e' r'=>k v' H'' (e.trans e') r'⟩⟩
variable {es:List Expr} {ds:List D}
theorem lK:DA X ρ [] []:=PA.weak rS fun σ H Q ⟨S,ve,k⟩=>k [] H Ext.refl .nil
theorem fz (ha:DE X ρ e d) (hr:DA X ρ es ds) (hs:starEach (e::es) X.env=(false,eval e X.env)::starEach es X.env:=by rfl):DA X ρ (e::es) (d::ds):=
 PA.weak (nM ha hr hs) fun σ H Q ⟨S,ve,k⟩=>⟨S,ve,fun v H' e r=>⟨S,ve.ext e,fun vs H'' e' rs=>k (v::vs) H'' (e.trans e') (.cons (r.ext (e'.to S)) rs)⟩⟩
theorem qp {j} (h:DA X ρ es ds) (hl:ds.length<=sizeLine):DE X ρ (.Tuple es j pos) (.tup ds):=
 PE.weak (z9 h) fun σ H Q ⟨S,ve,k⟩=>⟨S,ve,fun vs H' e rs=>⟨by rw [←rs.length];exact hl,fun p hp=>k _ _ (e.trans (Ext.new hp)) (Rds.dN (ve.ext e).dom hp rs)⟩⟩
theorem qf (h:DA X ρ es ds) (hl:ds.length<=sizeLine):DE X ρ (.List es pos) (.lst ds):=
 PE.weak (pR h) fun σ H Q ⟨S,ve,k⟩=>⟨S,ve,fun vs H' e rs=>⟨by rw [←rs.length];exact hl,fun p hp=>k _ _ (e.trans (Ext.new hp)) (Rds.iV (ve.ext e).dom hp rs)⟩⟩
noncomputable def CD (K:PySem.W.Frag) (r:List V->Hp->VK->Prop) (ds:List D) (d:D):Prop:=∀(xs:List V) (H:Hp) (S:Ad) (Q:VK),ae K H S ds xs->Dom H S->(∀v H',aF H H'->Rds K H' S d v->Q v H')->r xs H Q
theorem rY {r:List V->Hp->VK->Prop} (h:CD X.K r ds d) (σ:St) (H:Hp) (Q:VK) (q:tD X.K ρ d σ H Q):tCB r (tDA X.K ρ ds) σ H Q:=by
 obtain ⟨S,ve,k⟩:=q
 exact ⟨S,ve,fun vs H1 e1 rs=>h vs H1 S Q rs (ve.ext e1).dom fun v H' e3 r3=>k v H' (e1.trans e3) r3⟩
end
end CT
namespace CT
open PySem PySem.Spec L2
open PyProof.Rows hiding St
noncomputable def ItD (K:PySem.W.Frag) (S:Ad) (J:It) (its:List D) (H:Hp):Prop:=
 ∀(H':Hp) (S':Ad),Ext S H H'->(∀a,S' a->S a∨H a=none)->Dom H' S'->∀i:Nat,(∀d,its[i]?=some d->J.go i H'∧∀x H'',J.yld i H' x H''->aF H' H''∧Rds K H'' S' d x)∧(its.length<=i->J.stop i H')
noncomputable def tDI (K:PySem.W.Frag) (ρ:Rho) (its:List D):TI:=fun σ H R=>∃S,VE K H S ρ σ∧∀J H',aF H H'->ItD K S J its H'->R J H'
noncomputable def DI (X:Cx) (tg:Expr) (ρ:Rho) (iter:Expr) (its:List D):Prop:=PI X tg iter (tDI X.K ρ its)
noncomputable def yH (K:PySem.W.Frag) (S:Ad) (J:It) (its:List D) (H:Hp):Prop:=
 ∀H',aF H H'->Dom H' S->∀i:Nat,(∀d,its[i]?=some d->J.go i H'∧∀x H'',J.yld i H' x H''->aF H' H''∧Rds K H'' S d x)∧(its.length<=i->J.stop i H')
noncomputable def Aq (K:PySem.W.Frag) (ρ:Rho) (its:List D):TI:=fun σ H R=>∃S,VE K H S ρ σ∧∀J H',aF H H'->yH K S J its H'->R J H'
noncomputable def DI0 (X:Cx) (tg:Expr) (ρ:Rho) (iter:Expr) (its:List D):Prop:=PI X tg iter (Aq X.K ρ its)
section
variable {X:Cx} {tg e:Expr} {ρ:Rho} {pos:Pos}
theorem PI.weak {wi wi':TI} (h:PI X tg e wi) (w:∀σ H R,wi' σ H R->wi σ H R):PI X tg e wi':=fun pins s σ H R I q=>h pins s σ H R I (w σ H R q)
theorem DI.dI0 {its:List D} (h:DI X tg ρ e its):DI0 X tg ρ e its:=PI.weak h fun σ H R ⟨S,ve,k⟩=>⟨S,ve,fun J H' ex hJ=>k J H' ex fun H'' ex' dm i=>hJ H'' S (ex'.to S) (fun a h=>.inl h) dm i⟩
theorem ae.later {K:PySem.W.Frag} {S S':Ad} {H H':Hp} {xs:List D} {vs:List V} (r:ae K H S xs vs) (e:Ext S H H') (h:∀a,S' a->S a∨H a=none):ae K H' S' xs vs:=
 ((r.av (S':=fun a=>S a∨S' a) fun a z=>z.elim .inl (h a)).ext fun a o n q=>e a o (fun z=>n (.inl z)) q).av fun a z=>.inl (.inr z)
theorem Rds.kr {K:PySem.W.Frag} {S:Ad} {H:Hp} {xs:List D} {v:V} (r:Rds K H S (.lst xs) v):∃a vs,v=.ref a∧∀(H':Hp) (S':Ad),Ext S H H'->(∀a,S' a->S a∨H a=none)->SqL K H' a vs∧ae K H' S' xs vs:=by
 cases r with
 |lst h n r=>exact ⟨_,_,rfl,fun H' S' e z=>⟨.inl (CT.Rd.ext e n h),r.later e z⟩⟩
 |lstK h r=>exact ⟨_,_,rfl,fun H' S' e z=>⟨.inr h,r.later e z⟩⟩
theorem Rds.j3 {K:PySem.W.Frag} {S:Ad} {H:Hp} {xs:List D} {v:V} (r:Rds K H S (.tup xs) v):∃a vs,v=.ref a∧∀(H':Hp) (S':Ad),Ext S H H'->(∀a,S' a->S a∨H a=none)->SqT K H' a vs∧ae K H' S' xs vs:=by
 cases r with
 |tup h n r=>exact ⟨_,_,rfl,fun H' S' e z=>⟨.inl (.inl (e _ _ n h)),r.later e z⟩⟩
theorem wJ {K:PySem.W.Frag} {S:Ad} {H:Hp} {xs:List D} {a:Addr} {vs:List V} (h:∀(H':Hp) (S':Ad),Ext S H H'->(∀a,S' a->S a∨H a=none)->SqL K H' a vs∧ae K H' S' xs vs):ItD K S (Itl K a) xs H:=by
 intro H' S' e z dm i
 obtain ⟨sq,rl⟩:=h H' S' e z
 refine ⟨fun d hd=>?_,fun hi=>⟨vs,sq,by rw [←rl.length];exact hi⟩⟩
 obtain ⟨v,hv,r⟩:=rl.get hd
 refine ⟨⟨vs,v,sq,hv⟩,fun x H'' y=>?_⟩
 obtain ⟨e2,y⟩:=y
 subst e2
 have hx:=y vs sq
 rw [hv] at hx;cases hx
 exact ⟨Ext.refl,r⟩
theorem wL {K:PySem.W.Frag} {S:Ad} {H:Hp} {xs:List D} {a:Addr} {vs:List V} (h:∀(H':Hp) (S':Ad),Ext S H H'->(∀a,S' a->S a∨H a=none)->SqT K H' a vs∧ae K H' S' xs vs):ItD K S (Itt K a) xs H:=by
 intro H' S' e z dm i
 obtain ⟨sq,rl⟩:=h H' S' e z
 refine ⟨fun d hd=>?_,fun hi=>⟨vs,sq,by rw [←rl.length];exact hi⟩⟩
 obtain ⟨v,hv,r⟩:=rl.get hd
 refine ⟨⟨vs,v,sq,hv⟩,fun x H'' y=>?_⟩
 obtain ⟨e2,y⟩:=y
 subst e2
 have hx:=y vs sq
 rw [hv] at hx;cases hx
 exact ⟨Ext.refl,r⟩
theorem qU {xs:List D} (h:DE X ρ e (.lst xs)):DI X tg ρ e xs:=PI.weak (vF h) fun σ H R ⟨S,ve,k⟩=>⟨S,ve,fun v H' ex r=>by
 obtain ⟨a,vs,rfl,l⟩:=r.kr
 exact ⟨a,rfl,⟨vs,(l H' S Ext.refl fun a h=>.inl h).1⟩,k _ H' ex (wJ l)⟩⟩
theorem pQ {xs:List D} (h:DE X ρ e (.tup xs)):DI X tg ρ e xs:=PI.weak (yc h) fun σ H R ⟨S,ve,k⟩=>⟨S,ve,fun v H' ex r=>by
 obtain ⟨a,vs,rfl,l⟩:=r.j3
 exact ⟨a,rfl,⟨vs,(l H' S Ext.refl fun a h=>.inl h).1⟩,k _ H' ex (wL l)⟩⟩
noncomputable def h_ (n:Nat):List D:=(List.range n).map fun k:Nat=>D.int (k:Int)
theorem wy {K:PySem.W.Frag} {S:Ad} {H:Hp} {n:Nat}:ItD K S (Itr 0 n) (h_ n) H:=by
 intro H' S' e z dm i
 refine ⟨fun d hd=>?_,fun hi=>show n<=i by simpa [h_] using hi⟩
 have hi:i<n:=by
  have:=(List.getElem?_eq_some_iff.mp hd).1
  simpa [h_] using this
 refine ⟨hi,fun x H'' y=>?_⟩
 obtain ⟨e2,e3⟩:=y
 subst e2 e3
 have hd':d=.int (i:Int):=by
  rw [h_,List.getElem?_map,List.getElem?_range hi] at hd
  exact (Option.some.inj hd).symm
 subst hd'
 rw [Int.zero_add]
 exact ⟨Ext.refl,.int _⟩
theorem ue {a:Expr} {j:Int} {p:Pos} (hg:Gl X "range") (hm:X.mg "range"=none) (ha:DA X ρ [a] [.int j]) (h1: -(2^62)<=j) (h2:j<2^62) (hs:starEach [a] X.env=[(false,eval a X.env)]:=by rfl):DI X tg ρ (.Call (.Name "range" p) [a] [] pos) (h_ j.toNat):=
 PI.weak (qF hg hm ha hs) fun σ H R ⟨S,ve,k⟩=>⟨S,ve,fun vs H' ex rs=>by
  obtain ⟨v,rfl,r⟩:=rs.one
  rw [r.aX]
  exact ⟨j,rfl,h1,h2,k _ H' ex wy⟩⟩
inductive Sq:D->List D->Prop
 |lst (xs:List D):Sq (.lst xs) xs
 |tup (xs:List D):Sq (.tup xs) xs
theorem Sq.later {K:PySem.W.Frag} {S:Ad} {H:Hp} {d:D} {xs:List D} {v:V} (q:Sq d xs) (r:Rds K H S d v):∃b a vs,v=.ref a∧∀(H':Hp) (S':Ad),Ext S H H'->(∀a,S' a->S a∨H a=none)->SqB K H' b a vs∧ae K H' S' xs vs:=by
 cases q with
 |lst=>obtain ⟨a,vs,e,l⟩:=r.kr;exact ⟨false,a,vs,e,l⟩
 |tup=>obtain ⟨a,vs,e,l⟩:=r.j3;exact ⟨true,a,vs,e,l⟩
noncomputable def a_:List D->List D->List D
 |x::xs,y::ys=>.tup [x,y]::a_ xs ys
 |_,_=>[]
theorem mS:∀{xs ys:List D} {i:Nat} {d:D},(a_ xs ys)[i]?=some d->∃x y,xs[i]?=some x∧ys[i]?=some y∧d=.tup [x,y]
 |x::xs,y::ys,0,d,h=>by
  simp [a_] at h
  exact ⟨x,y,rfl,rfl,h.symm⟩
 |x::xs,y::ys,i+1,d,h=>by
  simp [a_] at h
  obtain ⟨x',y',h1,h2,h3⟩:=mS h
  exact ⟨x',y',by simpa using h1,by simpa using h2,h3⟩
 |[],_,_,_,h=>by simp [a_] at h
 |_::_,[],_,_,h=>by simp [a_] at h
theorem lV:∀{xs ys:List D},(a_ xs ys).length=min xs.length ys.length
 |x::xs,y::ys=>by simp [a_,lV]
 |[],_=>by simp [a_]
 |_::_,[]=>by simp [a_]
theorem wI {a b:Expr} {da db:D} {xs ys:List D} {elts:List Expr} {k} {tpos p:Pos} (hg:Gl X "zip") (hm:X.mg "zip"=none) (qa:Sq da xs) (qb:Sq db ys) (ha:DA X ρ [a,b] [da,db])
  (hs:starEach [a,b] X.env=[(false,eval a X.env),(false,eval b X.env)]:=by rfl) (hs2:starEach [b] X.env=[(false,eval b X.env)]:=by rfl):DI X (.Tuple elts k tpos) ρ (.Call (.Name "zip" p) [a,b] [] pos) (a_ xs ys):=
 PI.weak (vJ hg hm ha hs hs2) fun σ H R ⟨S,ve,kk⟩=>⟨S,ve,fun vs H' ex rs=>by
  obtain ⟨v,u,rfl,r1,r2⟩:=rs.two
  obtain ⟨b1,a1,vs1,rfl,l1⟩:=qa.later r1
  obtain ⟨b2,a2,vs2,rfl,l2⟩:=qb.later r2
  refine ⟨b1,b2,a1,a2,vs1,vs2,rfl,(l1 H' S Ext.refl fun a h=>.inl h).1,(l2 H' S Ext.refl fun a h=>.inl h).1,kk _ H' ex fun H2 S2 e2 z2 dm i=>?_⟩
  obtain ⟨s1,t1⟩:=l1 H2 S2 e2 z2
  obtain ⟨s2,t2⟩:=l2 H2 S2 e2 z2
  refine ⟨fun d hd=>?_,fun hi=>⟨vs1,vs2,s1,s2,?_⟩⟩
  ·obtain ⟨x,y,hx,hy,rfl⟩:=mS hd
   obtain ⟨x',hx',rx⟩:=t1.get hx
   obtain ⟨y',hy',ry⟩:=t2.get hy
   refine ⟨⟨vs1,vs2,x',y',s1,s2,hx',hy'⟩,fun z H3 yl=>?_⟩
   obtain ⟨T,x2,y2,hT,rfl,rfl,g1,g2⟩:=yl
   have e1:=g1 vs1 s1
   have e2':=g2 vs2 s2
   rw [hx'] at e1;cases e1
   rw [hy'] at e2';cases e2'
   exact ⟨Ext.new hT,Rds.dN dm hT (.cons rx (.cons ry .nil))⟩
  ·have h1:=t1.length
   have h2:=t2.length
   rw [lV] at hi
   omega⟩
end
noncomputable def Chg (ks:List Nat) (σ σ':St):Prop:=σ'.length=σ.length∧∀i:Nat,i∉ks->σ'[i]?=σ[i]?
theorem Chg.fgt {ks:List Nat} {σ σ':St} (c:Chg ks σ σ') (h:∀k∈ks,σ[k]?=some none):Fgt σ σ':=⟨c.1.symm,fun i v e=>by
 by_cases hi:i∈ks
 ·rw [h i hi] at e;cases e
 ·rw [c.2 i hi];exact e⟩
theorem Chg.trans {ks ls:List Nat} {σ σ' σ'':St} (a:Chg ks σ σ') (b:Chg ls σ' σ''):Chg (ks++ls) σ σ'':=⟨b.1.trans a.1,fun i hi=>by
 rw [List.mem_append,not_or] at hi
 exact (b.2 i hi.2).trans (a.2 i hi.1)⟩
noncomputable def tDG (K:PySem.W.Frag) (ρ:Rho) (d:D) (ρ':Rho) (ks:List Nat):TG:=fun v σ H Q=>∃S,VE K H S ρ σ∧Rds K H S d v∧∀σ',VE K H S ρ' σ'->Chg ks σ σ'->Q σ' H
noncomputable def Co (K:PySem.W.Frag) (ρ:Rho) (ds:List D) (ρ':Rho) (ks:List Nat):TGs:=fun vs σ H Q=>∃S,VE K H S ρ σ∧ae K H S ds vs∧∀σ',VE K H S ρ' σ'->Chg ks σ σ'->Q σ' H
noncomputable def DG (X:Cx) (tg:Expr) (ρ:Rho) (d:D) (ρ':Rho) (ks:List Nat):Prop:=PG X tg (tDG X.K ρ d ρ' ks)
noncomputable def DGs (X:Cx) (tgs:List Expr) (ρ:Rho) (ds:List D) (ρ':Rho) (ks:List Nat):Prop:=PGs X tgs (Co X.K ρ ds ρ' ks)
section
variable {X:Cx} {ρ ρ' ρ'':Rho} {d:D} {ds:List D} {ks ls:List Nat} {pos:Pos} {tg:Expr} {tgs:List Expr}
theorem PG.weak {g g':TG} (h:PG X tg g) (w:∀v σ H Q,g' v σ H Q->g v σ H Q):PG X tg g':=fun pins s σ H v u Q I r q=>h pins s σ H v u Q I r (w v σ H Q q)
theorem PGs.weak {g g':TGs} (h:PGs X tgs g) (w:∀v σ H Q,g' v σ H Q->g v σ H Q):PGs X tgs g':=fun pins s σ H v u Q I r q=>h pins s σ H v u Q I r (w v σ H Q q)
theorem wz {k:Nat} {x:Str} (hN:X.N.Nodup) (hi:X.N[k]?=some x) (hx:Loc X.env.scope x) (hf:X.fn x=true∨X.env.scope.names.lookup x=some .local:=by first|exact .inl rfl|exact .inr rfl|assumption):DG X (.Name x pos) ρ d (ρ.set k (.val d)) [k]:=
 PG.weak (xl hN hi hx hf) fun v σ H Q ⟨S,ve,r,q⟩=>q _ (ve.set r) ⟨by simp,fun i hi=>by
  rw [List.getElem?_set_ne]
  intro z;exact hi (by simp [z])⟩
theorem vC:DGs X [] ρ [] ρ []:=PGs.weak vc fun vs σ H Q ⟨S,ve,r,q⟩=>⟨by cases r;rfl,q σ ve ⟨rfl,fun _ _=>rfl⟩⟩
theorem sd (h1:DG X tg ρ d ρ' ks) (h2:DGs X tgs ρ' ds ρ'' ls) (hs:(assignEach (tg::tgs) X.env).map (·.2)=assign tg X.env::(assignEach tgs X.env).map (·.2):=by rfl):DGs X (tg::tgs) ρ (d::ds) ρ'' (ks++ls):=
 PGs.weak (sf h1 h2 hs) fun vs σ H Q ⟨S,ve,r,q⟩=>by
  cases r with
  |cons r1 r2=>exact ⟨_,_,rfl,S,ve,r1,fun σ' ve' c=>⟨S,ve',r2,fun σ'' ve'' c'=>q σ'' ve'' (c.trans c')⟩⟩
theorem zw {k} {n:Nat} (hc:X.calm=true) (h:DGs X tgs ρ ds ρ' ks) (hl:ds.length=n) (hn:(assignEach tgs X.env).length=n:=by rfl) (hst:(assignEach tgs X.env).findIdx? (·.1)=none:=by rfl):DG X (.Tuple tgs k pos) ρ (.tup ds) ρ' ks:=
 PG.weak (yf hc h hn hst) fun v σ H Q ⟨S,ve,r,q⟩=>by
  obtain ⟨a,vs,rfl,ha,rl⟩:=r.d3
  exact ⟨a,vs,rfl,.inl (.inl ha),by rw [←rl.length];exact hl,S,ve,rl,q⟩
end
noncomputable def tDB (K:PySem.W.Frag) (ρ:Rho) (out:List D):TB:=fun σ H ys Q=>∃S,VE K H S ρ σ∧ys.length+out.length<=sizeLine∧∀vs H',aF H H'->ae K H' S out vs->Q (ys++vs) H'
noncomputable def DB (Y:Cx) (acc:Addr) (m:Sem Unit) (ρ:Rho) (out:List D):Prop:=PB Y acc m (tDB Y.K ρ out)
noncomputable def DTs (Y:Cx) (ρ:Rho) (ifs:List Expr) (b:Bool):Prop:=PTs Y ifs (tDT Y.K ρ b)
theorem PB.weak {Y:Cx} {acc:Addr} {m:Sem Unit} {t t':TB} (h:PB Y acc m t) (w:∀σ H ys Q,t' σ H ys Q->t σ H ys Q):PB Y acc m t':=fun pins s σ H ys Q I f a q=>h pins s σ H ys Q I f a (w σ H ys Q q)
theorem PTs.weak {Y:Cx} {ifs:List Expr} {t t':TT} (h:PTs Y ifs t) (w:∀σ H Q,t' σ H Q->t σ H Q):PTs Y ifs t':=fun pins s σ H Q I q=>h pins s σ H Q I (w σ H Q q)
section
variable {Y:Cx} {acc:Addr} {ρ:Rho} {d:D}
theorem vG:DTs Y ρ [] true:=PTs.weak vX fun σ H Q ⟨S,ve,k⟩=>k H Ext.refl
theorem vY {c:Expr} {b:Bool} (h:DT Y ρ c b):DTs Y ρ [c] b:=wx h
theorem xq {elt:Expr} (he:DE Y ρ elt d):DB Y acc (do let _←call (.builtin "list.append") [.ref acc,←eval elt Y.env]) ρ [d]:=
 PB.weak (wY he) fun σ H ys Q ⟨S,ve,hl,k⟩=>⟨Nat.le_trans (Nat.le_add_right _ _) hl,S,ve,fun v H' e r=>k [v] H' e (.cons r .nil)⟩
noncomputable def oW (G:Rho->D->Rho->List Nat->Prop) (T:Rho->Bool->Prop) (B:Rho->List D->Prop) (ρ:Rho) (ks:List Nat) (d:D) (out:List D):Prop:=
 ∃ρ' b,G ρ d ρ' ks∧T ρ' b∧(b=true->B ρ' out)∧(b=false->out=[])
noncomputable def gA (K:PySem.W.Frag) (G:Rho->D->Rho->List Nat->Prop):TG:=fun v σ H Q=>∃ρ d ρ' ks,G ρ d ρ' ks∧tDG K ρ d ρ' ks v σ H Q
noncomputable def ttA (K:PySem.W.Frag) (T:Rho->Bool->Prop):TT:=fun σ H Q=>∃ρ b,T ρ b∧tDT K ρ b σ H Q
noncomputable def tbA (K:PySem.W.Frag) (B:Rho->List D->Prop):TB:=fun σ H ys Q=>∃ρ out,B ρ out∧tDB K ρ out σ H ys Q
theorem ou {tg:Expr} {G:Rho->D->Rho->List Nat->Prop} (h:∀ρ d ρ' ks,G ρ d ρ' ks->DG Y tg ρ d ρ' ks):PG Y tg (gA Y.K G):=fun pins s σ H v u Q I r ⟨_,_,_,_,g,q⟩=>h _ _ _ _ g pins s σ H v u Q I r q
theorem uV {ifs:List Expr} {T:Rho->Bool->Prop} (h:∀ρ b,T ρ b->DTs Y ρ ifs b):PTs Y ifs (ttA Y.K T):=fun pins s σ H Q I ⟨_,_,g,q⟩=>h _ _ g pins s σ H Q I q
theorem z8 {m:Sem Unit} {B:Rho->List D->Prop} (h:∀ρ out,B ρ out->DB Y acc m ρ out):PB Y acc m (tbA Y.K B):=fun pins s σ H ys Q I f a ⟨_,_,g,q⟩=>h _ _ g pins s σ H ys Q I f a q
theorem my {outs:List (List D)} {i:Nat} (h:i<outs.length):(outs.take (i+1)).flatten=(outs.take i).flatten++outs[i]:=by
 rw [List.take_succ_eq_append_getElem h,List.flatten_append]
 simp
theorem rB {K:PySem.W.Frag} {G:Rho->D->Rho->List Nat->Prop} {T:Rho->Bool->Prop} {B:Rho->List D->Prop} {ks:List Nat} {J:It} {its:List D} {outs:List (List D)} (hks:∀k∈ks,ρ[k]?=some .nil) (hl:its.length=outs.length)
  (ht:∀(i:Nat) d out,its[i]?=some d->outs[i]?=some out->oW G T B ρ ks d out) {σ:St} {H:Hp} {S:Ad} {ys:List V} {Q:List V->Hp->Prop} (ve:VE K H S ρ σ) (hJ:yH K S J its H) (hz:ys.length+outs.flatten.length<=sizeLine)
  (q:∀vs H',aF H H'->ae K H' S outs.flatten vs->Q (ys++vs) H'):iY (gA K G) (ttA K T) (tbA K B) J σ H ys Q:=by
 refine ⟨fun i n ys' H'=>n=its.length - i∧i<=its.length∧aF H H'∧∃vs,ys'=ys++vs∧ae K H' S (outs.take i).flatten vs,⟨its.length,by simp,Nat.zero_le _,Ext.refl,[],by simp,by simpa using ae.nil⟩,?_⟩
 rintro i n ys' H' ⟨rfl,hi,ex,vs,rfl,rv⟩
 have dm:=(ve.ext ex).dom
 obtain ⟨J1,J2⟩:=hJ H' ex dm i
 by_cases hlt:i<its.length
 ·have hlo:i<outs.length:=hl▸hlt
  have hd:its[i]?=some its[i]:=by simp [hlt]
  have ho:outs[i]?=some outs[i]:=by simp [hlo]
  obtain ⟨go,yld⟩:=J1 _ hd
  obtain ⟨ρ',b,hg,hts,hb1,hb2⟩:=ht i _ _ hd ho
  have step:=my hlo
  have lenO:(outs.take i).flatten.length+outs[i].length<=outs.flatten.length:=by
   have e:outs.flatten=(outs.take (i+1)).flatten++(outs.drop (i+1)).flatten:=by rw [←List.flatten_append,List.take_append_drop]
   rw [e,step,List.length_append,List.length_append]
   omega
  refine .inr ⟨go,fun x H1 y=>?_⟩
  obtain ⟨e1,r1⟩:=yld x H1 y
  have ve1:=(ve.ext ex).ext e1
  refine ⟨ρ,its[i],ρ',ks,hg,S,ve1,r1,fun σ2 ve2 c=>⟨c.fgt fun k hk=>ve.unset (hks k hk),ρ',b,hts,S,ve2,fun H2 e2=>?_⟩⟩
  cases b with
  |true=>
   refine eK ⟨ρ',_,hb1 rfl,S,ve2.ext e2,?_,fun us H3 e3 ru=>⟨its.length - (i+1),by omega,rfl,hlt,ex.trans (e1.trans (e2.trans e3)),vs++us,by rw [List.append_assoc],?_⟩⟩
   ·rw [List.length_append,←rv.length]
    omega
   ·rw [step]
    exact ae.app (rv.ext ((e1.trans (e2.trans e3)).to S)) ru
  |false=>
   refine fj ⟨its.length - (i+1),by omega,rfl,hlt,ex.trans (e1.trans e2),vs,rfl,?_⟩
   rw [step,hb2 rfl,List.append_nil]
   exact rv.ext ((e1.trans e2).to S)
 ·have e:i=its.length:=by omega
  subst e
  refine .inl ⟨J2 (Nat.le_refl _),q vs H' ex ?_⟩
  rw [hl,List.take_length] at rv
  exact rv
theorem vh {elt:Expr} {gens:List Comprehension} {scope:Scope} {pos:Pos} {n:Nat} {tg iter:Expr} {ifs:List Expr} {ks:List Nat} {its:List D} {outs:List (List D)} (hg:gens[n+1]?=some ⟨tg,iter,ifs,0⟩) (hc:Y.calm=true) (hx:∀e s,Y.xe e s->False)
  (hi:DI0 Y tg ρ iter its) (hks:∀k∈ks,ρ[k]?=some .nil) (hl:its.length=outs.length)
  (ht:∀(i:Nat) d out,its[i]?=some d->outs[i]?=some out->oW (DG Y tg) (fun ρ b=>DTs Y ρ ifs b) (DB Y acc (aV elt gens scope pos (n+1) (.ref acc) Y.env)) ρ ks d out)
  (hs:∀x,foldedSetIterable iter Y.env x=pure x:=by intro _;rfl):DB Y acc (aV elt gens scope pos n (.ref acc) Y.env) ρ outs.flatten:=
 PB.weak (vI hg hc hx hi (ou fun _ _ _ _ h=>h) (uV fun _ _ h=>h) (z8 fun _ _ h=>h) hs) fun σ H ys Q ⟨S,ve,hz,k⟩=>⟨S,ve,fun J H' e hJ=>rB hks hl ht (ve.ext e) hJ hz fun vs H'' e' r=>k vs H'' (e.trans e') r⟩
end
noncomputable def cy:Option Sl->Sl
 |some (.val d)=>.val d
 |some .nil=>.nil
 |_=>.any
noncomputable def cR (own:List Str) (cap:List (Str×Nat)) (ρ:Rho):Rho:=own.map (fun _=>.nil)++cap.map fun p=>cy ρ[p.2]?
theorem r9 {o:Option Sl}:¬(cy o).dD:=by
 unfold cy
 split<;>exact fun h=>h
theorem VE.cap {K:PySem.W.Frag} {H:Hp} {S:Ad} {ρ:Rho} {σ:St} {own:List Str} {cap:List (Str×Nat)} (ve:VE K H S ρ σ):VE K H S (cR own cap ρ) (cS own cap σ):=by
 have nown:∀(i:Nat) (x:Sl),(cR own cap ρ)[i]?=some x->¬x.dD:=fun i x h o=>by
  have hm:=List.mem_of_getElem? h
  unfold cR at hm
  rcases List.mem_append.mp hm with hm|hm
  ·obtain ⟨y,_,e⟩:=List.mem_map.mp hm;rw [←e] at o;exact o
  ·obtain ⟨p,_,e⟩:=List.mem_map.mp hm;rw [←e] at o;exact r9 o
 refine ⟨by simp [cR,cS],fun i x h=>?_,fun i j x y a _ h _ o=>absurd o (nown i x h),ve.dom⟩
 unfold cR at h
 unfold cS
 by_cases hi:i<own.length
 ·rw [List.getElem?_append_left (by simpa using hi),List.getElem?_map] at h
  rw [List.getElem?_append_left (by simpa using hi),List.getElem?_map]
  cases hq:own[i]? with
  |none=>rw [hq] at h;cases h
  |some y=>rw [hq] at h;cases h;exact ⟨none,rfl,rfl⟩
 ·have hi':own.length<=i:=Nat.le_of_not_lt hi
  rw [List.getElem?_append_right (by simpa using hi'),List.getElem?_map,List.length_map] at h
  rw [List.getElem?_append_right (by simpa using hi'),List.getElem?_map,List.length_map]
  cases hq:cap[i - own.length]? with
  |none=>rw [hq] at h;cases h
  |some p=>
   rw [hq] at h
   have e:cy ρ[p.2]?=x:=Option.some.inj h
   refine ⟨_,rfl,?_⟩
   subst e
   cases hr:ρ[p.2]? with
   |none=>trivial
   |some y=>
    cases y with
    |nil=>show (σ[p.2]?).join=none;rw [ve.unset hr];rfl
    |any=>trivial
    |owx xs=>trivial
    |new C x dx fs=>trivial
    |val d=>
     obtain ⟨u,hu,r⟩:=ve.get hr
     exact ⟨u,by show (σ[p.2]?).join=some u;rw [hu];rfl,r⟩
section
variable {X:Cx} {scope:Scope} {own:List Str} {cap:List (Str×Nat)} {ρ:Rho} {elt tg iter:Expr} {ifs:List Expr} {rest:List Comprehension} {pos:Pos} {ks:List Nat} {its:List D} {outs:List (List D)}
structure DC (X:Cx) (ρ:Rho) (e:Expr) (ds:List D):Prop where
 pe:PE X e (fun σ H Q=>∃S,VE X.K H S ρ σ∧∀a vs H',aF H H'->H' a=none->ae X.K H' S ds vs->Q (.ref a) (upd H' a (.lst vs)))
 ps:∀(i:Nat) (x:Str) (pos' spos:Pos),X.N.Nodup->X.N[i]?=some x->Loc X.env.scope x->(X.fn x=true∨X.env.scope.names.lookup x=some .local)->swapsWith e (some (.Name x pos')) spos.line X.env=pure true->
  PS X (.Assign [.Name x pos'] e spos) (mT (fun σ H Q=>∃S,VE X.K H S ρ σ∧∀a vs H',aF H H'->H' a=none->ae X.K H' S ds vs->Q (.ref a) (upd H' a (.lst vs))) (fU i))
theorem vt (cs:CS X scope own cap) (hc:X.calm=true) (hi:DI0 X tg ρ iter its) (hks:∀k∈ks,(cR own cap ρ)[k]?=some .nil) (hl:its.length=outs.length) (hz:outs.flatten.length<=sizeLine)
  (ht:∀(i:Nat) d out,its[i]?=some d->outs[i]?=some out->oW (fun ρ d ρ' ks=>∀p s h f,DG (cX X scope own cap p s h f) tg ρ d ρ' ks) (fun ρ b=>∀p s h f,DTs (cX X scope own cap p s h f) ρ ifs b)
   (fun ρ out=>∀p s h f acc,DB (cX X scope own cap p s h f) acc (aV elt (⟨tg,iter,ifs,0⟩::rest) scope pos 0 (.ref acc) (cY X scope s.heap.objs.size)) ρ out) (cR own cap ρ) ks d out)
  (hs:∀x,foldedSetIterable iter X.env x=pure x:=by intro _;rfl):DC X ρ (.ListComp elt (⟨tg,iter,ifs,0⟩::rest) scope pos) outs.flatten:=by
 have rd:∀(σ:St) (H:Hp) (Q:VK),(∃S,VE X.K H S ρ σ∧∀a vs H',aF H H'->H' a=none->ae X.K H' S outs.flatten vs->Q (.ref a) (upd H' a (.lst vs)))->
   pF own cap (Aq X.K ρ its) (gA X.K _) (ttA X.K _) (tbA X.K _) σ H Q:=fun σ H Q ⟨S,ve,k⟩=>⟨S,ve,fun J H1 e1 hJ=>rB hks hl ht (ve.ext e1).cap hJ (by simpa using hz) fun vs H2 e2 r=>⟨by rw [List.nil_append,←r.length];exact hz,fun a ha=>by
  rw [List.nil_append];exact k a vs H2 (e1.trans e2) ha r⟩⟩
 have g1:∀p s h f,PG (cX X scope own cap p s h f) tg (gA X.K (fun ρ d ρ' ks=>∀p s h f,DG (cX X scope own cap p s h f) tg ρ d ρ' ks)):=fun p s h f=>ou (Y:=cX X scope own cap p s h f) fun _ _ _ _ g=>g p s h f
 have g2:∀p s h f,PTs (cX X scope own cap p s h f) ifs (ttA X.K (fun ρ b=>∀p s h f,DTs (cX X scope own cap p s h f) ρ ifs b)):=fun p s h f=>uV (Y:=cX X scope own cap p s h f) fun _ _ g=>g p s h f
 have g3:∀p s h f acc,PB (cX X scope own cap p s h f) acc (aV elt (⟨tg,iter,ifs,0⟩::rest) scope pos 0 (.ref acc) (cY X scope s.heap.objs.size)) (tbA X.K (fun ρ out=>∀p s h f acc,DB (cX X scope own cap p s h f) acc (aV elt (⟨tg,iter,ifs,0⟩::rest) scope pos 0 (.ref acc) (cY X scope s.heap.objs.size)) ρ out)):=
  fun p s h f acc=>z8 (Y:=cX X scope own cap p s h f) fun _ _ g=>g p s h f acc
 refine ⟨PE.weak (vP cs hc hi g1 g2 g3 hs) rd,fun i x pos' spos hN hix hx hf hsw=>PS.weak (vd cs hc hN hix hx hi g1 g2 g3 hsw hs hf) fun D σ H q=>rd σ H _ q⟩
theorem DC.de {e:Expr} {ds:List D} (h:DC X ρ e ds):DE X ρ e (.lst ds):=PE.weak h.pe fun σ H Q ⟨S,ve,k⟩=>⟨S,ve,fun a vs H' e hp r=>k _ _ (e.trans (Ext.new hp)) (Rds.iV (ve.ext e).dom hp r)⟩
theorem yn {α β:Type} {l:List α} {g:α->β} {i:Nat} {b:β} (h:(l.map g)[i]?=some b):∃a,l[i]?=some a∧g a=b:=by
 rw [List.getElem?_map] at h
 cases e:l[i]? with
 |none=>rw [e] at h;cases h
 |some a=>rw [e] at h;exact ⟨a,rfl,Option.some.inj h⟩
variable {α:Type} {l:List α} {f g:α->D} {x:Str} {k:Nat} {px:Pos}
end
end CT
namespace CT
open PySem PySem.Spec L2
open PyProof.Rows hiding St
inductive Out where
 |nx (ρ:Rho)|rt (d:D)|rfx (c:Ow)
noncomputable abbrev Ad.and (S:Ad) (a:Addr):Ad:=fun b=>S b∨b=a
structure Fm (K:PySem.W.Frag) (H₀:Hp) (S₀:Ad) (H:Hp) (S:Ad) (ρ:Rho) (σ:St):Prop where
 ve:VE K H S ρ σ
 ext:aF H₀ H
 sub:∀a,S₀ a->S a
 new:∀a,S a->S₀ a∨H₀ a=none
 dm:Dom H₀ S₀
 own:∀(i:Nat) (x:Sl) (a:Addr),ρ[i]?=some x->x.dD->σ[i]?=some (some (.ref a))->H₀ a=none
noncomputable def mP (K:PySem.W.Frag) (H₀:Hp) (S₀:Ad) (E:Ends):Out->Prop
 |.nx ρ'=>∀σ' H' S',Fm K H₀ S₀ H' S' ρ' σ'->E.nx σ' H'
 |.rt d=>∀v H',aF H₀ H'->Rds K H' S₀ d v->E.rt v H'
 |.rfx c=>∀a o H',aF H₀ H'->H₀ a=none->H' a=some o->cL K H' (S₀.and a) a c o->E.rt (.ref a) H'
noncomputable def tDS (K:PySem.W.Frag) (ρ:Rho) (o:Out):TS:=fun E σ H=>∃H₀ S₀ S,Fm K H₀ S₀ H S ρ σ∧mP K H₀ S₀ E o
noncomputable def DS (X:Cx) (ρ:Rho) (st:Stmt) (o:Out):Prop:=PS X st (tDS X.K ρ o)
noncomputable def DSs (X:Cx) (ρ:Rho) (sts:List Stmt) (o:Out):Prop:=PSs X sts (tDS X.K ρ o)
noncomputable def tDF (K:PySem.W.Frag) (ρ:Rho) (xs:List D):TE:=fun σ H Q=>∃S,VE K H S ρ σ∧∀a vs H',aF H H'->H a=none->H' a=some (.lst vs)->ae K H' (S.and a) xs vs->Q (.ref a) H'
noncomputable def DF (X:Cx) (ρ:Rho) (e:Expr) (xs:List D):Prop:=PE X e (tDF X.K ρ xs)
noncomputable def oV (K:PySem.W.Frag) (ρ:Rho) (c:Ow):TE:=fun σ H Q=>∃S,VE K H S ρ σ∧∀a o H',aF H H'->H a=none->H' a=some o->cL K H' (S.and a) a c o->Q (.ref a) H'
noncomputable def DFx (X:Cx) (ρ:Rho) (e:Expr) (c:Ow):Prop:=PE X e (oV X.K ρ c)
section
variable {K:PySem.W.Frag} {H₀ H H':Hp} {S₀ S:Ad} {ρ:Rho} {σ:St}
theorem Ext.back {a:Addr} (e:aF H H') (h:H' a=none):H a=none:=by
 cases q:H a with
 |none=>rfl
 |some o=>rw [e a o (fun z=>z) q] at h;cases h
theorem Fm.grow (f:Fm K H₀ S₀ H S ρ σ) (e:aF H H'):Fm K H₀ S₀ H' S ρ σ:=⟨f.ve.ext e,f.ext.trans e,f.sub,f.new,f.dm,f.own⟩
theorem Fm.set {i:Nat} {d:D} {u:V} (f:Fm K H₀ S₀ H S ρ σ) (r:Rds K H S d u):Fm K H₀ S₀ H S (ρ.set i (.val d)) (σ.set i (some u)):=⟨f.ve.set r,f.ext,f.sub,f.new,f.dm,fun j x a h o h2=>by
 by_cases hj:i=j
 ·subst hj
  have hi:=(List.getElem?_eq_some_iff.mp h).1
  rw [List.getElem?_set_self (by simpa using hi)] at h;cases h;exact o.elim
 ·rw [List.getElem?_set_ne hj] at h h2
  exact f.own j x a h o h2⟩
theorem Fm.out (f:Fm K H₀ S₀ H S ρ σ) {d:D} {v:V} (r:Rds K H S d v):Rds K H S₀ d v:=r.av fun a h=>.inl (f.sub a h)
theorem RO.av {S':Ad} {x:Sl} {v:Option V} (e:∀a,S' a->S a∨H a=none) (up:∀a,v=some (.ref a)->S a->S' a) (r:RO K H S x v):RO K H S' x v:=by
 cases x with
 |nil=>exact r
 |any=>trivial
 |val d=>obtain ⟨u,h,r⟩:=r;exact ⟨u,h,r.av e⟩
 |owx c=>obtain ⟨a,vs,h,s,o,r⟩:=r;exact ⟨a,vs,h,up a h s,o,r.av e⟩
 |new C x dx fs=>obtain ⟨gs,h,s,o,r⟩:=r;exact ⟨gs,h,up _ h s,o,r.av e⟩
theorem Fm.pV {i:Nat} {c:Ow} {a:Addr} {ob:HO} (f:Fm K H₀ S₀ H S ρ σ) (e:aF H H') (hn:H a=none) (ha:H' a=some ob) (r:cL K H' (S.and a) a c ob):
  Fm K H₀ S₀ H' (S.and a) (ρ.set i (.owx c)) (σ.set i (some (.ref a))):=by
 have nS:∀b,S b->b≠a:=fun b h z=>f.ve.dom b h (by rw [z];exact hn)
 have up:∀(x:Sl) (v:Option V),RO K H S x v->RO K H' (S.and a) x v:=fun x v r=>(RO.av (S':=S.and a) (fun b h=>h.imp_right fun z=>by rw [z];exact hn) (fun b _ h=>.inl h) r).ext e
 refine ⟨⟨by simpa using f.ve.len,fun j x h=>?_,fun j k x y b hjk h1 h2 o1 o2 h3 h4=>?_,fun b h=>?_⟩,f.ext.trans e,fun b h=>.inl (f.sub b h),fun b h=>?_,f.dm,fun j x b h o h2=>?_⟩
 ·by_cases hj:i=j
  ·subst hj
   have hi:=(List.getElem?_eq_some_iff.mp h).1
   rw [List.getElem?_set_self (by simpa using hi)] at h
   cases h
   exact ⟨some (.ref a),List.getElem?_set_self (f.ve.len▸(by simpa using hi)),a,ob,rfl,.inr rfl,ha,r⟩
  ·rw [List.getElem?_set_ne hj] at h ⊢
   obtain ⟨v,h1,h2⟩:=f.ve.rel j x h
   exact ⟨v,h1,up x v h2⟩
 ·
  have own_ne:∀(m:Nat) (x:Sl) (c:Addr),ρ[m]?=some x->x.dD->σ[m]?=some (some (.ref c))->S c:=fun m x c hm ho hs=>by
   obtain ⟨v,q1,q2⟩:=f.ve.rel m x hm
   rw [hs] at q1;cases q1
   cases x with
   |owx c=>obtain ⟨a',_,z,s,_⟩:=q2;cases z;exact s
   |new C x dx fs=>obtain ⟨_,z,s,_⟩:=q2;cases z;exact s
   |nil=>exact ho.elim
   |any=>exact ho.elim
   |val d=>exact ho.elim
  by_cases hj:i=j
  ·subst hj
   have hi:=(List.getElem?_eq_some_iff.mp h1).1
   rw [List.getElem?_set_self (by rw [←f.ve.len];simpa using hi)] at h3
   cases h3
   rw [List.getElem?_set_ne hjk] at h2 h4
   exact nS _ (own_ne k y _ h2 o2 h4) rfl
  ·by_cases hk:i=k
   ·subst hk
    have hi:=(List.getElem?_eq_some_iff.mp h2).1
    rw [List.getElem?_set_self (by rw [←f.ve.len];simpa using hi)] at h4
    cases h4
    rw [List.getElem?_set_ne hj] at h1 h3
    exact nS _ (own_ne j x _ h1 o1 h3) rfl
   ·rw [List.getElem?_set_ne hj] at h1 h3
    rw [List.getElem?_set_ne hk] at h2 h4
    exact f.ve.dist j k x y b hjk h1 h2 o1 o2 h3 h4
 ·rcases h with h|h
  ·exact (f.ve.dom.ext e) b h
  ·rw [h,ha];intro z;cases z
 ·rcases h with h|h
  ·exact f.new b h
  ·rw [h];exact .inr (f.ext.back hn)
 ·by_cases hj:i=j
  ·subst hj
   have hi:=(List.getElem?_eq_some_iff.mp h).1
   rw [List.getElem?_set_self (by rw [←f.ve.len];simpa using hi)] at h2
   cases h2
   exact f.ext.back hn
  ·rw [List.getElem?_set_ne hj] at h h2
   exact f.own j x b h o h2
theorem Fm.xW {i:Nat} {c c':Ow} {a:Addr} {ob:HO} (f:Fm K H₀ S₀ H S ρ σ) (hr:ρ[i]?=some (.owx c)) (hs:σ[i]?=some (some (.ref a))) (r:cL K H S a c' ob):Fm K H₀ S₀ (upd H a ob) S (ρ.set i (.owx c')) σ:=by
 have hi:=(List.getElem?_eq_some_iff.mp hr).1
 obtain ⟨v,q1,a',vs,z,sa,ha,_⟩:=f.ve.rel i _ hr
 rw [hs] at q1;cases q1;cases z
 have e:Ext S H (upd H a ob):=Ext.set sa
 refine ⟨⟨by simpa using f.ve.len,fun j x h=>?_,fun j k x y b hjk h1 h2 o1 o2 h3=>?_,fun b h z=>?_⟩,fun b o n h=>?_,f.sub,f.new,f.dm,fun j x b h o h2=>?_⟩
 ·by_cases hj:i=j
  ·subst hj
   rw [List.getElem?_set_self hi] at h
   cases h
   exact ⟨_,hs,a,ob,rfl,sa,ao,r.ext e⟩
  ·rw [List.getElem?_set_ne hj] at h
   obtain ⟨v,h1,h2⟩:=f.ve.rel j x h
   refine ⟨v,h1,?_⟩
   cases x with
   |nil=>exact h2
   |any=>trivial
   |val d=>obtain ⟨u,p,r⟩:=h2;exact ⟨u,p,r.ext e⟩
   |owx c=>
    obtain ⟨b,ws,p,s,o,r⟩:=h2
    subst p
    have nb:b≠a:=fun z=>f.ve.dist i j _ _ a hj hr h trivial trivial hs (by rw [h1,z])
    exact ⟨b,ws,rfl,s,by rw [ag nb];exact o,r.ext e⟩
   |new C b dx fs=>
    obtain ⟨gs,p,s,o,r⟩:=h2
    subst p
    have nb:b≠a:=fun z=>f.ve.dist i j _ _ a hj hr h trivial trivial hs (by rw [h1,z])
    exact ⟨gs,rfl,s,by rw [ag nb];exact o,r.ext e⟩
 ·by_cases hj:i=j
  ·subst hj
   rw [List.getElem?_set_ne hjk] at h2
   exact f.ve.dist i k _ y b hjk hr h2 trivial o2 h3
  ·rw [List.getElem?_set_ne hj] at h1
   by_cases hk:i=k
   ·subst hk
    exact f.ve.dist j i x _ b hjk h1 hr o1 trivial h3
   ·rw [List.getElem?_set_ne hk] at h2
    exact f.ve.dist j k x y b hjk h1 h2 o1 o2 h3
 ·by_cases hb:b=a
  ·rw [hb,ao] at z;cases z
  ·rw [ag hb] at z;exact f.ve.dom b h z
 ·have nb:b≠a:=fun z=>by
   have:=f.own i _ a hr trivial hs
   rw [←z,h] at this;cases this
  rw [ag nb];exact f.ext b o n h
 ·by_cases hj:i=j
  ·subst hj
   exact f.own i _ b hr trivial h2
  ·rw [List.getElem?_set_ne hj] at h
   exact f.own j x b h o h2
theorem Fm.qk {i:Nat} {xs ys:List D} {a:Addr} {us:List V} (f:Fm K H₀ S₀ H S ρ σ) (hr:ρ[i]?=some (.own xs)) (hs:σ[i]?=some (some (.ref a))) (r:ae K H S ys us):Fm K H₀ S₀ (upd H a (.lst us)) S (ρ.set i (.own ys)) σ:=f.xW (c':=.l ys) hr hs ⟨us,rfl,r⟩
noncomputable def putD (f:Str) (d:D):List (Str×D)->List (Str×D)
 |[]=>[(f,d)]
 |(g,x)::r=>if g=f then (g,d)::r else (g,x)::putD f d r
theorem aG.put {f:Str} {d:D} {v:V} (q:Rds K H S d v):∀{ds:List (Str×D)} {vs:List (Str×V)},aG K H S ds vs->aG K H S (putD f d ds) (bY f v vs)
 |[],_,.nil=>.cons q .nil
 |(n,x)::r,_,.cons q' t=>by
  unfold putD bY
  split
  ·exact .cons q t
  ·exact .cons q' (aG.put q t)
theorem aG.len:∀{ds:List (Str×D)} {vs:List (Str×V)},aG K H S ds vs->ds.length=vs.length
 |[],_,.nil=>rfl
 |_::_,_,.cons _ t=>by rw [List.length_cons,List.length_cons,aG.len t]
theorem Fm.Aj {i:Nat} {C a dx:Addr} {fs hs:List (Str×D)} {us:List (Str×V)} (f:Fm K H₀ S₀ H S ρ σ) (hr:ρ[i]?=some (.new C a dx fs)) (r:aG K H S hs us):Fm K H₀ S₀ (upd H a (.ins C dx us)) S (ρ.set i (.new C a dx hs)) σ:=by
 have hi:=(List.getElem?_eq_some_iff.mp hr).1
 obtain ⟨v,hs',gs,z,sa,ha,_⟩:=f.ve.rel i _ hr
 subst z
 have e:Ext S H (upd H a (.ins C dx us)):=Ext.set sa
 refine ⟨⟨by simpa using f.ve.len,fun j x h=>?_,fun j k x y b hjk h1 h2 o1 o2 h3=>?_,fun b h z=>?_⟩,fun b o n h=>?_,f.sub,f.new,f.dm,fun j x b h o h2=>?_⟩
 ·by_cases hj:i=j
  ·subst hj
   rw [List.getElem?_set_self hi] at h
   cases h
   exact ⟨_,hs',us,rfl,sa,ao,r.ext e⟩
  ·rw [List.getElem?_set_ne hj] at h
   obtain ⟨v,h1,h2⟩:=f.ve.rel j x h
   refine ⟨v,h1,?_⟩
   cases x with
   |nil=>exact h2
   |any=>trivial
   |val d=>obtain ⟨u,p,r⟩:=h2;exact ⟨u,p,r.ext e⟩
   |owx c=>
    obtain ⟨b,ws,p,s,o,r⟩:=h2
    subst p
    have nb:b≠a:=fun z=>f.ve.dist i j _ _ a hj hr h trivial trivial hs' (by rw [h1,z])
    exact ⟨b,ws,rfl,s,by rw [ag nb];exact o,r.ext e⟩
   |new C b dx fs=>
    obtain ⟨gs,p,s,o,r⟩:=h2
    subst p
    have nb:b≠a:=fun z=>f.ve.dist i j _ _ a hj hr h trivial trivial hs' (by rw [h1,z])
    exact ⟨gs,rfl,s,by rw [ag nb];exact o,r.ext e⟩
 ·by_cases hj:i=j
  ·subst hj
   rw [List.getElem?_set_ne hjk] at h2
   exact f.ve.dist i k _ y b hjk hr h2 trivial o2 h3
  ·rw [List.getElem?_set_ne hj] at h1
   by_cases hk:i=k
   ·subst hk
    exact f.ve.dist j i x _ b hjk h1 hr o1 trivial h3
   ·rw [List.getElem?_set_ne hk] at h2
    exact f.ve.dist j k x y b hjk h1 h2 o1 o2 h3
 ·by_cases hb:b=a
  ·rw [hb,ao] at z;cases z
  ·rw [ag hb] at z;exact f.ve.dom b h z
 ·have nb:b≠a:=fun z=>by
   have:=f.own i _ a hr trivial hs'
   rw [←z,h] at this;cases this
  rw [ag nb];exact f.ext b o n h
 ·by_cases hj:i=j
  ·subst hj
   exact f.own i _ b hr trivial h2
  ·rw [List.getElem?_set_ne hj] at h
   exact f.own j x b h o h2
end
section
variable {X:Cx} {ρ ρ':Rho} {e:Expr} {d:D} {st:Stmt} {sts:List Stmt} {o:Out} {pos:Pos} {xs:List D}
theorem DF.x (h:DF X ρ e xs):DFx X ρ e (.l xs):=PE.weak h fun σ H Q ⟨S,ve,k⟩=>⟨S,ve,fun a vs H' ex hn ha r=>k a (.lst vs) H' ex hn ha ⟨vs,rfl,r⟩⟩
theorem DFx.de {c:Ow} (h:DFx X ρ e c):DE X ρ e c.D:=PE.weak h fun σ H Q ⟨S,ve,k⟩=>⟨S,ve,fun a o H' ex hn ha r=>k _ H' ex ((r.av fun b h=>.inl (.inl h)).rds ha (ve.dom.not hn))⟩
theorem DF.de (h:DF X ρ e xs):DE X ρ e (.lst xs):=PE.weak h fun σ H Q ⟨S,ve,k⟩=>⟨S,ve,fun a vs H' ex hn ha r=>k _ H' ex (.lst (.inl ha) (ve.dom.not hn) (r.av fun b h=>.inl (.inl h)))⟩
theorem DC.df (h:DC X ρ e xs):DF X ρ e xs:=PE.weak h.pe fun σ H Q ⟨S,ve,k⟩=>⟨S,ve,fun a vs H' ex hp r=>k a vs _ (ex.trans (Ext.new hp)) (ex.back hp) ao ((r.av (S':=S.and a) fun b h=>h.imp_right fun z=>by rw [z];exact hp).ext ((Ext.new hp).to _))⟩
theorem yK {es:List Expr} (h:DA X ρ es xs) (hl:xs.length<=sizeLine):DF X ρ (.List es pos) xs:=
 PE.weak (pR h) fun σ H Q ⟨S,ve,k⟩=>⟨S,ve,fun vs H' ex rs=>⟨by rw [←rs.length];exact hl,fun p hp=>k p vs _ (ex.trans (Ext.new hp)) (ex.back hp) ao ((rs.av (S':=S.and p) fun b h=>h.imp_right fun z=>by rw [z];exact hp).ext ((Ext.new hp).to _))⟩⟩
theorem n4:DSs X ρ [] (.nx ρ):=PSs.weak wW fun E σ H ⟨H₀,S₀,S,f,k⟩=>k σ H S f
theorem fS (h1:DS X ρ st (.nx ρ')) (h2:DSs X ρ' sts o):DSs X ρ (st::sts) o:=PSs.weak (fX h1 h2) fun E σ H ⟨H₀,S₀,S,f,k⟩=>⟨H₀,S₀,S,f,fun σ' H' S' f'=>⟨H₀,S₀,S',f',k⟩⟩
noncomputable def Out.ends:Out->Prop
 |.nx _=>False
 |_=>True
theorem nJ (h1:DS X ρ st o) (ho:o.ends):DSs X ρ (st::sts) o:=PSs.weak (fX h1 (kh (sts:=sts))) fun E σ H ⟨H₀,S₀,S,f,k⟩=>⟨H₀,S₀,S,f,by
 cases o with
 |nx _=>exact ho.elim
 |rt d=>exact k
 |rfx xs=>exact k⟩
theorem v9:DS X ρ (.Pass pos) (.nx ρ):=PS.weak wF fun E σ H ⟨H₀,S₀,S,f,k⟩=>k σ H S f
theorem ye (h:DE X ρ e d):DS X ρ (.Return (some e) pos) (.rt d):=PS.weak (iN h) fun E σ H ⟨H₀,S₀,S,f,k⟩=>⟨S,f.ve,fun v H' ex r=>k v H' (f.ext.trans ex) ((f.grow ex).out r)⟩
theorem xa:DS X ρ (.Return none pos) (.rt .non):=PS.weak wK fun E σ H ⟨H₀,S₀,S,f,k⟩=>k .non H f.ext .non
theorem sj {c:Ow} (h:DFx X ρ e c):DS X ρ (.Return (some e) pos) (.rfx c):=PS.weak (iN h) fun E σ H ⟨H₀,S₀,S,f,k⟩=>⟨S,f.ve,fun a vs H' ex hn ha r=>k a vs H' (f.ext.trans ex) (f.ext.back hn) ha (r.av fun b h=>.inl (h.imp_left (f.sub b)))⟩
theorem v3 {i:Nat} {x:Str} {p:Pos} {c:Ow} (hN:X.N[i]?=some x) (hv:Vis X.env.scope x) (hr:ρ[i]?=some (.owx c)) (hd:(x==("__debug__":Str))=false:=by decide) (hcd:(x==("__classdict__":Str))=false:=by decide):
  DS X ρ (.Return (some (.Name x p)) pos) (.rfx c):=PS.weak (iN (dM hN hv hd hcd)) fun E σ H ⟨H₀,S₀,S,f,k⟩=>by
 obtain ⟨v,h1,a,vs,rfl,sa,ha,r⟩:=f.ve.rel i _ hr
 exact ⟨_,h1,k a vs H f.ext (f.own i _ a hr trivial h1) ha (r.av fun b h=>.inl (h.elim (f.sub b) fun z=>by rw [z];exact sa))⟩
theorem nC (h:DE X ρ e d) (hs:swapsWith e none pos.line X.env=pure false:=by rfl):DS X ρ (.Expr e pos) (.nx ρ):=PS.weak (gO h hs) fun E σ H ⟨H₀,S₀,S,f,k⟩=>⟨S,f.ve,fun v H' ex r=>k σ H' S (f.grow ex)⟩
variable {i:Nat} {x:Str} {pos':Pos}
theorem qJ (hN:X.N.Nodup) (hi:X.N[i]?=some x) (hx:Loc X.env.scope x) (he:DE X ρ e d) (hs:swapsWith e (some (.Name x pos')) pos.line X.env=pure false:=by rfl) (hf:X.fn x=true∨X.env.scope.names.lookup x=some .local:=by first|exact .inl rfl|exact .inr rfl|assumption):
  DS X ρ (.Assign [.Name x pos'] e pos) (.nx (ρ.set i (.val d))):=PS.weak (mV hN hi hx he hs hf) fun E σ H ⟨H₀,S₀,S,f,k⟩=>⟨S,f.ve,fun v H' ex r=>k _ H' S ((f.grow ex).set r)⟩
theorem ir {c:Ow} (hN:X.N.Nodup) (hi:X.N[i]?=some x) (hx:Loc X.env.scope x) (he:DFx X ρ e c) (hs:swapsWith e (some (.Name x pos')) pos.line X.env=pure false:=by rfl) (hf:X.fn x=true∨X.env.scope.names.lookup x=some .local:=by first|exact .inl rfl|exact .inr rfl|assumption):
  DS X ρ (.Assign [.Name x pos'] e pos) (.nx (ρ.set i (.owx c))):=PS.weak (mV hN hi hx he hs hf) fun E σ H ⟨H₀,S₀,S,f,k⟩=>⟨S,f.ve,fun a vs H' ex hn ha r=>k _ H' _ (f.pV ex hn ha r)⟩
theorem km {a:Expr} {p ap cp:Pos} (hN:X.N[i]?=some x) (hv:Vis X.env.scope x) (hr:ρ[i]?=some (.own xs)) (he:DE X ρ a d) (hz:xs.length<sizeLine) (hd:(x==("__debug__":Str))=false:=by decide) (hcd:(x==("__classdict__":Str))=false:=by decide)
  (hs:swapsWith (.Call (.Attribute (.Name x p) "append" ap) [a] [] cp) none pos.line X.env=pure false:=by rfl)
  (hbase:attributeBase (.Name x p) "append" X.env (eval (.Name x p) X.env)=eval (.Name x p) X.env:=by rfl)
  (hfew:((backTo cp (starEach [a] X.env)).all (fun x=>!x.1)&&(backToKw cp (keywordEach [] X.env)).all (fun x=>x.1.isSome)&&decide (([a]:List Expr).length+([]:List Keyword).length+(if ([]:List Keyword).isEmpty then 0 else 1)<30))=true:=by rfl)
  (hline:(ap.endLine==cp.line)=true:=by rfl) (hst:starEach [a] X.env=(false,eval a X.env)::starEach [] X.env:=by rfl) (hplain:(backTo cp (starEach [] X.env)).any (·.1)=false:=by rfl):
  DS X ρ (.Expr (.Call (.Attribute (.Name x p) "append" ap) [a] [] cp) pos) (.nx (ρ.set i (.own (xs++[d])))):=
 PS.weak (gO (BI PySem.F.plainAttrs_list PySem.F.slot_list_append PySem.F.type_list_append qr (dM hN hv hd hcd) (nM he rS hst) hbase hfew hline hst hplain) hs) fun E σ H ⟨H₀,S₀,S,f,k⟩=>by
  obtain ⟨v,h1,l,_,rfl,sa,ha,vs,rfl,r⟩:=f.ve.rel i _ hr
  refine ⟨_,h1,.inl ⟨rfl,vs,.inl (.inl ha)⟩,S,f.ve,fun y H' ex ry=>⟨l,vs,y,rfl,rfl,ex _ _ (fun z=>z) ha,by rw [←r.length];exact hz,?_⟩⟩
  exact k _ _ S ((f.grow ex).qk hr h1 (ae.app (r.ext (ex.to S)) (.cons ry .nil)))
theorem pW {C a dx:Addr} {fs:List (Str×D)} {fl:Str} {p:Pos} (hN:X.N[i]?=some x) (hv:Vis X.env.scope x) (hr:ρ[i]?=some (.new C a dx fs)) (c:Cls X.K C) (na:a7 X.K C fl) (hl:fs.length<1000) (he:DE X ρ e d)
  (hs:swapsWith e (some (.Attribute (.Name x p) fl pos')) pos.line X.env=pure false:=by rfl) (hd:(x==("__debug__":Str))=false:=by decide) (hcd:(x==("__classdict__":Str))=false:=by decide):
  DS X ρ (.Assign [.Attribute (.Name x p) fl pos'] e pos) (.nx (ρ.set i (.new C a dx (putD fl d fs)))):=
 PS.weak (zu (dM hN hv hd hcd) he hs) fun E σ H ⟨H₀,S₀,S,f,k⟩=>⟨S,f.ve,fun v H' ex r=>by
  have f':=f.grow ex
  obtain ⟨w,h1,gs,rfl,sa,ha,rf⟩:=f'.ve.rel i _ hr
  exact ⟨_,h1,a,C,dx,gs,rfl,ha,c,na,by rw [←rf.len];exact hl,k _ _ S (f'.Aj hr (rf.put r))⟩⟩
theorem gN {sts:List Stmt}:PSs X sts (fun E σ H=>∃ρ o,DSs X ρ sts o∧tDS X.K ρ o E σ H):=fun pins s σ H D I ⟨_,_,h,q⟩=>h pins s σ H D I q
theorem oj {c:Expr} {a b:List Stmt} {q:Bool} (hc:DT X ρ c q) (ha:q=true->DSs X ρ a o) (hb:q=false->DSs X ρ b o):DS X ρ (.If c a b pos) o:=
 PS.weak (uE hc (gN (sts:=a)) (gN (sts:=b))) fun E σ H ⟨H₀,S₀,S,f,k⟩=>⟨S,f.ve,fun H' ex=>by
  cases q with
  |true=>exact eK ⟨ρ,o,ha rfl,H₀,S₀,S,f.grow ex,k⟩
  |false=>exact fj ⟨ρ,o,hb rfl,H₀,S₀,S,f.grow ex,k⟩⟩
end
end CT
namespace CT
open PySem PySem.Spec L2
open PyProof.Rows hiding St
section
variable {X:Cx} {ρ ρ':Rho} {e:Expr} {d:D} {o:Out} {pos:Pos} {xs:List D} {i:Nat}
theorem Fm.give {K:PySem.W.Frag} {H₀ H:Hp} {S₀ S:Ad} {σ:St} {c:Ow} (f:Fm K H₀ S₀ H S ρ σ) (hr:ρ[i]?=some (.owx c)):∃S',(∀a,S' a->S a)∧Fm K H₀ S₀ H S' (ρ.set i (.val c.D)) σ:=by
 have hi:=(List.getElem?_eq_some_iff.mp hr).1
 obtain ⟨v,q1,a,vs,rfl,sa,ha,r⟩:=f.ve.rel i _ hr
 have own_ne:∀(m:Nat) (x:Sl) (c:Addr),i≠m->ρ[m]?=some x->x.dD->σ[m]?=some (some (.ref c))->c≠a:=fun m x c hm h ho hs z=>f.ve.dist i m _ x a hm hr h trivial ho q1 (by rw [hs,z])
 refine ⟨fun b=>S b∧b≠a,fun b h=>h.1,⟨⟨by simpa using f.ve.len,fun j x h=>?_,fun j k x y b hjk h1 h2 o1 o2 h3=>?_,fun b h=>f.ve.dom b h.1⟩,f.ext,fun b h=>⟨f.sub b h,fun z=>?_⟩,fun b h=>f.new b h.1,f.dm,fun j x b h o h2=>?_⟩⟩
 ·by_cases hj:i=j
  ·subst hj
   rw [List.getElem?_set_self hi] at h
   cases h
   exact ⟨_,q1,_,rfl,(r.av fun b h=>.inl h.1).rds ha fun z=>z.2 rfl⟩
  ·rw [List.getElem?_set_ne hj] at h
   obtain ⟨v,h1,h2⟩:=f.ve.rel j x h
   refine ⟨v,h1,?_⟩
   cases x with
   |nil=>exact h2
   |any=>trivial
   |val d=>obtain ⟨u,p,r⟩:=h2;exact ⟨u,p,r.av fun b h=>.inl h.1⟩
   |owx zs=>exact RO.av (x:=.owx zs) (fun b h=>.inl h.1) (fun b z s=>⟨s,own_ne j _ b hj h trivial (by rw [h1,z])⟩) h2
   |new C y dx fs=>exact RO.av (x:=.new C y dx fs) (fun b h=>.inl h.1) (fun b z s=>⟨s,own_ne j _ b hj h trivial (by rw [h1,z])⟩) h2
 ·have n1:i≠j:=fun z=>by
   subst z
   rw [List.getElem?_set_self hi] at h1;cases h1;exact o1
  have n2:i≠k:=fun z=>by
   subst z
   rw [List.getElem?_set_self hi] at h2;cases h2;exact o2
  rw [List.getElem?_set_ne n1] at h1
  rw [List.getElem?_set_ne n2] at h2
  exact f.ve.dist j k x y b hjk h1 h2 o1 o2 h3
 ·have:=f.own i _ a hr trivial q1
  exact f.dm b h (by rw [z];exact this)
 ·have n1:i≠j:=fun z=>by
   subst z
   rw [List.getElem?_set_self hi] at h;cases h;exact o
  rw [List.getElem?_set_ne n1] at h
  exact f.own j x b h o h2
theorem VE.give {K:PySem.W.Frag} {H:Hp} {S:Ad} {σ:St} {c:Ow} (f:VE K H S ρ σ) (hr:ρ[i]?=some (.owx c)):∃S',VE K H S' (ρ.set i (.val c.D)) σ:=by
 have F:Fm K (fun _=>none) no H S ρ σ:=⟨f,(fun a o _ h=>by cases h),fun a h=>h.elim,fun a h=>.inr rfl,fun a h=>h.elim,fun _ _ _ _ _ _=>rfl⟩
 obtain ⟨S',_,f'⟩:=F.give hr
 exact ⟨S',f'.ve⟩
theorem vx {q:Bool} {c:Ow} (hr:ρ[i]?=some (.owx c)) (h:DT X (ρ.set i (.val c.D)) e q):DT X ρ e q:=PT.weak h fun σ H Q ⟨S,ve,k⟩=>by
 obtain ⟨S',ve'⟩:=ve.give hr
 exact ⟨S',ve',k⟩
noncomputable def cz (ρ ρ1:Rho) (ks:List Nat):Prop:=∀(i:Nat) (x:Sl),ρ1[i]?=some x->x.dD->i∉ks∧ρ[i]?=some x
theorem yM:cz ρ ρ []:=fun i x h _=>⟨by simp,h⟩
theorem zk {k:Nat}:cz ρ (ρ.set k (.val d)) [k]:=fun i x h o=>by
 by_cases hj:k=i
 ·subst hj
  have hi:=(List.getElem?_eq_some_iff.mp h).1
  rw [List.getElem?_set_self (by simpa using hi)] at h;cases h;exact o.elim
 ·rw [List.getElem?_set_ne hj] at h
  exact ⟨by simp [Ne.symm hj],h⟩
theorem cz.trans {ρ1 ρ2:Rho} {ks ls:List Nat} (a:cz ρ ρ1 ks) (b:cz ρ1 ρ2 ls):cz ρ ρ2 (ks++ls):=fun i x h o=>by
 obtain ⟨n1,h1⟩:=b i x h o
 obtain ⟨n2,h2⟩:=a i x h1 o
 exact ⟨by simp [n1,n2],h2⟩
inductive hU (X:Cx) (tg:Expr) (body:List Stmt):List D->Rho->Out->Prop
 |nil (ρ:Rho):hU X tg body [] ρ (.nx ρ)
 |cons {d:D} {ds:List D} {ρ ρ1 ρ2:Rho} {ks:List Nat} {o:Out}:DG X tg ρ d ρ1 ks->cz ρ ρ1 ks->DSs X ρ1 body (.nx ρ2)->hU X tg body ds ρ2 o->hU X tg body (d::ds) ρ o
 |ret {d:D} {ds:List D} {ρ ρ1:Rho} {ks:List Nat} {o:Out}:DG X tg ρ d ρ1 ks->cz ρ ρ1 ks->DSs X ρ1 body o->o.ends->hU X tg body (d::ds) ρ o
theorem Fm.tgt {K:PySem.W.Frag} {H₀ H:Hp} {S₀ S:Ad} {ρ ρ1:Rho} {σ σ':St} {ks:List Nat} (f:Fm K H₀ S₀ H S ρ σ) (ve:VE K H S ρ1 σ') (c:Chg ks σ σ') (h:cz ρ ρ1 ks):Fm K H₀ S₀ H S ρ1 σ':=
 ⟨ve,f.ext,f.sub,f.new,f.dm,fun i x a h1 o h2=>by
  obtain ⟨n,h3⟩:=h i x h1 o
  exact f.own i x a h3 o (by rw [←c.2 i n];exact h2)⟩
theorem Fm.mono {K:PySem.W.Frag} {H₀ H1 H:Hp} {S₀ S:Ad} {σ:St} (f:Fm K H1 S₀ H S ρ σ) (e:aF H₀ H1) (dm:Dom H₀ S₀):Fm K H₀ S₀ H S ρ σ:=
 ⟨f.ve,e.trans f.ext,f.sub,fun a h=>(f.new a h).imp_right e.back,dm,fun i x a h o h2=>e.back (f.own i x a h o h2)⟩
theorem mP.mono {K:PySem.W.Frag} {H₀ H1:Hp} {S₀:Ad} {E:Ends} (e:aF H₀ H1) (dm:Dom H₀ S₀) (k:mP K H₀ S₀ E o):mP K H1 S₀ E o:=by
 cases o with
 |nx ρ'=>exact fun σ' H' S' f=>k σ' H' S' (f.mono e dm)
 |rt d=>exact fun v H' ex r=>k v H' (e.trans ex) r
 |rfx xs=>exact fun a vs H' ex hn ha r=>k a vs H' (e.trans ex) (e.back hn) ha r
open Classical in
noncomputable def dh (H:Hp) (S S₀:Ad):Hp:=fun a=>if S a∧¬S₀ a then none else H a
theorem c9 {H:Hp} {S S₀:Ad} {a:Addr} {u:HO} (h:H a=some u) (n:S a->S₀ a):dh H S S₀ a=some u:=by
 unfold dh;rw [if_neg fun z=>z.2 (n z.1)];exact h
theorem gw {H:Hp} {S S₀:Ad} {a:Addr} (h:S a) (n:¬S₀ a):dh H S S₀ a=none:=by
 unfold dh;rw [if_pos ⟨h,n⟩]
theorem vg {H:Hp} {S S₀:Ad} {a:Addr} {u:HO} (h:dh H S S₀ a=some u):H a=some u∧(S a->S₀ a):=by
 unfold dh at h
 split at h
 ·cases h
 ·rename_i n
  exact ⟨h,fun s=>Classical.byContradiction fun z=>n ⟨s,z⟩⟩
theorem Fm.cut {K:PySem.W.Frag} {H₀ H:Hp} {S₀ S:Ad} {σ:St} (f:Fm K H₀ S₀ H S ρ σ):aF H₀ (dh H S S₀)∧Fm K (dh H S S₀) S₀ H S ρ σ:=by
 refine ⟨fun a u n h=>c9 (f.ext a u n h) fun s=>(f.new a s).elim (fun z=>z) fun z=>(by rw [h] at z;cases z),⟨f.ve,fun a u n h=>(vg h).1,f.sub,fun a s=>?_,fun a s z=>?_,fun i x a h o h2=>?_⟩⟩
 ·by_cases q:S₀ a
  ·exact .inl q
  ·exact .inr (gw s q)
 ·cases q:H a with
  |none=>exact f.ve.dom a (f.sub a s) q
  |some u=>rw [c9 q fun _=>s] at z;cases z
 ·have hn:=f.own i x a h o h2
  have ns:¬S₀ a:=fun z=>f.dm a z hn
  obtain ⟨v,q1,q2⟩:=f.ve.rel i x h
  rw [h2] at q1;cases q1
  cases x with
  |owx xs=>obtain ⟨b,_,z,s,_⟩:=q2;cases z;exact gw s ns
  |new C y dx fs=>obtain ⟨_,z,s,_⟩:=q2;cases z;exact gw s ns
  |nil=>exact o.elim
  |any=>exact o.elim
  |val d=>exact o.elim
theorem lP {tg iter:Expr} {body:List Stmt} {its:List D} (hp:PassesOwn (model X.prog X.w) X.A X.env X.xe) (hc:X.calm=true) (hi:DI X tg ρ iter its) (hb:hU X tg body its ρ o)
  (hs:∀x,foldedSetIterable iter X.env x=pure x:=by intro _;rfl):DS X ρ (.For tg iter body [] pos) o:=by
 refine PS.weak (qi hp hc hi (ou (G:=DG X tg) fun _ _ _ _ h=>h) (gN (sts:=body)) hs) ?_
 rintro E σ H ⟨H₀,S₀,S,f,k⟩
 refine ⟨S,f.ve,fun J H1 ex hJ=>?_⟩
 have f1:=f.grow ex
 obtain ⟨e0,fc⟩:=f1.cut
 have k1:=k.mono e0 f.dm
 refine ⟨fun i m σ' H'=>∃S' ρ',Fm X.K (dh H1 S S₀) S₀ H' S' ρ' σ'∧hU X tg body (its.drop i) ρ' o∧i<=its.length∧m=its.length - i,⟨its.length,S,ρ,fc,by simpa using hb,Nat.zero_le _,by simp⟩,?_⟩
 rintro i m σ' H' ⟨S',ρ',f',hf,hi',rfl⟩
 have ext1:Ext S H1 H':=fun a u n h=>f'.ext a u (fun z=>z) (c9 h fun s=>(n s).elim)
 have new1:∀a,S' a->S a∨H1 a=none:=fun a s=>by
  rcases f'.new a s with z|z
  ·exact .inl (f.sub a z)
  ·by_cases q:S a
   ·exact .inl q
   ·cases h:H1 a with
    |none=>exact .inr rfl
    |some u=>rw [c9 h fun s=>(q s).elim] at z;cases z
 obtain ⟨J1,J2⟩:=hJ H' S' ext1 new1 f'.ve.dom i
 by_cases hlt:i<its.length
 ·have hd:its[i]?=some its[i]:=by simp [hlt]
  obtain ⟨go,yld⟩:=J1 _ hd
  rw [List.drop_eq_getElem_cons hlt] at hf
  have rep:∀{ρ1:Rho} {ks:List Nat} {x:V} {H2:Hp},J.yld i H' x H2->DG X tg ρ' its[i] ρ1 ks->cz ρ' ρ1 ks->∀(R:St->Hp->Prop),(∀σ2,Fm X.K (dh H1 S S₀) S₀ H2 S' ρ1 σ2->R σ2 H2)->gA X.K (DG X tg) x σ' H2 R:=fun {ρ1 ks x H2} y hg htg R hR=>by
   obtain ⟨e1,r1⟩:=yld x H2 y
   exact ⟨ρ',its[i],ρ1,ks,hg,S',(f'.grow e1).ve,r1,fun σ2 ve2 c=>hR σ2 ((f'.grow e1).tgt ve2 c htg)⟩
  cases hf with
  |cons hg htg hbd hrest=>
   rename_i ρ1 ρ2 ks
   refine .inr ⟨go,fun σ2 H2=>∃S2,Fm X.K (dh H1 S S₀) S₀ H2 S2 ρ2 σ2,fun σ2 H2 ⟨S2,f2⟩=>⟨its.length - (i+1),by omega,S2,ρ2,f2,hrest,hlt,rfl⟩,fun x H2 y=>?_⟩
   exact rep y hg htg _ fun σ2 f2=>⟨ρ1,_,hbd,_,_,S',f2,fun σ3 H3 S3 f3=>⟨S3,f3⟩⟩
  |ret hg htg hbd hend=>
   rename_i ρ1 ks
   refine .inr ⟨go,fun _ _=>False,fun _ _ z=>z.elim,fun x H2 y=>?_⟩
   refine rep y hg htg _ fun σ2 f2=>⟨ρ1,o,hbd,_,_,S',f2,?_⟩
   cases o with
   |nx _=>exact hend.elim
   |rt d=>exact k1
   |rfx xs=>exact k1
 ·have e:i=its.length:=by omega
  subst e
  rw [List.drop_length] at hf
  cases hf
  exact .inl ⟨J2 (Nat.le_refl _),k1 σ' H' S' f'⟩
end
end CT
namespace CT
open PySem PySem.Spec L2
open PyProof.Rows hiding St
noncomputable def spD (K:PySem.W.Frag) (P:List D->D->Prop):Sp:=fun vs H Q _=>∃S ds d,Dom H S∧ae K H S ds vs∧P ds d∧∀v H',aF H H'->Rds K H' S d v->Q v H'
noncomputable def spI (K:PySem.W.Frag) (C:Addr) (P:List D->List (Str×D)->Prop):Sp:=fun vs H Q _=>∃S x dx us ds fs,vs=.ref x::us∧H x=some (.ins C dx [])∧Dom H S∧S x∧ae K H S ds us∧P ds fs∧
 ∀H' gs,(∀a o,a≠x->H a=some o->H' a=some o)->H' x=some (.ins C dx gs)->aG K H' S fs gs->Q .non H'
noncomputable def aJ (N:List Str) (ds:List D):Rho:=ds.map .val++List.replicate (N.length - ds.length) .nil
theorem mN {K:PySem.W.Frag} {H:Hp} {S:Ad} {N:List Str} {ds:List D} {vs:List V} (dm:Dom H S) (r:ae K H S ds vs):VE K H S (aJ N ds) (start N vs):=by
 have hl:=r.length
 have nown:∀(i:Nat) (x:Sl),(aJ N ds)[i]?=some x->¬x.dD:=fun i x h o=>by
  have hm:=List.mem_of_getElem? h
  unfold aJ at hm
  rcases List.mem_append.mp hm with hm|hm
  ·obtain ⟨y,_,e⟩:=List.mem_map.mp hm;rw [←e] at o;exact o
  ·rw [(List.mem_replicate.mp hm).2] at o;exact o
 refine ⟨by simp [aJ,L2.start,hl],fun i x h=>?_,fun i j x y a _ h _ o=>absurd o (nown i x h),dm⟩
 unfold aJ at h
 unfold L2.start
 by_cases hi:i<ds.length
 ·rw [List.getElem?_append_left (by simpa using hi),List.getElem?_map] at h
  rw [List.getElem?_append_left (by simpa [←hl] using hi),List.getElem?_map]
  cases hq:ds[i]? with
  |none=>rw [hq] at h;cases h
  |some d=>
   rw [hq] at h;cases h
   obtain ⟨v,hv,rv⟩:=r.get hq
   exact ⟨some v,by rw [hv];rfl,v,rfl,rv⟩
 ·have hi':ds.length<=i:=Nat.le_of_not_lt hi
  rw [List.getElem?_append_right (by simpa using hi'),List.length_map,List.getElem?_replicate] at h
  rw [List.getElem?_append_right (by simpa [←hl] using hi'),List.length_map,List.getElem?_replicate]
  rw [←hl]
  split at h
  ·rename_i z
   rw [if_pos z]
   cases h
   exact ⟨none,rfl,rfl⟩
  ·cases h
theorem iB {K:PySem.W.Frag} {H:Hp} {S:Ad} {N:List Str} {ds:List D} {vs:List V} (dm:Dom H S) (r:ae K H S ds vs):Fm K H S H S (aJ N ds) (start N vs):=
 ⟨mN dm r,Ext.refl,fun a h=>h,fun a h=>.inl h,dm,fun i x a h o _=>by
  have hm:=List.mem_of_getElem? h
  unfold aJ at hm
  rcases List.mem_append.mp hm with hm|hm
  ·obtain ⟨y,_,e⟩:=List.mem_map.mp hm;rw [←e] at o;exact o.elim
  ·rw [(List.mem_replicate.mp hm).2] at o;exact o.elim⟩
noncomputable def B1:Out->D->Prop
 |.rt d,d'=>d=d'
 |.nx _,d'=>d'=.non
 |.rfx c,d'=>d'=c.D
section
variable {P:Program} {w:World} {K:PySem.W.Frag} {mg:Str->Option Value} {base:Heap} {x qual:Str} {st:Stmt} {f:Addr} {fd:FuncData} {N ps:List Str} {k:Nat}
noncomputable def jM (K:PySem.W.Frag) (P:List D->Ow->Prop):Sp:=fun vs H Q _=>∃S ds c,Dom H S∧ae K H S ds vs∧P ds c∧∀a o H',aF H H'->H a=none->H' a=some o->cL K H' (S.and a) a c o->Q (.ref a) H'
theorem BH {Pr:List D->Ow->Prop} (F:Fun K x qual st f fd) (S:bA N ps (ah st)) (len:∀ds xs,Pr ds xs->ds.length=ps.length)
  (hb:∀(cdv:Value) (A:Around) (outer:List Env) (s:Shared) (H:Hp) (E:XK) (ds:List D) (c:Ow),ay k (A.deeper (envOfC qual (ah st) s.heap.objs.size f cdv))->Pr ds c->
   DSs (bJ CX0 P w K mg base N qual (ah st) f cdv A outer s H E).nox (aJ N ds) (aR st) (.rfx c)):aw P w K mg base CX0 (k+1) f fd ps (jM K Pr):=by
 refine F.ok S (fun vs H Q E ⟨S,ds,d,dm,r,p,kk⟩=>by rw [←r.length];exact len ds d p) fun cdv A outer s H vs Q E hr ⟨S',ds,d,dm,r,p,kk⟩=>?_
 exact ⟨_,hb cdv A outer s H E ds d hr p,H,S',S',iB dm r,kk⟩
end
section
variable {X:Cx} {ρ:Rho} {k:Nat} {f C:Addr} {fd:FuncData} {ps:List Str} {x m:Str} {p pos apos:Pos} {e o:Expr} {es:List Expr} {ds:List D} {d:D}
theorem fC {K:PySem.W.Frag} {H:Hp} {S:Ad} {ds:List D} {vs:List V} (r:ae K H S ds vs):ae K H S ds (vs++[]):=by rw [List.append_nil];exact r
theorem wQ {Pr:List D->D->Prop} (F:aw X.prog X.w X.K X.mg X.base CX0 k f fd ps (spD X.K Pr)) (hr:ay k X.A) (hg:Gl X x) (hm:X.mg x=some (.ref f)) (hk:PySem.W.keepIn X.K (.ref f)=true) (hb:Binds X.K fd ps [])
  (ha:DA X ρ (e::es) ds) (hp:Pr ds d) (hdb:(x==("__debug__":Str))=false:=by decide) (he:starEach (e::es) X.env=(false,eval e X.env)::starEach es X.env:=by rfl) (hpl:(backTo pos (starEach es X.env)).any (·.1)=false:=by rfl):
  DE X ρ (.Call (.Name x p) (e::es) [] pos) d:=PE.weak (nX F hr hg hm hk hb .nil d9 ha hdb he hpl) fun σ H Q ⟨S,ve,kk⟩=>⟨S,ve,fun vs H' ex r=>⟨S,ds,d,(ve.ext ex).dom,fC r,hp,fun v H'' ex' r'=>kk v H'' (ex.trans ex') r'⟩⟩
theorem sC {Pr:List D->Ow->Prop} {c:Ow} (F:aw X.prog X.w X.K X.mg X.base CX0 k f fd ps (jM X.K Pr)) (hr:ay k X.A) (hg:Gl X x) (hm:X.mg x=some (.ref f)) (hk:PySem.W.keepIn X.K (.ref f)=true) (hb:Binds X.K fd ps [])
  (ha:DA X ρ (e::es) ds) (hp:Pr ds c) (hdb:(x==("__debug__":Str))=false:=by decide) (he:starEach (e::es) X.env=(false,eval e X.env)::starEach es X.env:=by rfl) (hpl:(backTo pos (starEach es X.env)).any (·.1)=false:=by rfl):
  DFx X ρ (.Call (.Name x p) (e::es) [] pos) c:=PE.weak (nX F hr hg hm hk hb .nil d9 ha hdb he hpl) fun σ H Q ⟨S,ve,kk⟩=>⟨S,ve,fun vs H' ex r=>⟨S,ds,c,(ve.ext ex).dom,fC r,hp,fun a us H'' ex' hn ha r'=>kk a us H'' (ex.trans ex') (ex.back hn) ha r'⟩⟩
theorem xE {Pr:List D->D->Prop} {fs:List (Str×D)} {pl:Sem Bool} (ho:DE X ρ o (.ins C fs)) (hl:fs.lookup m=none) (c:Cls X.K C) (hm:Meth X.K C m f) (F:aw X.prog X.w X.K X.mg X.base CX0 k f fd ps (spD X.K Pr)) (hr:ay k X.A) (hb:Binds X.K fd ps [])
  (ha:DA X ρ (e::es) ds) (hp:Pr (.ins C fs::ds) d) (hst:starEach (e::es) X.env=(false,eval e X.env)::starEach es X.env:=by rfl) (hpl:(backTo pos (starEach es X.env)).any (·.1)=false:=by rfl)
  (ht:eval (.Call (.Attribute o m apos) (e::es) [] pos) X.env=(do
   let ov←eval o X.env
   standAt apos.atName
   let (f,first)←holding [ov] (getMethod ov m pl)
   callWith pos f first (backTo pos (starEach (e::es) X.env)) (backToKw pos (keywordEach [] X.env))):=by rfl):
  DE X ρ (.Call (.Attribute o m apos) (e::es) [] pos) d:=PE.weak (nE ho c hm F hr hb .nil d9 ha hst hpl ht) fun σ H Q ⟨S,ve,kk⟩=>⟨S,ve,fun v H1 ex1 r1=>by
   obtain ⟨a,dx,gs,rfl,hh,rf⟩:=r1.gJ
   exact ⟨a,dx,gs,rfl,hh,rf.none hl,S,ve.ext ex1,fun vs H' ex r=>⟨S,_,d,((ve.ext ex1).ext ex).dom,.cons (r1.ext (ex.to S)) (fC r),hp,fun v H'' ex' r'=>kk v H'' (ex1.trans (ex.trans ex')) r'⟩⟩⟩
theorem tx {Pr:List D->D->Prop} {fs:List (Str×D)} {pl:Sem Bool} (ho:DE X ρ o (.ins C fs)) (hl:fs.lookup m=none) (c:Cls X.K C) (hm:Meth X.K C m f) (F:aw X.prog X.w X.K X.mg X.base CX0 k f fd ps (spD X.K Pr)) (hr:ay k X.A) (hb:Binds X.K fd ps [])
  (hp:Pr [.ins C fs] d)
  (ht:eval (.Call (.Attribute o m apos) [] [] pos) X.env=(do
   let ov←eval o X.env
   standAt apos.atName
   let (f,first)←holding [ov] (getMethod ov m pl)
   callWith pos f first (backTo pos (starEach [] X.env)) (backToKw pos (keywordEach [] X.env))):=by rfl):
  DE X ρ (.Call (.Attribute o m apos) [] [] pos) d:=PE.weak (lO ho c hm F hr hb .nil d9 ht) fun σ H Q ⟨S,ve,kk⟩=>⟨S,ve,fun v H1 ex1 r1=>by
   obtain ⟨a,dx,gs,rfl,hh,rf⟩:=r1.gJ
   exact ⟨a,dx,gs,rfl,hh,rf.none hl,S,_,d,(ve.ext ex1).dom,.cons r1 .nil,hp,fun v H'' ex' r'=>kk v H'' (ex1.trans ex') r'⟩⟩
theorem yS {fs:List (Str×D)} {fl:Str} (ho:DE X ρ o (.ins C fs)) (c:Cls X.K C) (n:a7 X.K C fl) (l:fs.lookup fl=some d) (hb:attributeBase o fl X.env (eval o X.env)=eval o X.env:=by rfl):DE X ρ (.Attribute o fl pos) d:=
 PE.weak (zC ho hb) fun σ H Q ⟨S,ve,kk⟩=>⟨S,ve,fun v H1 ex1 r1=>by
  obtain ⟨a,dx,gs,rfl,hh,rf⟩:=r1.gJ
  obtain ⟨u,hu,ru⟩:=rf.look l
  exact ⟨a,C,dx,gs,u,rfl,hh,c,n,hu,kk u H1 ex1 ru⟩⟩
theorem wg {Pr:List D->List (Str×D)->Prop} {fs:List (Str×D)} (M:Mk X.K C f) (F:aw X.prog X.w X.K X.mg X.base CX0 k f fd ps (spI X.K C Pr)) (hr:ay (k+1) X.A) (hg:Gl X x) (hm:X.mg x=some (.ref C)) (hb:Binds X.K fd ps [])
  (ha:DA X ρ (e::es) ds) (hp:Pr ds fs) (hdb:(x==("__debug__":Str))=false:=by decide) (he:starEach (e::es) X.env=(false,eval e X.env)::starEach es X.env:=by rfl) (hpl:(backTo pos (starEach es X.env)).any (·.1)=false:=by rfl):
  DE X ρ (.Call (.Name x p) (e::es) [] pos) (.ins C fs):=PE.weak (vj M F hr hg hm hb .nil d9 ha hdb he hpl) fun σ H Q ⟨S,ve,kk⟩=>⟨S,ve,fun vs H1 ex r z dx hz hdx hne=>by
   have e1:aF H1 (upd H1 dx (.own z)):=Ext.new hdx
   have hz1:upd H1 dx (.own z) z=none:=by rw [ag (Ne.symm hne)];exact hz
   have e2:aF H1 (upd (upd H1 dx (.own z)) z (.ins C dx [])):=e1.trans (Ext.new hz1)
   have dm:=(ve.ext ex).dom
   refine ⟨S.and z,z,dx,vs++[],ds,fs,rfl,ao,fun a h=>?_,.inr rfl,fC ((r.av (S':=S.and z) fun b h=>h.imp_right fun q=>by rw [q];exact hz).ext (e2.to _)),hp,fun H' gs hk hz' rf=>⟨rfl,?_⟩⟩
   ·rcases h with h|h
    ·exact dm.ext e2 a h
    ·rw [h,ao];intro q;cases q
   ·refine kk _ H' (ex.trans fun a o n h=>hk a o (aj h hz) (e2 a o n h)) (.ins hz' (dm.not hz) (rf.av fun b h=>.inl (.inl h)))⟩
end
end CT
namespace CT
open PySem PySem.Spec L2
open PyProof.Rows hiding St
section
variable {X:Cx}
theorem mL:∀{ys:List Bool} {its:List Value},Vals (ys.map .bl) its->its=ys.map .bool
 |[],_,.nil=>rfl
 |y::ys,_,.cons r t=>by rw [mL t,show _=Value.bool y from r];rfl
theorem all_range {ys:List Bool}:(List.range ys.length).all (fun i=>ys.getD i true)=ys.all id:=by
 induction ys with
 |nil=>rfl
 |cons y ys ih=>
  rw [List.length_cons,List.range_succ_eq_map,List.all_cons,List.all_map,List.all_cons]
  rw [←ih]
  rfl
theorem m9 {prog:Program} {w:World} {A:Around} {ys:List Bool}:TruthOf prog w A (fun i v=>(ys.map Value.bool).toArray[i]?=some v) (fun i=>ys.getD i true):=fun i v s Q E hv q=>by
 have hv':(ys.map Value.bool)[i]?=some v:=by simpa using hv
 obtain ⟨b,hb,rfl⟩:=yn hv'
 have e:ys.getD i true=b:=by simp [hb]
 exact wpAny_truthy_bool (by rw [←e];exact q)
theorem xJ {prog:Program} {w:World} {A:Around} (hh:A.handled=none) (b:Bool) (I ax:Addr) (hne:ax≠I) (items:Array Value):Walks prog w A I [I,ax] [I] items.size (fun i v=>items[i]?=some v) (fun i h=>Sit h b I ax i∧Ssq h b ax items):=by
 cases b with
 |true=>exact Walks.tuple hh I ax hne items
 |false=>exact Walks.list hh I ax hne items
theorem qm (hc:X.calm=true):cU X (.builtin "all") (fun xs H Q=>∃(b:Bool) (a:Addr) (ys:List Bool),xs=[.ref a]∧SqB X.K H b a (ys.map .bl)∧Q (.bl (ys.all id)) H):=by
 intro pins s σ H xs us Q I r h
 obtain ⟨b,a,ys,rfl,hq,q⟩:=h
 obtain ⟨u,rfl,rx⟩:=vals1 r
 cases rx
 obtain ⟨its,r',pl,hz⟩:=CT.Inv.sqb I hq
 have e:=mL r'
 subst e
 have hal:a<s.heap.objs.size:=by
  cases b with
  |true=>obtain ⟨o,ho,_⟩:=pl;exact Heap.lt_size ho
  |false=>obtain ⟨o,ho,_⟩:=pl;exact Heap.lt_size ho
 refine call_all_walk (c5 pl ⟨_,_,_,_,_,_,_,rfl,xJ (A:=X.A.in1) (I.ok.hd hc) b s.heap.objs.size a (Nat.ne_of_lt hal) (ys.map Value.bool).toArray,⟨Sit.new b a,pl.at fun o e=>Heap.get?_push_of_some _ e⟩,m9 (ys:=ys),fun h' tk hk=>?_⟩)
 refine ⟨.bl (ys.all id),H,I.kept (t':=tk) fun c o e=>hk c o (by simp;exact Nat.ne_of_lt (Heap.lt_size e)) (Heap.get?_push_of_some _ e),?_,q⟩
 show Value.bool _=Value.bool _
 rw [List.size_toArray,List.length_map,all_range]
theorem rq:OpR X (compareOp .Is) (fun x y H Q=>∃a b,x=.bl a∧y=.bl b∧Q (.bl (a==b)) H):=by
 intro pins s σ H x y v u Q I rx ry h
 obtain ⟨a,b,rfl,rfl,q⟩:=h
 cases rx;cases ry
 exact is_bool ⟨.bl _,H,I,rfl,q⟩
theorem kD:OpR X (compareOp .IsNot) (fun x y H Q=>∃a b,x=.bl a∧y=.bl b∧Q (.bl (a !=b)) H):=by
 intro pins s σ H x y v u Q I rx ry h
 obtain ⟨a,b,rfl,rfl,q⟩:=h
 cases rx;cases ry
 exact isnot_bool ⟨.bl _,H,I,rfl,q⟩
theorem sG:OpR X (binaryOp .Add) (fun x y H Q=>∃a b ys,x=.ref a∧y=.ref b∧SqT X.K H a []∧SqT X.K H b ys∧Q (.ref b) H):=by
 intro pins s σ H x y v u Q I rx ry h
 obtain ⟨a,b,ys,rfl,rfl,ha,hb,q⟩:=h
 cases rx
 cases ry
 obtain ⟨its,r1,p1,_⟩:=I.tuple ha
 obtain ⟨its2,r2,p2,_⟩:=I.tuple hb
 cases r1
 obtain ⟨⟨cls,dd,data,sl⟩,ho,hc,n,hd⟩:=p1
 obtain ⟨⟨cls2,dd2,data2,sl2⟩,ho2,hc2,n2,hd2⟩:=p2
 simp only at hc hd hc2 hd2
 subst hc hd hc2 hd2
 exact concat_meets ⟨_,ho,rfl⟩ ⟨_,ho2,rfl⟩ noFill_tuple_add seq_tuple_add PySem.F.slot_tuple_add PySem.F.entry_tuple_add (PySem.F.args_tuple_add_2 _ _)
  (tuple_addW0 a b #[] its2.toArray n n2 dd dd2 sl sl2 (by simp)) ⟨ho,ho2,⟨.ref b,H,I,rfl,q⟩⟩
theorem wa:OpR X (binaryOp .Mult) (fun x y H Q=>∃a k z,x=.ref a∧y=.int k∧SqT X.K H a [z]∧0<=k∧k<2^20∧(k=1->Q (.ref a) H)∧(k≠1->∀p,H p=none->Q (.ref p) (upd H p (.tup (List.replicate k.toNat z))))):=by
 intro pins s σ H x y v u Q I rx ry h
 obtain ⟨a,k,z,rfl,rfl,ha,h0,h1,q1,q2⟩:=h
 cases rx
 obtain ⟨t,rfl⟩:=ry
 obtain ⟨its,r1,p1,_⟩:=I.tuple ha
 cases r1 with
 |cons rz rn=>
  cases rn
  rename_i uz
  obtain ⟨⟨cls,dd,data,sl⟩,ho,hc,n,hd⟩:=p1
  simp only at hc hd
  subst hc hd
  refine wpAny_binaryOp_repeat_ref (T:="tuple") (U:="int") (by decide) ⟨_,ho,rfl⟩ (fun s'=>typeIs_int s' k t) hZ F.fills_int_mul F.slot_int_rmul mB F.slot_int_index.lookup
   (call_meets F.slot_int_rmul (typeIs_int s k t) F.entry_int_rmul (F.args_int_rmul_2 _ _) (jm k t a dd _ n sl)
    ⟨ho,rfl,⟨_,ho,rfl⟩,call_meets F.slot_tuple_mul ⟨_,ho,rfl⟩ F.entry_tuple_mul (F.args_tuple_mul_2 _ _) (kN a dd uz n sl k t h0 h1) ⟨ho,?_⟩⟩)
  by_cases k1:k=1
  ·rw [if_pos k1]
   exact ⟨.ref a,H,I,rfl,q1 k1⟩
  ·rw [if_neg k1]
   have rr:∀m:Nat,Vals (List.replicate m z) (List.replicate m uz):=fun m=>by
    induction m with
    |zero=>exact .nil
    |succ m ih=>exact .cons rz ih
   refine ⟨.ref s.heap.objs.size,_,I.laid (t':=s.toks) (o:=.tup (List.replicate k.toNat z)) (fun b ob q=>Heap.get?_push_of_some _ q) (Nat.le_refl _) ?_,rfl,q2 k1 _ (I.hok.fresh (Nat.le_refl _))⟩
   exact ⟨by rw [List.length_replicate];show k.toNat<=2^24;omega,_,rr _,IsTup.new _ _⟩
end
end CT
namespace CT
open PySem PySem.Spec L2
open PyProof.Rows hiding St
section
variable {X:Cx} {ρ:Rho} {e a b:Expr} {es:List Expr} {d da db:D} {ds xs ys:List D} {x:Str} {p pos:Pos}
theorem dG {id:String} {r:List V->Hp->VK->Prop} (hc:cU X (.builtin id) r) (hcd:CD X.K r ds d) (hg:Gl X x) (hm:X.mg x=none) (hv:bootBuiltins x=some (.builtin id)) (ha:DA X ρ (e::es) ds) (hn:x≠"__name__":=by decide) (hdb:(x==("__debug__":Str))=false:=by decide)
  (he:starEach (e::es) X.env=(false,eval e X.env)::starEach es X.env:=by rfl) (hpl:(backTo pos (starEach es X.env)).any (·.1)=false:=by rfl):DE X ρ (.Call (.Name x p) (e::es) [] pos) d:=PE.weak (sZ hc hg hm hv ha hn hdb he hpl) (rY hcd)
theorem j7 {T:String} {r:List V->Hp->VK->Prop} (hc:cU X (.type T) r) (hcd:CD X.K r ds d) (hg:Gl X x) (hm:X.mg x=none) (hv:bootBuiltins x=some (.type T)) (ha:DA X ρ (e::es) ds) (hn:x≠"__name__":=by decide) (hdb:(x==("__debug__":Str))=false:=by decide)
  (he:starEach (e::es) X.env=(false,eval e X.env)::starEach es X.env:=by rfl) (hpl:(backTo pos (starEach es X.env)).any (·.1)=false:=by rfl):DE X ρ (.Call (.Name x p) (e::es) [] pos) d:=PE.weak (jX hc hg hm hv ha hn hdb he hpl) (rY hcd)
theorem Sq.sq {K:PySem.W.Frag} {H:Hp} {S:Ad} {v:V} (q:Sq d xs) (r:Rds K H S d v):∃b a vs,v=.ref a∧SqB K H b a vs∧ae K H S xs vs:=by
 obtain ⟨b,a,vs,e,l⟩:=q.later r
 exact ⟨b,a,vs,e,l H S Ext.refl fun _ h=>.inl h⟩
theorem SqB.or {K:PySem.W.Frag} {H:Hp} {c:Bool} {a:Addr} {vs:List V} (h:SqB K H c a vs):SqL K H a vs∨SqT K H a vs:=by
 cases c with
 |true=>exact .inr h
 |false=>exact .inl h
theorem yk (q:Sq da xs) (hg:Gl X "len") (hm:X.mg "len"=none) (ha:DA X ρ [e] [da]) (he:starEach [e] X.env=(false,eval e X.env)::starEach [] X.env:=by rfl) (hpl:(backTo pos (starEach [] X.env)).any (·.1)=false:=by rfl):DE X ρ (.Call (.Name "len" p) [e] [] pos) (.int xs.length):=
 dG mR (fun vs H S Q rs dm k=>by
  obtain ⟨v,rfl,r⟩:=rs.one
  obtain ⟨c,a,us,rfl,sq,rl⟩:=q.sq r
  exact ⟨a,us,rfl,sq.or,by rw [←rl.length];exact k _ H Ext.refl (.int _)⟩) hg hm boot_len ha (by decide) (by decide) he hpl
theorem nc:bootBuiltins "tuple"=some (.type "tuple"):=by decide+kernel
theorem pD:bootBuiltins "list"=some (.type "list"):=by decide+kernel
theorem rE:bootBuiltins "int"=some (.type "int"):=by decide+kernel
theorem qH:bootBuiltins "all"=some (.builtin "all"):=by decide+kernel
theorem rO:bootBuiltins "abs"=some (.builtin "abs"):=by decide+kernel
theorem eN:bootBuiltins "isinstance"=some (.builtin "isinstance"):=by decide+kernel
theorem sA (q:Sq da xs) (hg:Gl X "tuple") (hm:X.mg "tuple"=none) (ha:DA X ρ [e] [da]) (he:starEach [e] X.env=(false,eval e X.env)::starEach [] X.env:=by rfl) (hpl:(backTo pos (starEach [] X.env)).any (·.1)=false:=by rfl):DE X ρ (.Call (.Name "tuple" p) [e] [] pos) (.tup xs):=
 j7 kL (fun vs H S Q rs dm k=>by
  obtain ⟨v,rfl,r⟩:=rs.one
  cases q with
  |lst=>
   obtain ⟨a,us,rfl,sq,rl⟩:=r.iy
   exact ⟨a,us,rfl,.inl ⟨sq,fun l hl=>k _ _ (Ext.new hl) (Rds.dN dm hl rl)⟩⟩
  |tup=>
   obtain ⟨a,us,rfl,h,rl⟩:=r.d3
   exact ⟨a,us,rfl,.inr ⟨.inl (.inl h),k _ H Ext.refl r⟩⟩) hg hm nc ha (by decide) (by decide) he hpl
theorem wO (q:Sq da xs) (hg:Gl X "list") (hm:X.mg "list"=none) (ha:DA X ρ [e] [da]) (he:starEach [e] X.env=(false,eval e X.env)::starEach [] X.env:=by rfl) (hpl:(backTo pos (starEach [] X.env)).any (·.1)=false:=by rfl):DF X ρ (.Call (.Name "list" p) [e] [] pos) xs:=
 PE.weak (jX lH hg hm pD ha (by decide) (by decide) he hpl) fun σ H Q ⟨S,ve,k⟩=>⟨S,ve,fun vs H' ex rs=>by
  obtain ⟨v,rfl,r⟩:=rs.one
  obtain ⟨c,a,us,rfl,sq,rl⟩:=q.sq r
  exact ⟨a,us,rfl,sq.or,fun l hl=>k l us _ (ex.trans (Ext.new hl)) (ex.back hl) ao ((rl.av (S':=S.and l) fun b h=>h.imp_right fun z=>by rw [z];exact hl).ext ((Ext.new hl).to _))⟩⟩
theorem u3 {K:PySem.W.Frag} {H:Hp} {S:Ad}:∀{ys:List Bool} {vs:List V},ae K H S (ys.map .bl) vs->vs=ys.map .bl
 |[],_,.nil=>rfl
 |y::ys,_,.cons r t=>by rw [u3 t,r.blV];rfl
theorem zS {bs:List Bool} (hc:X.calm=true) (q:Sq da (bs.map .bl)) (hg:Gl X "all") (hm:X.mg "all"=none) (ha:DA X ρ [e] [da]) (he:starEach [e] X.env=(false,eval e X.env)::starEach [] X.env:=by rfl) (hpl:(backTo pos (starEach [] X.env)).any (·.1)=false:=by rfl):
  DE X ρ (.Call (.Name "all" p) [e] [] pos) (.bl (bs.all id)):=
 dG (qm hc) (fun vs H S Q rs dm k=>by
  obtain ⟨v,rfl,r⟩:=rs.one
  obtain ⟨c,a,us,rfl,sq,rl⟩:=q.sq r
  exact ⟨c,a,bs,rfl,by rw [←u3 rl];exact sq,k _ H Ext.refl (.bl _)⟩) hg hm qH ha (by decide) (by decide) he hpl
theorem yG {i:Int} (hg:Gl X "abs") (hm:X.mg "abs"=none) (ha:DA X ρ [e] [.int i]) (he:starEach [e] X.env=(false,eval e X.env)::starEach [] X.env:=by rfl) (hpl:(backTo pos (starEach [] X.env)).any (·.1)=false:=by rfl):
  DE X ρ (.Call (.Name "abs" p) [e] [] pos) (.int (if i<0 then -i else i)):=
 dG uf (fun vs H S Q rs dm k=>by
  obtain ⟨v,rfl,r⟩:=rs.one
  exact ⟨i,by rw [r.aX],k _ H Ext.refl (.int _)⟩) hg hm rO ha (by decide) (by decide) he hpl
theorem wB {q:Bool} (hg:Gl X "int") (hm:X.mg "int"=none) (ha:DA X ρ [e] [.bl q]) (he:starEach [e] X.env=(false,eval e X.env)::starEach [] X.env:=by rfl) (hpl:(backTo pos (starEach [] X.env)).any (·.1)=false:=by rfl):
  DE X ρ (.Call (.Name "int" p) [e] [] pos) (.int (if q then 1 else 0)):=
 j7 qM (fun vs H S Q rs dm k=>by
  obtain ⟨v,rfl,r⟩:=rs.one
  exact .inr ⟨q,by rw [r.blV],k _ H Ext.refl (.int _)⟩) hg hm rE ha (by decide) (by decide) he hpl
theorem Ab {q r:Bool} (ha:DE X ρ a (.bl q)) (hb:DE X ρ b (.bl r)):DE X ρ (.Compare a [.Is] [b] pos) (.bl (q==r)):=
 bS rq (fun x y H S Q rx ry dm k=>⟨q,r,rx.blV,ry.blV,k _ H Ext.refl (.bl _)⟩) ha hb (aP _)
theorem qB {q r:Bool} (ha:DE X ρ a (.bl q)) (hb:DE X ρ b (.bl r)):DE X ρ (.Compare a [.IsNot] [b] pos) (.bl (q !=r)):=
 bS kD (fun x y H S Q rx ry dm k=>⟨q,r,rx.blV,ry.blV,k _ H Ext.refl (.bl _)⟩) ha hb (aP _)
theorem Aw {q r:Bool} (ha:DE X ρ a (.bl q)) (hb:DE X ρ b (.bl r)):DT X ρ (.Compare a [.Is] [b] pos) (q==r):=
 bR rq (fun x y H S Q rx ry dm k=>⟨q,r,rx.blV,ry.blV,k _ H Ext.refl (.bl _)⟩) ha hb (aP _)
theorem qz {q r:Bool} (ha:DE X ρ a (.bl q)) (hb:DE X ρ b (.bl r)):DT X ρ (.Compare a [.IsNot] [b] pos) (q !=r):=
 bR kD (fun x y H S Q rx ry dm k=>⟨q,r,rx.blV,ry.blV,k _ H Ext.refl (.bl _)⟩) ha hb (aP _)
theorem xx (ha:DE X ρ a (.tup xs)) (hb:DE X ρ b (.tup ys)) (hl:xs.length+ys.length<=sizeLine):DE X ρ (.BinOp a .Add b pos) (.tup (xs++ys)):=by
 by_cases hx:xs=[]
 ·subst hx
  exact dw sG (fun x y H S Q rx ry dm k=>by
   obtain ⟨p,us,rfl,h1,r1⟩:=rx.d3
   obtain ⟨q,vs,rfl,h2,r2⟩:=ry.d3
   cases r1
   exact ⟨p,q,vs,rfl,rfl,.inl (.inl h1),.inl (.inl h2),k _ H Ext.refl ry⟩) ha hb
 ·exact dw wM (fun x y H S Q rx ry dm k=>by
   obtain ⟨p,us,rfl,h1,r1⟩:=rx.d3
   obtain ⟨q,vs,rfl,h2,r2⟩:=ry.d3
   refine ⟨p,q,us,vs,rfl,rfl,.inl (.inl h1),.inl (.inl h2),fun z=>hx ?_,by rw [←r1.length,←r2.length];exact hl,fun z=>?_,fun z l hp=>k _ _ (Ext.new hp) (Rds.dN dm hp (ae.app r1 r2))⟩
   ·subst z;cases r1;rfl
   ·subst z;cases r2;rw [List.append_nil] at k;exact k _ H Ext.refl rx) ha hb
theorem vm {k:Int} (ha:DE X ρ a (.tup [d])) (hb:DE X ρ b (.int k)) (h0:0<=k) (h1:k<2^20):DE X ρ (.BinOp a .Mult b pos) (.tup (List.replicate k.toNat d)):=
 dw wa (fun x y H S Q rx ry dm kk=>by
  obtain ⟨p,us,rfl,h2,r1⟩:=rx.d3
  obtain ⟨v,rfl,r⟩:=r1.one
  refine ⟨p,k,v,rfl,ry.aX,.inl (.inl h2),h0,h1,fun z=>?_,fun z l hp=>kk _ _ (Ext.new hp) (Rds.dN dm hp (ae.rep r _))⟩
  subst z
  exact kk _ H Ext.refl rx) ha hb
theorem u6 {K:PySem.W.Frag} {H:Hp} {S:Ad} {vs:List V} {i:Int} (r:ae K H S xs vs) (h:atI xs i=some d):∃v,atI vs i=some v∧Rds K H S d v:=by
 unfold atI at h ⊢
 rw [←r.length]
 cases q:ixN xs.length i with
 |none=>rw [q] at h;cases h
 |some j=>
  rw [q] at h
  exact r.get h
theorem xP {i:Int} (ha:DE X ρ a (.lst xs)) (hb:DE X ρ b (.int i)) (h:atI xs i=some d) (hs:jw b:=by exact fun _ _=>rfl):DE X ρ (.Subscript a b pos) d:=
 PE.weak (uw wC ha hb hs) (l_ fun x y H S Q rx ry dm k=>by
  obtain ⟨p,us,rfl,sq,r1⟩:=rx.iy
  obtain ⟨v,hv,r⟩:=u6 r1 h
  exact ⟨p,us,i,v,rfl,ry.aX,sq,hv,k _ H Ext.refl r⟩)
theorem Au {i:Int} (ha:DE X ρ a (.tup xs)) (hb:DE X ρ b (.int i)) (h:atI xs i=some d) (hs:jw b:=by exact fun _ _=>rfl):DE X ρ (.Subscript a b pos) d:=
 PE.weak (uw zQ ha hb hs) (l_ fun x y H S Q rx ry dm k=>by
  obtain ⟨p,us,rfl,h2,r1⟩:=rx.d3
  obtain ⟨v,hv,r⟩:=u6 r1 h
  exact ⟨p,us,i,v,rfl,ry.aX,.inl (.inl h2),hv,k _ H Ext.refl r⟩)
theorem sP {c:Expr} {i j k:Int} (ha:DE X ρ a (.int i)) (hb:DE X ρ b (.int j)) (hc:DE X ρ c (.int k)) (hm:lastMarks [CmpOp.LtE,CmpOp.Lt] [b,c]=false:=by with_unfolding_all rfl):
  DE X ρ (.Compare a [.LtE,.Lt] [b,c] pos) (.bl (decide (i<=j)&&decide (j<k))):=PE.weak (sX pK pj ha hb hc hm) fun σ H Q ⟨S,ve,kk⟩=>
 ⟨S,ve,fun x H1 e1 r1=>⟨S,ve.ext e1,fun y H2 e2 r2=>⟨i,j,r1.aX,r2.aX,decide (i<=j),rfl,by
  cases hq:decide (i<=j) with
  |false=>
   rw [hq] at kk
   exact fj (kk _ H2 (e1.trans e2) (.bl _))
  |true=>
   rw [hq,Bool.true_and] at kk
   exact eK ⟨S,(ve.ext e1).ext e2,fun z H3 e3 r3=>⟨j,k,r2.aX,r3.aX,kk _ H3 (e1.trans (e2.trans e3)) (.bl _)⟩⟩⟩⟩⟩
structure Isi (K:PySem.W.Frag) (C:Addr):Prop where
 cl:Cls K C
 ha:PySem.W.findIn K (.ref C) "__class__"=some (some (.builtin "object.__class__"))
 hn:PySem.W.specialIn K (.builtin "object.__class__") "__get__"=some (some (.builtin "getset_descriptor.__get__"))
 tk:PySem.W.takesIn K (.builtin "object.__class__")=some true
 mr:PySem.W.mroIn K C (.type "object")=some true
structure iK (K:PySem.W.Frag) (C:Addr):Prop where
 cl:br K C
 ha:PySem.W.findIn K (.ref C) "__class__"=some (some (.builtin "object.__class__"))
 hn:PySem.W.specialIn K (.builtin "object.__class__") "__get__"=some (some (.builtin "getset_descriptor.__get__"))
 tk:PySem.W.takesIn K (.builtin "object.__class__")=some true
theorem iK.find {K:PySem.W.Frag} {C:Addr} (i:iK K C) (od:Option Obj):PySem.W.findObj K C od "__class__"=some (.bind (.builtin "getset_descriptor.__get__") (.builtin "object.__class__")):=by
 obtain ⟨cd,hc,_⟩:=PySem.W.any_some i.cl.ov
 unfold PySem.W.findObj
 rw [hc,Option.bind_some,i.ha,Option.bind_some]
 simp [i.hn,i.tk]
inductive TyD (K:PySem.W.Frag):D->Value->Prop
 |non:TyD K .non (.type "NoneType")
 |bl (b:Bool):TyD K (.bl b) (.type "bool")
 |int (i:Int):TyD K (.int i) (.type "int")
 |str (x:Str):TyD K (.str x) (.type "str")
 |tup (xs:List D):TyD K (.tup xs) (.type "tuple")
 |lst (xs:List D):TyD K (.lst xs) (.type "list")
 |ins {C:Addr} (fs:List (Str×D)) (i:Isi K C):TyD K (.ins C fs) (.ref C)
 |exc {C:Addr} (fs:List (Str×D)) (i:iK K C):TyD K (.exc C fs) (.ref C)
 |dct (kvs:List (D×D)):TyD K (.dct kvs) (.type "dict")
 |pdc (es:List (PK×D)):TyD K (.pdc es) (.type "dict")
theorem uY {pins:List (Addr×Obj)} {σ:St} {H:Hp} {s:Shared} {S:Ad} {v:V} {u t:Value} (I:Inv X pins σ H s) (r:Rds X.K H S d v) (rv:RelV v u) (ty:TyD X.K d t):
  ∃Hh:Heap->Prop,PySem.W.KitX X.K u t Hh∧Hh s.heap∧u≠.builtin "__main__.__loader__#opaque":=by
 cases ty with
 |non=>cases r;cases (show u=Value.none from rv);exact ⟨_,PySem.W.kitx_none,True.intro,fun z=>nomatch z⟩
 |bl b=>cases r;cases (show u=Value.bool b from rv);exact ⟨_,PySem.W.kitx_bool,True.intro,fun z=>nomatch z⟩
 |int i=>cases r;obtain ⟨t,q⟩:=(show ∃t,u=Value.int i t from rv);cases q;exact ⟨_,PySem.W.kitx_int,True.intro,fun z=>nomatch z⟩
 |str x=>cases r;obtain ⟨t,q⟩:=(show ∃t,u=Value.str x t from rv);cases q;exact ⟨_,PySem.W.kitx_str,True.intro,fun z=>nomatch z⟩
 |tup xs=>
  obtain ⟨a,vs,rfl,h,_⟩:=r.d3
  cases (show u=Value.ref a from rv)
  obtain ⟨its,_,⟨o,h1,h2,_⟩,_⟩:=I.tuple (.inl (.inl h))
  exact ⟨_,PySem.W.kitx_tuple,⟨o,h1,h2⟩,fun z=>nomatch z⟩
 |lst xs=>
  obtain ⟨a,vs,rfl,h,_⟩:=r.iy
  cases (show u=Value.ref a from rv)
  obtain ⟨its,_,⟨o,n,h1,h2,_⟩,_⟩:=I.list h
  exact ⟨_,PySem.W.kitx_list,⟨o,h1,h2⟩,fun z=>nomatch z⟩
 |@ins C fs i=>
  obtain ⟨a,dx,gs,rfl,h,_⟩:=r.gJ
  cases (show u=Value.ref a from rv)
  obtain ⟨mA,O,_⟩:=gT I.hok h
  obtain ⟨od,J,_⟩:=O.look
  exact ⟨_,PySem.W.kitx_own (i.cl.get _) i.cl.hd i.ha i.hn i.tk i.mr,J,fun z=>nomatch z⟩
 |@exc C fs i=>
  cases r with
  |@gf fr a _ h n=>
   cases (show u=Value.ref a from rv)
   obtain ⟨vs,h1,_⟩:=dW (I.hok a _ h)
   exact ⟨_,l9 (ox:=⟨.ref C,none,.fields vs,#[]⟩) (od:=none) i.cl (i.find none),⟨h1,rfl,rfl,trivial⟩,fun z=>nomatch z⟩
  |@exc fr a _ dx _ gs h h2 n n2 rf=>
   cases (show u=Value.ref a from rv)
   obtain ⟨vs,mA,odd,h1,_,_,_,J,_⟩:=uD I h h2
   exact ⟨_,l9 i.cl (i.find _),J,fun z=>nomatch z⟩
 |dct kvs=>
  cases r with
  |@dK a ks _ h _ _ _=>
   cases (show u=Value.ref a from rv)
   obtain ⟨_,_,_,_,o,_,_,h1,h2,_⟩:=I.hok a _ h
   exact ⟨_,PySem.W.kitx_dict,⟨o,h1,h2.1⟩,fun z=>nomatch z⟩
 |pdc es=>
  cases r with
  |@dP a ep ks _ h _ _=>
   cases (show u=Value.ref a from rv)
   obtain ⟨_,_,_,_,o,_,h1,h2,_⟩:=AH I.hok h
   exact ⟨_,PySem.W.kitx_dict,⟨o,h1,h2.1⟩,fun z=>nomatch z⟩
inductive ClD:D->Value->Prop
 |ty (n:String):ClD (.ty n) (.type n)
 |cl (C:Addr):ClD (.cl C) (.ref C)
inductive iu:List D->List Value->Prop
 |nil:iu [] []
 |cons {d:D} {c:Value} {ds:List D} {cs:List Value}:ClD d c->iu ds cs->iu (d::ds) (c::cs)
theorem ClD.val {K:PySem.W.Frag} {H:Hp} {S:Ad} {v:V} {u c:Value} (h:ClD d c) (r:Rds K H S d v) (rv:RelV v u):u=c:=by
 cases h with
 |ty n=>cases r;exact rv
 |cl C=>cases r;exact rv
theorem iu.vals {K:PySem.W.Frag} {H:Hp} {S:Ad}:∀{ds:List D} {vs:List V} {us cs:List Value},iu ds cs->ae K H S ds vs->Vals vs us->us=cs
 |_,_,_,_,.nil,.nil,.nil=>rfl
 |_,_,_,_,.cons h t,.cons r rt,.cons q qt=>by rw [h.val r q,iu.vals t rt qt]
theorem kA {t:TA} {R:V->V->Hp->VK->Prop} (hR:∀(pins:List (Addr×Obj)) (s:Shared) (σ:St) (H:Hp) (x y:V) (u c:Value) (Q:VK),Inv X pins σ H s->RelV x u->RelV y c->R x y H Q->wpAny (model X.prog X.w) X.A (call (.builtin "isinstance") [u,c]) (EP X pins σ Q) X.xe s):
  cU X (.builtin "isinstance") (fun xs H Q=>∃x y,xs=[x,y]∧R x y H Q):=by
 intro pins s σ H xs us Q I r h
 obtain ⟨x,y,rfl,q⟩:=h
 cases r with
 |cons r1 r2=>
  cases r2 with
  |cons r2 r3=>
   cases r3
   exact hR pins s σ H x y _ _ Q I r1 r2 q
theorem xO {t c:Value} {q:Bool} {dc:D} (hg:Gl X "isinstance") (hm:X.mg "isinstance"=none) (ty:TyD X.K d t) (cl:ClD dc c) (hk:PySem.W.kitOne X.K t c=some q) (ha:DA X ρ [a,b] [d,dc])
  (he:starEach [a,b] X.env=(false,eval a X.env)::starEach [b] X.env:=by rfl) (hpl:(backTo pos (starEach [b] X.env)).any (·.1)=false:=by rfl):DE X ρ (.Call (.Name "isinstance" p) [a,b] [] pos) (.bl q):=by
 refine dG (kA (t:=oM) (R:=fun x y H Q=>∃S,Rds X.K H S d x∧Rds X.K H S dc y∧Q (.bl q) H) ?_) (fun vs H S Q rs dm k=>?_) hg hm eN ha (by decide) (by decide) he hpl
 ·intro pins s σ H x y u cv Q I rx ry ⟨S,r1,r2,qq⟩
  obtain ⟨Hh,Z,hh,hx⟩:=uY I r1 rx ty
  rw [cl.val r2 ry]
  exact PySem.W.kia_one Z I.kIn hh hk hx fun tk=>⟨.bl q,H,I.tok tk,rfl,qq⟩
 ·obtain ⟨v,u,rfl,r1,r2⟩:=rs.two
  exact ⟨v,u,rfl,S,r1,r2,k _ H Ext.refl (.bl _)⟩
theorem vB {t:Value} {cs:List Value} {q:Bool} {dcs:List D} (hg:Gl X "isinstance") (hm:X.mg "isinstance"=none) (ty:TyD X.K d t) (cl:iu dcs cs) (hk:PySem.W.kitAny X.K t cs=some q) (ha:DA X ρ [a,b] [d,.tup dcs])
  (he:starEach [a,b] X.env=(false,eval a X.env)::starEach [b] X.env:=by rfl) (hpl:(backTo pos (starEach [b] X.env)).any (·.1)=false:=by rfl):DE X ρ (.Call (.Name "isinstance" p) [a,b] [] pos) (.bl q):=by
 refine dG (kA (t:=oM) (R:=fun x y H Q=>∃S,Rds X.K H S d x∧Rds X.K H S (.tup dcs) y∧Q (.bl q) H) ?_) (fun vs H S Q rs dm k=>?_) hg hm eN ha (by decide) (by decide) he hpl
 ·intro pins s σ H x y u cv Q I rx ry ⟨S,r1,r2,qq⟩
  obtain ⟨Hh,Z,hh,hx⟩:=uY I r1 rx ty
  obtain ⟨tp,us,rfl,h2,rl⟩:=r2.d3
  cases (show cv=Value.ref tp from ry)
  obtain ⟨its,rv,⟨⟨oc,od,odt,osl⟩,h3,h4,n,h5⟩,_⟩:=I.tuple (.inl (.inl h2))
  simp only at h4 h5
  subst h4 h5
  rw [←cl.vals rl rv] at hk
  exact PySem.W.kia_tup Z I.kIn hh h3 hk hx fun tk=>⟨.bl q,H,I.tok tk,rfl,qq⟩
 ·obtain ⟨v,u,rfl,r1,r2⟩:=rs.two
  exact ⟨v,u,rfl,S,r1,r2,k _ H Ext.refl (.bl _)⟩
mutual
noncomputable def toPy:D->PyData
 |.non=>.none|.bl b=>.bool b|.int i=>.int i|.str x=>.str x
 |.tup xs=>.tuple (cP xs)|.lst xs=>.list (cP xs)
 |.ins _ _=>.none|.ty _=>.none|.cl _=>.none|.exc _ _=>.none|.dct _=>.none|.pdc _=>.none
noncomputable def cP:List D->List PyData
 |[]=>[]
 |x::xs=>toPy x::cP xs
end
mutual
noncomputable def aU:D->Bool
 |.non=>true|.bl _=>true|.int _=>true|.str x=>PyData.strOk x
 |.tup xs=>bH xs|.lst xs=>bH xs
 |.ins _ _=>false|.ty _=>false|.cl _=>false|.exc _ _=>false|.dct _=>false|.pdc _=>false
noncomputable def bH:List D->Bool
 |[]=>true
 |x::xs=>aU x&&bH xs
end
mutual
theorem ej:∀{d:D},aU d=true->(toPy d).canLay0=true
 |.non,_=>rfl
 |.bl _,_=>rfl
 |.int _,_=>rfl
 |.str x,h=>h
 |.tup xs,h=>ie (xs:=xs) h
 |.lst xs,h=>ie (xs:=xs) h
 |.ins _ _,h=>nomatch h
 |.exc _ _,h=>nomatch h
 |.dct _,h=>nomatch h
 |.pdc _,h=>nomatch h
 |.ty _,h=>nomatch h
 |.cl _,h=>nomatch h
theorem ie:∀{xs:List D},bH xs=true->PyData.canLayAll0 (cP xs)=true
 |[],_=>rfl
 |x::xs,h=>by
  have h':aU x=true∧bH xs=true:=by simpa [bH] using h
  show (PyData.canLay0 (toPy x)&&PyData.canLayAll0 (cP xs))=true
  rw [ej h'.1,ie h'.2];rfl
end
section
variable {pins:List (Addr×Obj)} {σ:St} {H:Hp} {s:Shared} {S:Ad}
mutual
theorem fE (I:Inv X pins σ H s):∀(d:D) {v:V} {u:Value},aU d=true->Rds X.K H S d v->RelV v u->∃as,Reads s.heap u (toPy d) as
 |.non,_,u,_,r,q=>by cases r;cases (show u=Value.none from q);exact ⟨_,.none⟩
 |.bl b,_,u,_,r,q=>by cases r;cases (show u=Value.bool b from q);exact ⟨_,.bool b⟩
 |.int i,_,u,_,r,q=>by cases r;obtain ⟨t,q⟩:=(show ∃t,u=Value.int i t from q);cases q;exact ⟨_,.int i t⟩
 |.str x,_,u,_,r,q=>by cases r;obtain ⟨t,q⟩:=(show ∃t,u=Value.str x t from q);cases q;exact ⟨_,.str x t⟩
 |.tup xs,_,u,hd,r,q=>by
  obtain ⟨a,vs,rfl,h,rl⟩:=r.d3
  cases (show u=Value.ref a from q)
  obtain ⟨its,rv,⟨o,h1,h2,k,h3⟩,_⟩:=I.tuple (.inl (.inl h))
  obtain ⟨as,ra⟩:=ik I xs hd rl rv
  exact ⟨_,.tuple h1 h2 h3 ra⟩
 |.lst xs,_,u,hd,r,q=>by
  obtain ⟨a,vs,rfl,h,rl⟩:=r.iy
  cases (show u=Value.ref a from q)
  obtain ⟨its,rv,⟨o,k,h1,h2,_,h3⟩,_⟩:=I.list h
  obtain ⟨as,ra⟩:=ik I xs hd rl rv
  exact ⟨_,.list h1 h2 h3 ra⟩
 |.ins _ _,_,_,h,_,_=>nomatch h
 |.exc _ _,_,_,h,_,_=>nomatch h
 |.dct _,_,_,h,_,_=>nomatch h
 |.pdc _,_,_,h,_,_=>nomatch h
 |.ty _,_,_,h,_,_=>nomatch h
 |.cl _,_,_,h,_,_=>nomatch h
theorem ik (I:Inv X pins σ H s):∀(ds:List D) {vs:List V} {us:List Value},bH ds=true->ae X.K H S ds vs->Vals vs us->∃as,ReadsAll s.heap us (cP ds) as
 |[],_,_,_,r,q=>by cases r;cases q;exact ⟨_,.nil⟩
 |d::ds,_,_,hd,r,q=>by
  cases r with
  |cons r t=>
   cases q with
   |cons q qt=>
    have h':aU d=true∧bH ds=true:=by simpa [bH] using hd
    obtain ⟨as,ra⟩:=fE I d h'.1 r q
    obtain ⟨bs,rb⟩:=ik I ds h'.2 t qt
    exact ⟨_,.cons ra rb⟩
end
end
noncomputable def eqD (d d':D):Bool:=PyData.eqv (toPy d) (toPy d')
theorem qv {hu:X.A.units+64<cLine} (h1:aU da=true) (h2:aU db=true) (hd:min (toPy da).depth (toPy db).depth<=64):OpR X (compareOp .Eq) (fun x y H Q=>∃S,Rds X.K H S da x∧Rds X.K H S db y∧Q (.bl (eqD da db)) H):=by
 intro pins s σ H x y v u Q I rx ry ⟨S,r1,r2,q⟩
 obtain ⟨as,ra⟩:=fE I _ h1 r1 rx
 obtain ⟨bs,rb⟩:=fE I _ h2 r2 ry
 exact SeqAt.compareEq_reads ra rb (ej h1) (ej h2) (Nat.lt_of_le_of_lt (Nat.add_le_add_left hd _) hu) ⟨.bl _,H,I,rfl,q⟩
theorem qD {hu:X.A.units+64<cLine} (h1:aU da=true) (h2:aU db=true) (hd:min (toPy da).depth (toPy db).depth<=64):OpR X (compareOp .NotEq) (fun x y H Q=>∃S,Rds X.K H S da x∧Rds X.K H S db y∧Q (.bl (!eqD da db)) H):=by
 intro pins s σ H x y v u Q I rx ry ⟨S,r1,r2,q⟩
 obtain ⟨as,ra⟩:=fE I _ h1 r1 rx
 obtain ⟨bs,rb⟩:=fE I _ h2 r2 ry
 exact SeqAt.compareNe_reads ra rb (ej h1) (ej h2) (Nat.lt_of_le_of_lt (Nat.add_le_add_left hd _) hu) ⟨.bl _,H,I,rfl,q⟩
theorem zv (hu:X.A.units+64<cLine) (h1:aU da=true) (h2:aU db=true) (hd:min (toPy da).depth (toPy db).depth<=64) (ha:DE X ρ a da) (hb:DE X ρ b db):DE X ρ (.Compare a [.Eq] [b] pos) (.bl (eqD da db)):=
 bS (qv (hu:=hu) h1 h2 hd) (fun x y H S Q rx ry dm k=>⟨S,rx,ry,k _ H Ext.refl (.bl _)⟩) ha hb (aP _)
theorem ya (hu:X.A.units+64<cLine) (h1:aU da=true) (h2:aU db=true) (hd:min (toPy da).depth (toPy db).depth<=64) (ha:DE X ρ a da) (hb:DE X ρ b db):DE X ρ (.Compare a [.NotEq] [b] pos) (.bl (!eqD da db)):=
 bS (qD (hu:=hu) h1 h2 hd) (fun x y H S Q rx ry dm k=>⟨S,rx,ry,k _ H Ext.refl (.bl _)⟩) ha hb (aP _)
theorem zH (hu:X.A.units+64<cLine) (h1:aU da=true) (h2:aU db=true) (hd:min (toPy da).depth (toPy db).depth<=64) (ha:DE X ρ a da) (hb:DE X ρ b db):DT X ρ (.Compare a [.Eq] [b] pos) (eqD da db):=
 bR (qv (hu:=hu) h1 h2 hd) (fun x y H S Q rx ry dm k=>⟨S,rx,ry,k _ H Ext.refl (.bl _)⟩) ha hb (aP _)
theorem zZ (hu:X.A.units+64<cLine) (h1:aU da=true) (h2:aU db=true) (hd:min (toPy da).depth (toPy db).depth<=64) (ha:DE X ρ a da) (hb:DE X ρ b db):DT X ρ (.Compare a [.NotEq] [b] pos) (!eqD da db):=
 bR (qD (hu:=hu) h1 h2 hd) (fun x y H S Q rx ry dm k=>⟨S,rx,ry,k _ H Ext.refl (.bl _)⟩) ha hb (aP _)
end
end CT
namespace CT
open PySem PySem.Spec L2
open PyProof.Rows hiding St
noncomputable def iJ (scope sc:Scope):Scope:={scope with names:=scope.names.map fun (n,k)=>if (k==.free&&sc.kind==.function&&sc.names.lookup n==some .cell) then (n,.cell) else (n,k)}
noncomputable def oJ (scope:Scope) (own:List Str) (cap:List (Str×Nat)) (sc:Scope) (N:List Str):Bool:=
 decide (scope.kind=.function)&&decide ((scope.names.map (·.1)).Nodup)&&(scope.names.all fun x=>x.2 !=.free||sc.names.lookup x.1==some .cell||sc.names.lookup x.1==some .free)&&
  (own.all fun x=>scope.names.contains (x,.local)||scope.names.contains (x,.cell))&&(cap.all fun p=>N[p.2]?==some p.1&&scope.names.contains (p.1,.free))&&decide ((own++cap.map (·.1)).Nodup)
theorem CS.of {X:Cx} {scope:Scope} {own:List Str} {cap:List (Str×Nat)} (sc:Scope) (N:List Str) (h1:X.env.scope=sc) (h2:X.N=N) (h:oJ scope own cap sc N=true):CS X scope own cap:=by
 unfold oJ at h
 simp only [Bool.and_eq_true,decide_eq_true_eq,List.all_eq_true,Bool.or_eq_true,beq_iff_eq,bne_iff_ne,ne_eq,List.contains_iff_mem] at h
 obtain ⟨⟨⟨⟨⟨a1,a2⟩,a3⟩,a4⟩,a5⟩,a6⟩:=h
 subst h2
 refine ⟨a1,a2,fun x hx e=>?_,a4,a5,a6⟩
 show X.env.scope.names.lookup x.1=_∨X.env.scope.names.lookup x.1=_
 rw [h1]
 rcases a3 x hx with (z|z)|z
 ·exact absurd e z
 ·exact .inl z
 ·exact .inr z
theorem kq:∀{ks ns:List Int},a_ (ks.map .int) (ns.map .int)=(ks.zip ns).map fun p=>.tup [.int p.1,.int p.2]
 |[],_=>by simp [a_]
 |_::_,[]=>by simp [a_]
 |k::ks,n::ns=>by simp [a_,kq]
noncomputable def bG (n:Int):List Int:=(List.range n.toNat).map fun k:Nat=>(k:Int)
theorem qK (n:Int):h_ n.toNat=(bG n).map D.int:=by simp [h_,bG]
theorem kF {n k:Int} (h:k∈bG n):0<=k∧k<n:=by
 obtain ⟨i,hi,rfl⟩:=List.mem_map.mp h
 have:=List.mem_range.mp hi
 omega
theorem r6 {X:Cx} {tg a:Expr} {ρ:Rho} {j:Int} {p pos:Pos} (hg:Gl X "range") (hm:X.mg "range"=none) (ha:DA X ρ [a] [.int j]) (h1: -(2^62)<=j) (h2:j<2^62) (hs:starEach [a] X.env=[(false,eval a X.env)]:=by rfl):DI X tg ρ (.Call (.Name "range" p) [a] [] pos) ((bG j).map D.int):=by
 rw [←qK]
 exact ue hg hm ha h1 h2 hs
noncomputable abbrev uG (ns:List Int):List D:=ns.map .int
noncomputable abbrev tupI (ns:List Int):D:=.tup (ns.map .int)
noncomputable def Wk (ρ ρ':Rho):Prop:=ρ'.length=ρ.length∧∀(i:Nat) (x:Sl),ρ'[i]?=some x->x=.any∨ρ[i]?=some x
theorem Fm.wk {K:PySem.W.Frag} {H₀ H:Hp} {S₀ S:Ad} {ρ ρ':Rho} {σ:St} (w:Wk ρ ρ') (f:Fm K H₀ S₀ H S ρ σ):Fm K H₀ S₀ H S ρ' σ:=by
 have go:∀(i:Nat) (x:Sl),ρ'[i]?=some x->x.dD->ρ[i]?=some x:=fun i x h o=>by
  rcases w.2 i x h with z|z
  ·rw [z] at o;exact o.elim
  ·exact z
 refine ⟨⟨w.1.trans f.ve.len,fun i x h=>?_,fun i j x y a hij h1 h2 o1 o2=>f.ve.dist i j x y a hij (go i x h1 o1) (go j y h2 o2) o1 o2,f.ve.dom⟩,f.ext,f.sub,f.new,f.dm,fun i x a h o=>f.own i x a (go i x h o) o⟩
 rcases w.2 i x h with z|z
 ·subst z
  have hi:=(List.getElem?_eq_some_iff.mp h).1
  have hi':i<σ.length:=by rw [←f.ve.len,←w.1];exact hi
  exact ⟨σ[i],by simp [hi'],trivial⟩
 ·exact f.ve.rel i x z
section
variable {X:Cx} {ρ ρ' ρ1:Rho} {sts:List Stmt} {st:Stmt} {o:Out}
theorem jC (w:Wk ρ ρ') (h:DSs X ρ' sts o):DSs X ρ sts o:=PSs.weak h fun E σ H ⟨H₀,S₀,S,f,k⟩=>⟨H₀,S₀,S,f.wk w,k⟩
end
mutual
noncomputable def ak:D->Bool
 |.non=>true|.bl _=>true|.int _=>true|.str _=>true|.ty _=>true|.cl _=>false
 |.tup xs=>bg xs|.lst _=>false|.ins _ fs=>fG fs|.exc _ _=>false|.dct _=>false|.pdc _=>false
noncomputable def bg:List D->Bool
 |[]=>true
 |x::xs=>ak x&&bg xs
noncomputable def fG:List (Str×D)->Bool
 |[]=>true
 |(_,x)::xs=>ak x&&fG xs
end
section
variable {K:PySem.W.Frag} {H:Hp} {S:Ad} {a:Addr} {us:List V} {o:HO}
noncomputable def fM (a:Addr) (o:HO):Prop:=(∃vs,o=.lst vs)∨∃ep kvs,o=PD a ep kvs
theorem fM.tup {b:Addr} {vs:List V} (c:fM a o) (ha:H a=some o) (e:H b=some (.tup vs)):b≠a:=fun q=>by
 rw [q,ha] at e
 rcases c with ⟨_,rfl⟩|⟨_,_,rfl⟩<;>cases e
theorem fM.ins {b C dx:Addr} {gs:List (Str×V)} (c:fM a o) (ha:H a=some o) (e:H b=some (.ins C dx gs)):b≠a:=fun q=>by
 rw [q,ha] at e
 rcases c with ⟨_,rfl⟩|⟨_,_,rfl⟩<;>cases e
mutual
theorem Rds.cZ (cc:fM a o) (ha:H a=some o):∀(d:D) {v:V},ak d=true->Rds K H S d v->Rds K H (S.and a) d v
 |.non,_,_,r=>by cases r;exact .non
 |.bl b,_,_,r=>by cases r;exact .bl b
 |.int i,_,_,r=>by cases r;exact .int i
 |.str x,_,_,r=>by cases r;exact .str x
 |.ty n,_,_,r=>by cases r;exact .ty n
 |.cl _,_,h,_=>nomatch h
 |.lst _,_,h,_=>nomatch h
 |.exc _ _,_,h,_=>nomatch h
 |.dct _,_,h,_=>nomatch h
 |.pdc _,_,h,_=>nomatch h
 |.tup xs,_,h,r=>by
  cases r with
  |tup e n r=>exact .tup e (fun z=>z.elim n (cc.tup ha e)) (ae.cZ cc ha xs h r)
 |.ins C fs,_,h,r=>by
  cases r with
  |ins e n r=>exact .ins e (fun z=>z.elim n (cc.ins ha e)) (aG.cZ cc ha fs h r)
theorem ae.cZ (cc:fM a o) (ha:H a=some o):∀(ds:List D) {vs:List V},bg ds=true->ae K H S ds vs->ae K H (S.and a) ds vs
 |[],_,_,r=>by cases r;exact .nil
 |d::ds,_,h,r=>by
  have h':ak d=true∧bg ds=true:=by simpa [bg] using h
  cases r with
  |cons r t=>exact .cons (Rds.cZ cc ha d h'.1 r) (ae.cZ cc ha ds h'.2 t)
theorem aG.cZ (cc:fM a o) (ha:H a=some o):∀(ds:List (Str×D)) {vs:List (Str×V)},fG ds=true->aG K H S ds vs->aG K H (S.and a) ds vs
 |[],_,_,r=>by cases r;exact .nil
 |(n,d)::ds,_,h,r=>by
  have h':ak d=true∧fG ds=true:=by simpa [fG] using h
  cases r with
  |cons r t=>exact .cons (Rds.cZ cc ha d h'.1 r) (aG.cZ cc ha ds h'.2 t)
end
end
theorem du:∀ks:List Int,bg (ks.map .int)=true
 |[]=>rfl
 |k::ks=>by show (true&&bg (ks.map .int))=true;rw [du ks];rfl
theorem VE.u5 {K:PySem.W.Frag} {H:Hp} {S:Ad} {ρ:Rho} {σ:St} {i:Nat} {c:Ow} (f:VE K H S ρ σ) (hr:ρ[i]?=some (.owx c)):∃S' a o,H a=some o∧fM a o∧(∀b,S b->S' b∨b=a)∧VE K H S' (ρ.set i (.val c.D)) σ:=by
 obtain ⟨v,q1,a,vs,rfl,sa,ha,r⟩:=f.rel i _ hr
 have hi:=(List.getElem?_eq_some_iff.mp hr).1
 have own_ne:∀(m:Nat) (x:Sl) (c:Addr),i≠m->ρ[m]?=some x->x.dD->σ[m]?=some (some (.ref c))->c≠a:=fun m x c hm h ho hs z=>f.dist i m _ x a hm hr h trivial ho q1 (by rw [hs,z])
 refine ⟨fun b=>S b∧b≠a,a,vs,ha,r.sort,fun b h=>(Classical.em (b=a)).elim .inr fun n=>.inl ⟨h,n⟩,⟨by simpa using f.len,fun j x h=>?_,fun j k x y b hjk h1 h2 o1 o2 h3=>?_,fun b h=>f.dom b h.1⟩⟩
 ·by_cases hj:i=j
  ·subst hj
   rw [List.getElem?_set_self hi] at h
   cases h
   exact ⟨_,q1,_,rfl,(r.av fun b h=>.inl h.1).rds ha fun z=>z.2 rfl⟩
  ·rw [List.getElem?_set_ne hj] at h
   obtain ⟨v,h1,h2⟩:=f.rel j x h
   refine ⟨v,h1,?_⟩
   cases x with
   |nil=>exact h2
   |any=>trivial
   |val d=>obtain ⟨u,p,r⟩:=h2;exact ⟨u,p,r.av fun b h=>.inl h.1⟩
   |owx zs=>exact RO.av (x:=.owx zs) (fun b h=>.inl h.1) (fun b z s=>⟨s,own_ne j _ b hj h trivial (by rw [h1,z])⟩) h2
   |new C y dx fs=>exact RO.av (x:=.new C y dx fs) (fun b h=>.inl h.1) (fun b z s=>⟨s,own_ne j _ b hj h trivial (by rw [h1,z])⟩) h2
 ·have n1:i≠j:=fun z=>by
   subst z
   rw [List.getElem?_set_self hi] at h1;cases h1;exact o1
  have n2:i≠k:=fun z=>by
   subst z
   rw [List.getElem?_set_self hi] at h2;cases h2;exact o2
  rw [List.getElem?_set_ne n1] at h1
  rw [List.getElem?_set_ne n2] at h2
  exact f.dist j k x y b hjk h1 h2 o1 o2 h3
theorem tI {X:Cx} {ρ:Rho} {e:Expr} {d:D} {i:Nat} {c:Ow} (hr:ρ[i]?=some (.owx c)) (hf:ak d=true) (h:DE X (ρ.set i (.val c.D)) e d):DE X ρ e d:=PE.weak h fun σ H Q ⟨S,ve,k⟩=>by
 obtain ⟨S',a,us,ha,cc,hS,ve'⟩:=ve.u5 hr
 refine ⟨S',ve',fun v H' ex r=>k v H' ex ?_⟩
 exact (Rds.cZ cc (ex _ _ (fun z=>z) ha) d hf r).av fun b h=>.inl (hS b h)
end CT
namespace CT
open PySem PySem.Spec L2
open PyProof.Rows hiding St
theorem gC {α:Type} {a b c d e f x:α} (h:x∈[a,c,d,e,f]):x∈[a,b,c,d,e,f]:=by
 simp only [List.mem_cons,List.not_mem_nil,or_false] at h ⊢
 rcases h with h|h|h|h|h<;>simp [h]
theorem pU {P:Program} {w:World} {K:PySem.W.Frag} {elts:List Expr} {x1} {pos:Pos} {z TI TO i1 i2 i3 a1 a2 a3:Addr} {b1 b2 b3:Bool} (nd:[z,TI,TO,i1,i2,i3].Nodup):
  Turn P w K (.Tuple elts x1 pos) (Am K b1 b2 b3 a1 a2 a3) [z,TI,TO,i1,i2,i3] z
   (fun i h=>IsZip h z TI TO .none∧aq h TI #[.ref i1,.ref i2,.ref i3]∧(∃ts,aq h TO ts∧ts.size=3)∧Sit h b1 i1 a1 i∧Sit h b2 i2 a2 i∧Sit h b3 i3 a3 i) where
 mem:=by simp
 obj:=fun i h ⟨q1,q2,⟨ts,q3,_⟩,q4,q5,q6⟩ b hb=>by
  simp only [List.mem_cons,List.not_mem_nil,or_false] at hb
  rcases hb with rfl|rfl|rfl|rfl|rfl|rfl
  ·exact ⟨_,q1,fun v e=>by have e':Data.fields _=Data.cell v:=e;cases e'⟩
  ·exact ⟨_,q2,fun v e=>by have e':Data.seq _ _=Data.cell v:=e;cases e'⟩
  ·exact ⟨_,q3,fun v e=>by have e':Data.seq _ _=Data.cell v:=e;cases e'⟩
  ·obtain ⟨o,n,vs,e,_,d⟩:=q4.rec
   exact ⟨o,e,fun v e=>by rw [d] at e;cases e⟩
  ·obtain ⟨o,n,vs,e,_,d⟩:=q5.rec
   exact ⟨o,e,fun v e=>by rw [d] at e;cases e⟩
  ·obtain ⟨o,n,vs,e,_,d⟩:=q6.rec
   exact ⟨o,e,fun v e=>by rw [d] at e;cases e⟩
 keep:=fun i h h' ⟨q1,q2,⟨ts,q3,q3'⟩,q4,q5,q6⟩ k=>⟨k z (by simp) _ q1,k TI (by simp) _ q2,⟨ts,k TO (by simp) _ q3,q3'⟩,q4.at fun o e=>k i1 (by simp) o e,q5.at fun o e=>k i2 (by simp) o e,q6.at fun o e=>k i3 (by simp) o e⟩
 item:=by
  intro X hP hw hK hc i pins s σ H E I hf ⟨q1,q2,⟨ts,q3,q3'⟩,q4,q5,q6⟩ hg
  subst hP hw hK
  obtain ⟨xs,ys,us,x,y,u0,hx,hy,hu,ex,ey,eu0⟩:=hg
  obtain ⟨its,r1,p1,_⟩:=CT.Inv.sqb I hx
  obtain ⟨its2,r2,p2,_⟩:=CT.Inv.sqb I hy
  obtain ⟨its3,r3,p3,_⟩:=CT.Inv.sqb I hu
  obtain ⟨u,eu,ru⟩:=jA r1 ex
  obtain ⟨v,ev,rv⟩:=jA r2 ey
  obtain ⟨t,et,rt⟩:=jA r3 eu0
  have n1:a1∉[z,TO,i1,i2,i3]:=fun m=>CT.Inv.cT I hx (hf a1 (gC m)) rfl
  have n2:a2∉[z,TO,i1,i2,i3]:=fun m=>CT.Inv.cT I hy (hf a2 (gC m)) rfl
  have n3:a3∉[z,TO,i1,i2,i3]:=fun m=>CT.Inv.cT I hu (hf a3 (gC m)) rfl
  refine d8 q1 (rJ nd n1 n2 n3 q1 q2 q3 q3' q4 q5 q6 p1 p2 p3 eu ev et fun h' z1 z2 z3 z4 z4' z5 z6 kk=>?_)
  refine ⟨_,rfl,wpAny_letOwnedTupleGo_zip z1 fun h2 z1' sb=>?_⟩
  have nT:∀b∈[z,TI,TO,i1,i2,i3],b≠s.heap.objs.size:=fun b hb=>by
   simp only [List.mem_cons,List.not_mem_nil,or_false] at hb
   rcases hb with rfl|rfl|rfl|rfl|rfl|rfl
   ·exact Nat.ne_of_lt (Heap.lt_size q1)
   ·exact Nat.ne_of_lt (Heap.lt_size q2)
   ·exact Nat.ne_of_lt (Heap.lt_size q3)
   ·obtain ⟨o,n,vs,e,_,d⟩:=q4.rec;exact Nat.ne_of_lt (Heap.lt_size e)
   ·obtain ⟨o,n,vs,e,_,d⟩:=q5.rec;exact Nat.ne_of_lt (Heap.lt_size e)
   ·obtain ⟨o,n,vs,e,_,d⟩:=q6.rec;exact Nat.ne_of_lt (Heap.lt_size e)
  have nd':=nd
  simp only [List.nodup_cons,List.mem_cons,List.not_mem_nil,or_false,not_or,List.nodup_nil,and_true,not_false_eq_true] at nd'
  obtain ⟨⟨zTI,zTO,zi1,zi2,zi3⟩,⟨TITO,TIi1,TIi2,TIi3⟩,⟨TOi1,TOi2,TOi3⟩,⟨i12,i13⟩,i23⟩:=nd'
  have k2:∀c o,c∉[z,TO,i1,i2,i3]->s.heap.get? c=some o->h2.get? c=some o:=fun c o hc e=>sb.extBut c o (fun q=>hc (by simp [q])) (kk c o hc e)
  have I1:Inv X pins σ H {s with heap:=h2}:=CT.Inv.ei (t':=s.toks) (ch:=[z,TO,i1,i2,i3]) I (fun b hb=>hf b (gC hb)) k2
  have hT:h2.get? s.heap.objs.size=some {cls:=.type "tuple",data:=.seq #[u,v,t]}:=sb.extBut _ _ (Ne.symm (nT z (by simp))) z5
  have I2:Inv X pins σ (upd H s.heap.objs.size (.tup [x,y,u0])) {s with heap:=h2}:=CT.Inv.adopt I1 (I.ft (Nat.le_refl _) (I.hok.fresh (Nat.le_refl _)))
   ⟨by show 3<=sizeLine;decide,[u,v,t],.cons ru (.cons rv (.cons rt .nil)),_,hT,rfl,_,rfl⟩
  refine ⟨.ref s.heap.objs.size,_,I2,rfl,⟨_,x,y,u0,I.hok.fresh (Nat.le_refl _),rfl,rfl,fun xs' h'=>by rw [CT.Inv.ek I h' hx];exact ex,fun ys' h'=>by rw [CT.Inv.ek I h' hy];exact ey,fun us' h'=>by rw [CT.Inv.ek I h' hu];exact eu0⟩,?_,fun b hb=>?_⟩
  ·refine ⟨z1',k2 _ _ (by simp [Ne.symm zTI,TITO,TIi1,TIi2,TIi3]) q2,⟨#[u,v,t],sb.extBut _ _ (Ne.symm zTO) z2,rfl⟩,z3.at fun o e=>sb.extBut _ _ (Ne.symm zi1) e,z4.at fun o e=>sb.extBut _ _ (Ne.symm zi2) e,z4'.at fun o e=>sb.extBut _ _ (Ne.symm zi3) e⟩
  ·rw [ag (nT b hb)];exact (hf b hb).1
 done:=by
  intro X hP hw hK hc i pins s σ H E I hf ⟨q1,q2,⟨ts,q3,q3'⟩,q4,q5,q6⟩ hg
  subst hP hw hK
  obtain ⟨xs,ys,us,hx,hy,hu,he⟩:=hg
  obtain ⟨its,r1,p1,_⟩:=CT.Inv.sqb I hx
  obtain ⟨its2,r2,p2,_⟩:=CT.Inv.sqb I hy
  obtain ⟨its3,r3,p3,_⟩:=CT.Inv.sqb I hu
  have n1:a1∉[z,TO,i1,i2,i3]:=fun m=>CT.Inv.cT I hx (hf a1 (gC m)) rfl
  have n2:a2∉[z,TO,i1,i2,i3]:=fun m=>CT.Inv.cT I hy (hf a2 (gC m)) rfl
  have n3:a3∉[z,TO,i1,i2,i3]:=fun m=>CT.Inv.cT I hu (hf a3 (gC m)) rfl
  refine d8 q1 (tV (I.ok.hd hc) nd n1 n2 n3 q1 q2 q3 q3' q4 q5 q6 p1 p2 p3 (he.imp (jg r1) fun z=>z.imp (jg r2) (jg r3)) fun h' e kk ⟨o,ho,hcls⟩=>⟨e,o,rfl,ho,hcls,rfl,?_⟩)
  exact CT.Inv.ei (t':=s.toks) (ch:=[z,TO,i1,i2,i3]) I (fun b hb=>hf b (gC hb)) kk
 self:=fun _ _ _ _ _ ⟨q1,_⟩ h=>wpAny_pyIter_zip q1 h
section
variable {X:Cx} {elts:List Expr} {tpos:Pos}
theorem wj {a b c:Expr} {ta:TA} {k} {p pos:Pos} (hg:Gl X "zip") (hm:X.mg "zip"=none) (ha:PA X [a,b,c] ta) (hs:starEach [a,b,c] X.env=[(false,eval a X.env),(false,eval b X.env),(false,eval c X.env)]:=by rfl)
  (hs2:starEach [b,c] X.env=[(false,eval b X.env),(false,eval c X.env)]:=by rfl):PI X (.Tuple elts k tpos) (.Call (.Name "zip" p) [a,b,c] [] pos) (AD X.K ta):=by
 intro pins s σ H R I h
 refine Call_ (dR I hg hm boot_zip (PyProof.Rows.callWith_type1 (thn (ha pos pins s σ H _ I h) fun us s1 ⟨vs,H1,I1,r1,q1⟩=>?_) (by rw [hs,hs2]) (by rw [hs2];rfl)))
 obtain ⟨b1,b2,b3,a1,a2,a3,xs,ys,us',e,hx,hy,hu,q⟩:=q1
 subst e
 cases r1 with
 |cons r rr=>
  cases rr with
  |cons r' rr=>
   cases rr with
   |cons r'' rr=>
    cases rr
    cases r
    cases r'
    cases r''
    obtain ⟨its,rv1,p1,_⟩:=CT.Inv.sqb I1 hx
    obtain ⟨its2,rv2,p2,_⟩:=CT.Inv.sqb I1 hy
    obtain ⟨its3,rv3,p3,_⟩:=CT.Inv.sqb I1 hu
    refine pf p1 p2 p3 fun h' x1 x2 x3 x4 x5 x5' x6 x7=>?_
    refine wpAny_pyIter_zip x3 ?_
    refine ⟨_,_,_,_,H1,rfl,I1.kept (t':=s1.toks) x6,pU (TI:=s1.heap.objs.size+3) (TO:=s1.heap.objs.size+4) (i1:=s1.heap.objs.size) (i2:=s1.heap.objs.size+1) (i3:=s1.heap.objs.size+2) (by simp),⟨x3,x1,⟨_,x2,rfl⟩,x4,x5,x5'⟩,fun b hb=>?_,q⟩
    have hle:s1.heap.objs.size<=b:=by
     simp only [List.mem_cons,List.not_mem_nil,or_false] at hb
     rcases hb with rfl|rfl|rfl|rfl|rfl|rfl<;>omega
    exact I1.ft hle (I1.hok.fresh hle)
end
theorem ae.three {K:PySem.W.Frag} {H:Hp} {S:Ad} {d e f:D} {vs:List V} (r:ae K H S [d,e,f] vs):∃v u t,vs=[v,u,t]∧Rds K H S d v∧Rds K H S e u∧Rds K H S f t:=by
 cases r with|cons r t=>obtain ⟨u,w,rfl,q1,q2⟩:=t.two;exact ⟨_,_,_,rfl,r,q1,q2⟩
noncomputable def ba:List D->List D->List D->List D
 |x::xs,y::ys,z::zs=>.tup [x,y,z]::ba xs ys zs
 |_,_,_=>[]
theorem kf:∀{xs ys zs:List D} {i:Nat} {d:D},(ba xs ys zs)[i]?=some d->∃x y z,xs[i]?=some x∧ys[i]?=some y∧zs[i]?=some z∧d=.tup [x,y,z]
 |x::xs,y::ys,z::zs,0,d,h=>by
  simp [ba] at h
  exact ⟨x,y,z,rfl,rfl,rfl,h.symm⟩
 |x::xs,y::ys,z::zs,i+1,d,h=>by
  simp [ba] at h
  obtain ⟨x',y',z',h1,h2,h3,h4⟩:=kf h
  exact ⟨x',y',z',by simpa using h1,by simpa using h2,by simpa using h3,h4⟩
 |[],_,_,_,_,h=>by simp [ba] at h
 |_::_,[],_,_,_,h=>by simp [ba] at h
 |_::_,_::_,[],_,_,h=>by simp [ba] at h
theorem kg:∀{xs ys zs:List D},(ba xs ys zs).length=min xs.length (min ys.length zs.length)
 |x::xs,y::ys,z::zs=>by simp [ba,kg]
 |[],_,_=>by simp [ba]
 |_::_,[],_=>by simp [ba]
 |_::_,_::_,[]=>by simp [ba]
section
variable {X:Cx} {ρ:Rho} {pos p tpos:Pos} {a b c:Expr}
theorem vy {da db dc:D} {xs ys zs:List D} {elts:List Expr} {k} (hg:Gl X "zip") (hm:X.mg "zip"=none) (qa:Sq da xs) (qb:Sq db ys) (qc:Sq dc zs) (ha:DA X ρ [a,b,c] [da,db,dc])
  (hs:starEach [a,b,c] X.env=[(false,eval a X.env),(false,eval b X.env),(false,eval c X.env)]:=by rfl) (hs2:starEach [b,c] X.env=[(false,eval b X.env),(false,eval c X.env)]:=by rfl):DI X (.Tuple elts k tpos) ρ (.Call (.Name "zip" p) [a,b,c] [] pos) (ba xs ys zs):=
 PI.weak (wj hg hm ha hs hs2) fun σ H R ⟨S,ve,kk⟩=>⟨S,ve,fun vs H' ex rs=>by
  obtain ⟨v,u,t,rfl,r1,r2,r3⟩:=rs.three
  obtain ⟨b1,a1,vs1,rfl,l1⟩:=qa.later r1
  obtain ⟨b2,a2,vs2,rfl,l2⟩:=qb.later r2
  obtain ⟨b3,a3,vs3,rfl,l3⟩:=qc.later r3
  refine ⟨b1,b2,b3,a1,a2,a3,vs1,vs2,vs3,rfl,(l1 H' S Ext.refl fun a h=>.inl h).1,(l2 H' S Ext.refl fun a h=>.inl h).1,(l3 H' S Ext.refl fun a h=>.inl h).1,kk _ H' ex fun H2 S2 e2 z2 dm i=>?_⟩
  obtain ⟨s1,t1⟩:=l1 H2 S2 e2 z2
  obtain ⟨s2,t2⟩:=l2 H2 S2 e2 z2
  obtain ⟨s3,t3⟩:=l3 H2 S2 e2 z2
  refine ⟨fun d hd=>?_,fun hi=>⟨vs1,vs2,vs3,s1,s2,s3,?_⟩⟩
  ·obtain ⟨x,y,z,hx,hy,hz,rfl⟩:=kf hd
   obtain ⟨x',hx',rx⟩:=t1.get hx
   obtain ⟨y',hy',ry⟩:=t2.get hy
   obtain ⟨z',hz',rz⟩:=t3.get hz
   refine ⟨⟨vs1,vs2,vs3,x',y',z',s1,s2,s3,hx',hy',hz'⟩,fun w H3 yl=>?_⟩
   obtain ⟨T,x2,y2,w2,hT,rfl,rfl,g1,g2,g3⟩:=yl
   have e1:=g1 vs1 s1
   have e2':=g2 vs2 s2
   have e3':=g3 vs3 s3
   rw [hx'] at e1;cases e1
   rw [hy'] at e2';cases e2'
   rw [hz'] at e3';cases e3'
   exact ⟨Ext.new hT,Rds.dN dm hT (.cons rx (.cons ry (.cons rz .nil)))⟩
  ·have h1:=t1.length
   have h2:=t2.length
   have h3:=t3.length
   rw [kg] at hi
   omega⟩
end
inductive WhO (X:Cx) (c:Expr) (body:List Stmt):Nat->Rho->Out->Prop
 |stop {n:Nat} {ρ:Rho}:DT X ρ c false->WhO X c body n ρ (.nx ρ)
 |turn {n:Nat} {ρ ρ':Rho} {o:Out}:DT X ρ c true->DSs X ρ body (.nx ρ')->WhO X c body n ρ' o->WhO X c body (n+1) ρ o
 |ret {n:Nat} {ρ:Rho} {o:Out}:DT X ρ c true->DSs X ρ body o->o.ends->WhO X c body n ρ o
theorem sQ {X:Cx} {c:Expr} {body:List Stmt} {n:Nat} {ρ:Rho} {o:Out} {pos:Pos} (hp:PassesOwn (model X.prog X.w) X.A X.env X.xe) (h:WhO X c body n ρ o):DS X ρ (.While c body [] pos) o:=by
 have pc:PT X c (ttA X.K fun ρ b=>DT X ρ c b):=fun pins s σ H Q I ⟨_,_,g,q⟩=>g pins s σ H Q I q
 refine PS.weak (sD hp pc (gN (sts:=body))) ?_
 rintro E σ H ⟨H₀,S₀,S,f,k⟩
 refine ⟨fun m σ' H'=>∃S' ρ',Fm X.K H₀ S₀ H' S' ρ' σ'∧WhO X c body m ρ' o,⟨n,S,ρ,f,h⟩,?_⟩
 rintro m σ' H' ⟨S',ρ',f',hw⟩
 cases hw with
 |stop hc=>exact ⟨ρ',false,hc,S',f'.ve,fun H1 ex=>fj (k σ' H1 S' (f'.grow ex))⟩
 |turn hc hb hr=>
  rename_i n ρ2
  refine ⟨ρ',true,hc,S',f'.ve,fun H1 ex=>eK ⟨fun σ2 H2=>∃S2,Fm X.K H₀ S₀ H2 S2 ρ2 σ2,fun σ2 H2 ⟨S2,f2⟩=>⟨n,Nat.lt_succ_self _,S2,ρ2,f2,hr⟩,ρ',_,hb,H₀,S₀,S',f'.grow ex,fun σ3 H3 S3 f3=>⟨S3,f3⟩⟩⟩
 |ret hc hb hend=>
  refine ⟨ρ',true,hc,S',f'.ve,fun H1 ex=>eK ⟨fun _ _=>False,fun _ _ z=>z.elim,ρ',o,hb,H₀,S₀,S',f'.grow ex,?_⟩⟩
  cases o with
  |nx _=>exact hend.elim
  |rt d=>exact k
  |rfx xs=>exact k
section
variable {X:Cx} {ρ:Rho} {e a b:Expr} {p pos:Pos} {da:D}
theorem ql:bootBuiltins "max"=some (.builtin "max"):=by decide+kernel
theorem wG {i j:Int} (hc:X.calm=true) (hg:Gl X "max") (hm:X.mg "max"=none) (ha:DA X ρ [a,b] [.int i,.int j]) (he:starEach [a,b] X.env=(false,eval a X.env)::starEach [b] X.env:=by rfl) (hpl:(backTo pos (starEach [b] X.env)).any (·.1)=false:=by rfl):
  DE X ρ (.Call (.Name "max" p) [a,b] [] pos) (.int (if j>i then j else i)):=
 dG (qP hc) (fun vs H S Q rs dm k=>by
  obtain ⟨v,u,rfl,r1,r2⟩:=rs.two
  exact ⟨i,j,by rw [r1.aX,r2.aX],k _ H Ext.refl (.int _)⟩) hg hm ql ha (by decide) (by decide) he hpl
noncomputable def jb (i j:Int):List Int:=(List.range (j - i).toNat).map fun k:Nat=>i+(k:Int)
theorem p8 {tg:Expr} {i j:Int} (hg:Gl X "range") (hm:X.mg "range"=none) (ha:DA X ρ [a,b] [.int i,.int j]) (hb: -(2^62)<=i∧i<2^62∧ -(2^62)<=j∧j<2^62)
  (hs:starEach [a,b] X.env=[(false,eval a X.env),(false,eval b X.env)]:=by rfl) (hs2:starEach [b] X.env=[(false,eval b X.env)]:=by rfl):DI X tg ρ (.Call (.Name "range" p) [a,b] [] pos) ((jb i j).map D.int):=
 PI.weak (rP hg hm ha hs hs2) fun σ H R ⟨S,ve,k⟩=>⟨S,ve,fun vs H' ex rs=>by
  obtain ⟨v,u,rfl,r1,r2⟩:=rs.two
  rw [r1.aX,r2.aX]
  refine ⟨i,j,rfl,hb,k _ H' ex fun H2 S2 e z dm m=>?_⟩
  refine ⟨fun d hd=>?_,fun hi=>show _<=m by simpa [jb] using hi⟩
  have hm:m<(j - i).toNat:=by
   have:=(List.getElem?_eq_some_iff.mp hd).1
   simpa [jb] using this
  refine ⟨hm,fun x H3 y=>?_⟩
  obtain ⟨e2,e3⟩:=y
  subst e2 e3
  have hd':d=.int (i+(m:Int)):=by
   rw [jb,List.map_map,List.getElem?_map,List.getElem?_range hm] at hd
   exact (Option.some.inj hd).symm
  subst hd'
  exact ⟨Ext.refl,.int _⟩⟩
end
end CT
namespace CT
open PySem PySem.Spec L2
open PyProof.Rows hiding St
theorem Draws.B3 {prog:Program} {w:World} {A:Around} (hh:A.handled=none) (b:Bool) (it l:Addr) (hne:l≠it) (items:Array Value):
  Draws prog w A it [it,l] items.size (fun i v=>items[i]?=some v) (fun i h=>Sit h b it l i∧Ssq h b l items) where
 live:=fun _ _ st=>let ⟨o,_,_,ho,_⟩:=Sit.rec st.1;⟨o,ho⟩
 frame:=fun _ _ _ st hk=>⟨Sit.at st.1 fun o e=>hk it (by simp) o e,Ssq.at st.2 fun o e=>hk l (by simp) o e⟩
 item:=fun i s Q E hi st hQ=>bq st.1 st.2 (x:=items[i]) (by simp [hi]) fun h' a c=>hQ _ h' s.toks (by simp [hi]) ⟨a,Ssq.at st.2 fun o e=>c.extBut _ _ hne e⟩ c
 done:=fun s Q E st hE=>cm hh st.1 st.2 (by simp) hE
theorem oO (b:Bool) (a:Addr) (xs:Array Value):
  Meets (Builtin.«enumerate.__new__» ⟨[.type "enumerate",.ref a],[]⟩) (fun _ R s=>Ssq s.heap b a xs∧
   ∀h',IsEnum h' (s.heap.objs.size+1) s.heap.objs.size 0 .none->Sit h' b s.heap.objs.size a 0->(∀c o,s.heap.get? c=some o->h'.get? c=some o)->R (.ok (.ret (.ref (s.heap.objs.size+1)))) {s with heap:=h'}):=
 .of_wp fun prog w A R s h=>by
  obtain ⟨hp,g,d,tk,os⟩:=s;obtain ⟨hl,h⟩:=h
  have hsub:=sub_enumerate
  have hL:Ssq (Shared.heap ⟨hp,g,d,tk,os⟩) b a xs:=hl
  have fin:∀h2,h2=(hp.push (bp b a)).push {cls:=.type "enumerate",data:=.fields #[.none,.bool false,.ref hp.objs.size,rawInt 0,.none,.none]}->R (.ok (.ret (.ref (hp.push (bp b a)).objs.size))) ⟨h2,g,d,tk,os⟩:=fun h2 e=>by
   have z:=Heap.size_push hp (bp b a)
   have g5:=Heap.get?_push_size (hp.push (bp b a)) (o:={cls:=.type "enumerate",data:=.fields #[.none,.bool false,.ref hp.objs.size,rawInt 0,.none,.none]}) rfl
   rw [z] at g5 ⊢
   subst e
   exact h _ g5 (Sit.at (Sit.new (h:=hp) b a) fun o e=>Heap.get?_push_of_some _ e) fun c o e=>Heap.get?_push_of_some _ (Heap.get?_push_of_some _ e)
  have ho:∃o,hp.get? a=some o:=by cases b<;>exact let ⟨o,ho,_⟩:=hl;⟨o,ho⟩
  obtain ⟨o,ho⟩:=ho
  wp_walk using AutoSeq1.wpAny_loadPart' ho
  refine wpAny_stack_any fun st=>wpAny_pure ?_
  split
  ·rename_i c _ _ _ _ _
   cases (c==Value.type "enumerate")<;>(wp_walk using AutoSeq1.wpAny_loadPart' ho,c5 hL;exact ⟨_,rfl,fin _ rfl⟩)
  ·wp_walk using AutoSeq1.wpAny_loadPart' ho,c5 hL
   exact ⟨_,rfl,fin _ rfl⟩
theorem qe {prog:Program} {w:World} {A:Around} {E:Value->Shared->Prop} {s:Shared} {b:Bool} {a:Addr} {xs:Array Value} {Q:Value->Shared->Prop} (hl:Ssq s.heap b a xs)
  (h:∀h',IsEnum h' (s.heap.objs.size+1) s.heap.objs.size 0 .none->Sit h' b s.heap.objs.size a 0->(∀c o,s.heap.get? c=some o->h'.get? c=some o)->Q (.ref (s.heap.objs.size+1)) {s with heap:=h'}):
  wpAny (model prog w) A (call (.type "enumerate") [.ref a]) Q E s:=
 callType_new F.called_enumerate (by decide) (F.typeCall_enumerate_1 _) (F.newCall_enumerate_1 _) (fun obj=>F.args_object_init_2 obj _) F.entry_enumerate_new (oO b a xs)
  ⟨hl,fun h' q1 q2 q3=>⟨⟨_,q1,rfl⟩,h h' q1 q2 q3⟩⟩
theorem Draws.B_ {prog:Program} {w:World} {A:Around} (hh:A.handled=none) (b:Bool) (it l:Addr) {items:Array Value} {n:Nat} (hx:items[n]?=none):
  Draws prog w A it [it,l] n (fun _ _=>False) (fun j h=>j=n∧Sit h b it l n∧Ssq h b l items) where
 live:=fun _ _ st=>let ⟨o,_,_,ho,_⟩:=Sit.rec st.2.1;⟨o,ho⟩
 frame:=fun _ _ _ st hk=>⟨st.1,Sit.at st.2.1 fun o e=>hk it (by simp) o e,Ssq.at st.2.2 fun o e=>hk l (by simp) o e⟩
 item:=fun i s Q E hi st hQ=>absurd (st.1▸hi) (Nat.lt_irrefl _)
 done:=fun s Q E st hE=>cm hh st.2.1 st.2.2 hx hE
noncomputable def Ite (K:PySem.W.Frag) (b:Bool) (a:Addr):It:=
 ⟨fun i H=>∃xs x,SqB K H b a xs∧xs[i]?=some x,
  fun i H v H'=>∃T x,H T=none∧v=.ref T∧H'=upd H T (.tup [.int (i:Int),x])∧∀xs,SqB K H b a xs->xs[i]?=some x,
  fun i H=>∃xs,SqB K H b a xs∧xs.length<=i⟩
theorem qW {P:Program} {w:World} {K:PySem.W.Frag} {elts:List Expr} {x1} {pos:Pos} {b:Bool} {e it a:Addr} (hne:e≠it):
  Turn P w K (.Tuple elts x1 pos) (Ite K b a) [e,it] e (fun i h=>(∃old,IsEnum h e it i old)∧Sit h b it a i) where
 mem:=by simp
 obj:=fun i h ⟨⟨old,q1⟩,q2⟩ b hb=>by
  simp only [List.mem_cons,List.not_mem_nil,or_false] at hb
  rcases hb with rfl|rfl
  ·exact ⟨_,q1,fun v z=>by have z':Data.fields _=Data.cell v:=z;cases z'⟩
  ·obtain ⟨o,_,_,ho,_,hd⟩:=Sit.rec q2
   exact ⟨o,ho,fun v z=>by rw [hd] at z;cases z⟩
 keep:=fun i h h' ⟨⟨old,q1⟩,q2⟩ k=>⟨⟨old,k e (by simp) _ q1⟩,Sit.at q2 fun o ho=>k it (by simp) _ ho⟩
 item:=by
  intro X hP hw hK hc i pins s σ H E I hf ⟨⟨old,q1⟩,q2⟩ hg
  subst hP hw hK
  obtain ⟨xs,x,hx,ex⟩:=hg
  obtain ⟨its,r1,p1,_⟩:=CT.Inv.sqb I hx
  obtain ⟨u,eu,ru⟩:=jA r1 ex
  have hel:=Heap.lt_size q1
  have hil:it<s.heap.objs.size:=by obtain ⟨o,_,_,ho,_⟩:=Sit.rec q2;exact Heap.lt_size ho
  have nae:=CT.Inv.cT I hx (hf e (by simp))
  have nai:=CT.Inv.cT I hx (hf it (by simp))
  refine wpAny_pyNext_enum_itemD (Draws.B3 (A:=X.A.in1) (I.ok.hd hc) b it a nai its.toArray) q1 ⟨q2,p1⟩ (by obtain ⟨z,_⟩:=Array.getElem?_eq_some_iff.mp eu;exact z) hne (by simp [hne,Ne.symm nae]) fun u' h' tk eu' z1 z2 z3 z4 kk=>?_
  rw [eu] at eu';cases eu'
  refine ⟨_,rfl,wpAny_letOwnedTupleGo_enum (s:={s with heap:=h',toks:=tk+1}) z1 fun h2 z1' sb=>?_⟩
  have k2:∀c o,c∉[e,it]->s.heap.get? c=some o->h2.get? c=some o:=fun c o hc q=>sb.extBut c o (fun z=>hc (by simp [z])) (kk c o (fun z=>hc (by simp [z])) (fun z=>hc (by simp [z])) q)
  have I1:Inv X pins σ H {s with heap:=h2,toks:=tk+1}:=CT.Inv.ei (t':=tk+1) (ch:=[e,it]) I hf k2
  have hT:h2.get? s.heap.objs.size=some {cls:=.type "tuple",data:=.seq #[.int i tk,u]}:=sb.extBut _ _ (Nat.ne_of_gt hel) z3
  have I2:Inv X pins σ (upd H s.heap.objs.size (.tup [.int (i:Int),x])) {s with heap:=h2,toks:=tk+1}:=CT.Inv.adopt I1 (I.ft (Nat.le_refl _) (I.hok.fresh (Nat.le_refl _)))
   ⟨by show 2<=sizeLine;decide,[.int i tk,u],.cons ⟨_,rfl⟩ (.cons ru .nil),_,hT,rfl,_,rfl⟩
  refine ⟨.ref s.heap.objs.size,_,I2,rfl,⟨_,x,I.hok.fresh (Nat.le_refl _),rfl,rfl,fun xs' h'=>by rw [CT.Inv.ek I h' hx];exact ex⟩,⟨⟨_,by exact z1'⟩,Sit.at z2.1 fun o ho=>sb.extBut _ _ (Ne.symm hne) ho⟩,fun b hb=>?_⟩
  simp only [List.mem_cons,List.not_mem_nil,or_false] at hb
  rcases hb with rfl|rfl
  ·rw [ag (Nat.ne_of_lt hel)];exact (hf _ (by simp)).1
  ·rw [ag (Nat.ne_of_lt hil)];exact (hf _ (by simp)).1
 done:=by
  intro X hP hw hK hc i pins s σ H E I hf ⟨⟨old,q1⟩,q2⟩ hg
  subst hP hw hK
  obtain ⟨xs,hx,he⟩:=hg
  obtain ⟨its,r1,p1,_⟩:=CT.Inv.sqb I hx
  refine wpAny_pyNext_enum_endD (Draws.B_ (A:=X.A.in1) (I.ok.hd hc) b it a (jg r1 he)) q1 ⟨rfl,q2,p1⟩ fun h' kk=>⟨rfl,?_⟩
  exact CT.Inv.ei (t':=s.toks) (ch:=[e,it]) I hf fun b o hb q=>kk b o (fun z=>hb (by simp [z])) q
 self:=fun _ _ _ _ _ ⟨⟨old,q1⟩,_⟩ h=>wpAny_pyIter_enum q1 h
theorem boot_enumerate:bootBuiltins "enumerate"=some (.type "enumerate"):=by decide+kernel
noncomputable def Bu (K:PySem.W.Frag) (t:TA):TI:=fun σ H R=>t σ H fun vs H1=>∃b a xs,vs=[.ref a]∧SqB K H1 b a xs∧R (Ite K b a) H1
theorem v8 {X:Cx} {elts:List Expr} {tpos:Pos} {a:Expr} {ta:TA} {k} {p pos:Pos} (hg:Gl X "enumerate") (hm:X.mg "enumerate"=none) (ha:PA X [a] ta) (hs:starEach [a] X.env=[(false,eval a X.env)]:=by rfl):
  PI X (.Tuple elts k tpos) (.Call (.Name "enumerate" p) [a] [] pos) (Bu X.K ta):=by
 intro pins s σ H R I h
 refine Call_ (dR I hg hm boot_enumerate (PyProof.Rows.callWith_type1 (thn (ha pos pins s σ H _ I h) fun us s1 ⟨vs,H1,I1,r1,q1⟩=>?_) (by rw [hs];rfl) rfl))
 obtain ⟨b,l,xs,rfl,hx,q⟩:=q1
 obtain ⟨its,rv,p1,_⟩:=CT.Inv.sqb I1 hx
 cases r1 with
 |cons r rr=>
  cases rr
  cases r
  refine qe p1 fun h' he hi hk=>?_
  refine wpAny_pyIter_enum he ?_
  refine ⟨_,_,_,_,H1,rfl,I1.kept (t':=s1.toks) hk,qW (Nat.succ_ne_self _),⟨⟨_,he⟩,hi⟩,fun b hb=>?_,q⟩
  have hle:s1.heap.objs.size<=b:=by
   simp only [List.mem_cons,List.not_mem_nil,or_false] at hb
   rcases hb with rfl|rfl<;>omega
  exact I1.ft hle (I1.hok.fresh hle)
noncomputable def bf (k:Nat):List D->List D
 |[]=>[]
 |x::xs=>.tup [.int (k:Int),x]::bf (k+1) xs
theorem gr:∀{xs:List D} {k i:Nat} {d:D},(bf k xs)[i]?=some d->∃x,xs[i]?=some x∧d=.tup [.int ((k+i:Nat):Int),x]
 |x::xs,k,0,d,h=>by
  simp [bf] at h
  exact ⟨x,rfl,h.symm⟩
 |x::xs,k,i+1,d,h=>by
  simp [bf] at h
  obtain ⟨x',h1,h2⟩:=gr h
  exact ⟨x',by simpa using h1,by rw [h2,show k+1+i=k+(i+1) by omega]⟩
 |[],_,_,_,h=>by simp [bf] at h
theorem gx:∀{xs:List D} {k:Nat},(bf k xs).length=xs.length
 |[],_=>rfl
 |x::xs,k=>by simp [bf,gx]
theorem vi {X:Cx} {ρ:Rho} {a:Expr} {xs:List D} {elts:List Expr} {k} {tpos p pos:Pos} (hg:Gl X "enumerate") (hm:X.mg "enumerate"=none) {da:D} (qa:Sq da xs) (ha:DA X ρ [a] [da]) (hs:starEach [a] X.env=[(false,eval a X.env)]:=by rfl):
  DI X (.Tuple elts k tpos) ρ (.Call (.Name "enumerate" p) [a] [] pos) (bf 0 xs):=
 PI.weak (v8 hg hm ha hs) fun σ H R ⟨S,ve,kk⟩=>⟨S,ve,fun vs H' ex rs=>by
  obtain ⟨v,rfl,r⟩:=rs.one
  obtain ⟨b,l,us,rfl,l1⟩:=qa.later r
  refine ⟨b,l,us,rfl,(l1 H' S Ext.refl fun a h=>.inl h).1,kk _ H' ex fun H2 S2 e2 z2 dm i=>?_⟩
  obtain ⟨s1,t1⟩:=l1 H2 S2 e2 z2
  refine ⟨fun d hd=>?_,fun hi=>⟨us,s1,?_⟩⟩
  ·obtain ⟨x,hx,rfl⟩:=gr hd
   obtain ⟨x',hx',rx⟩:=t1.get hx
   refine ⟨⟨us,x',s1,hx'⟩,fun z H3 yl=>?_⟩
   obtain ⟨T,x2,hT,rfl,rfl,g1⟩:=yl
   have e1:=g1 us s1
   rw [hx'] at e1;cases e1
   rw [Nat.zero_add]
   exact ⟨Ext.new hT,Rds.dN dm hT (.cons (.int _) (.cons rx .nil))⟩
  ·have h1:=t1.length
   rw [gx] at hi
   omega⟩
end CT
namespace CT
open PySem PySem.Spec L2
open PyProof.Rows hiding St
section
variable {X:Cx} {ρ:Rho} {k:Nat} {f C:Addr} {fd:FuncData} {ps:List Str} {x:Str} {p pos:Pos} {e o a b:Expr} {es:List Expr} {ds xs ys:List D} {d:D}
theorem Bb (hm:PySem.W.excIn X.K C bmV "ValueError.__new__"=true) (hk:PySem.W.keepIn X.K (.ref C)=true) (hg:Gl X x) (hx:X.mg x=some (.ref C)) (hdb:(x==("__debug__":Str))=false:=by decide):DE X ρ (.Call (.Name x p) [] [] pos) (.exc C []):=
 PE.weak (uM hm hk hg hx hdb) fun σ H Q ⟨S,ve,kk⟩ z hz=>kk _ _ (Ext.new hz) (.gf ao (ve.dom.not hz))
theorem aG.zip {K:PySem.W.Frag} {H:Hp} {S:Ad}:∀{fls:List Str} {ds:List D} {vs:List V},ae K H S ds vs->aG K H S (fls.zip ds) (fls.zip vs)
 |[],_,_,_=>.nil
 |_::_,_,_,.nil=>.nil
 |f::fls,_,_,.cons r t=>.cons r (aG.zip t)
theorem zx {fls:List Str} (M:XMk X.K C f) (F:aw X.prog X.w X.K X.mg X.base CX0 k f fd ps (spX C fls)) (hr:ay (k+1) X.A) (hg:Gl X x) (hm:X.mg x=some (.ref C)) (hb:Binds X.K fd ps []) (ha:DA X ρ (e::es) ds) (hl:ds.length=fls.length) (hl2:ds.length<=1000)
  (hdb:(x==("__debug__":Str))=false:=by decide) (he:starEach (e::es) X.env=(false,eval e X.env)::starEach es X.env:=by rfl) (hpl:(backTo pos (starEach es X.env)).any (·.1)=false:=by rfl):
  DE X ρ (.Call (.Name x p) (e::es) [] pos) (.exc C (fls.zip ds)):=
 PE.weak (rH M F hr hg hm hb d9 ha hdb he hpl) fun σ H Q ⟨S,ve,kk⟩=>⟨S,ve,fun vs H1 ex r=>⟨by rw [←r.length];exact hl2,fun z hz=>⟨z,vs,rfl,by rw [←r.length];exact hl,ao,fun dx H' hd hne h1 h2 h3=>⟨rfl,by
  have hd1:H1 dx=none:=by rw [ag hne] at hd;exact hd
  have dm:=(ve.ext ex).dom
  have e1:aF H1 H':=fun c u _ hc=>by rw [h3 c (aj hc hz) (aj hc hd1),ag (aj hc hz)];exact hc
  exact kk _ H' (ex.trans e1) (.exc h1 h2 (dm.not hz) (dm.not hd1) (aG.zip (r.ext (e1.to S))))⟩⟩⟩⟩
theorem vR {fs:List (Str×D)} {fl:Str} (ho:DE X ρ o (.exc C fs)) (c:br X.K C) (n:a7 X.K C fl) (l:fs.lookup fl=some d) (hb:attributeBase o fl X.env (eval o X.env)=eval o X.env:=by rfl):DE X ρ (.Attribute o fl pos) d:=
 PE.weak (vT ho hb) fun σ H Q ⟨S,ve,kk⟩=>⟨S,ve,fun v H1 ex1 r1=>by
  cases r1 with
  |gf h n=>cases l
  |exc h h2 n1 n2 rf=>
   obtain ⟨u,hu,ru⟩:=rf.look l
   exact ⟨_,_,_,_,_,u,rfl,h,h2,c,n,hu,kk u H1 ex1 ru⟩⟩
theorem xi:OpR X (binaryOp .Add) (fun x y H Q=>∃a b us vs,x=.ref a∧y=.ref b∧SqL X.K H a us∧SqL X.K H b vs∧us.length+vs.length<=sizeLine∧∀z,H z=none->Q (.ref z) (upd H z (.lst (us++vs)))):=by
 intro pins s σ H x y v u Q I rx ry ⟨a,b,us,vs,ex,ey,h1,h2,hl,q⟩
 subst ex ey
 obtain rfl:v=Value.ref a:=rx
 obtain rfl:u=Value.ref b:=ry
 obtain ⟨i1,r1,p1,_⟩:=I.list h1
 obtain ⟨i2,r2,p2,_⟩:=I.list h2
 obtain ⟨⟨c,dd,dt,sl⟩,ho,hc,n,hd⟩:=p1.isList
 obtain ⟨⟨c2,dd2,dt2,sl2⟩,ho2,hc2,n2,hd2⟩:=p2.isList
 simp only at hc hd hc2 hd2
 subst hc hd hc2 hd2
 have l1:=r1.length
 have l2:=r2.length
 refine concat_meets ⟨_,ho,rfl⟩ ⟨_,ho2,rfl⟩ noFill_list_add seq_list_add PySem.F.slot_list_add PySem.F.entry_list_add (PySem.F.args_list_add_2 _ _) (list_addW a b i1.toArray i2.toArray n n2 dd dd2 sl sl2 (by simp;omega)) ⟨ho,ho2,?_⟩
 have e:i1.toArray++i2.toArray=(i1++i2).toArray:=by simp
 rw [e]
 refine ⟨.ref s.heap.objs.size,_,I.laid (o:=.lst (us++vs)) (t':=s.toks) (fun c w z=>Heap.get?_push_of_some _ z) (Nat.le_refl _) ⟨by rw [List.length_append];exact hl,i1++i2,_,r1.append r2,Heap.get?_push_size _ rfl⟩,rfl,q _ (I.hok.fresh (Nat.le_refl _))⟩
theorem w4 (ha:DE X ρ a (.lst xs)) (hb:DE X ρ b (.lst ys)) (hl:xs.length+ys.length<=sizeLine):DE X ρ (.BinOp a .Add b pos) (.lst (xs++ys)):=
 dw xi (fun x y H S Q rx ry dm k=>by
  obtain ⟨p,us,rfl,h1,r1⟩:=rx.iy
  obtain ⟨q,vs,rfl,h2,r2⟩:=ry.iy
  exact ⟨p,q,us,vs,rfl,rfl,h1,h2,by rw [←r1.length,←r2.length];exact hl,fun z hz=>k _ _ (Ext.new hz) (Rds.iV dm hz (r1.app r2))⟩) ha hb
end
end CT
namespace CT
open PySem PySem.Spec L2
open PyProof.Rows hiding St
noncomputable def jv (K:PySem.W.Frag) (C:Addr):Bool:=PySem.W.hasDictIn K C&&(PySem.W.clsIn K C).any (fun cd=>fK cd.mro)&&PySem.W.findIn K (.ref C) "__getattribute__"==some (some (.builtin "BaseException.__getattribute__"))&&
 PySem.W.findIn K (.ref C) "__getattr__"==some none&&PySem.W.findIn K (.ref C) "__setattr__"==some (some (.builtin "object.__setattr__"))&&PySem.W.findIn K (.ref C) "__class__"==some (some (.builtin "object.__class__"))&&
 PySem.W.specialIn K (.builtin "object.__class__") "__get__"==some (some (.builtin "getset_descriptor.__get__"))&&PySem.W.takesIn K (.builtin "object.__class__")==some true
theorem ar {K:PySem.W.Frag} {C:Addr} (h:jv K C=true):iK K C:=by
 unfold jv at h
 simp only [Bool.and_eq_true,beq_iff_eq] at h
 obtain ⟨⟨⟨⟨⟨⟨⟨h1,h2⟩,h3⟩,h4⟩,h5⟩,h6⟩,h7⟩,h8⟩:=h
 exact ⟨⟨h1,h2,h3,h4,h5⟩,h6,h7,h8⟩
end CT
namespace CT
open PySem PySem.Spec L2
open PyProof.Rows hiding St
section
variable {X:Cx} {ρ:Rho} {a b e:Expr} {d:D} {pos:Pos}
theorem intBits_le {k:Int} {n:Nat} (h:k.natAbs<2^n):Builtin.Int.intBits k<=n:=by
 unfold Builtin.Int.intBits
 split
 ·exact Nat.zero_le _
 ·rename_i hk
  have hp:k.natAbs≠0:=fun z=>hk (by simp [Int.natAbs_eq_zero.mp z])
  have:=(Nat.log2_lt hp).mpr h
  omega
noncomputable def jc (i j:Int):Prop:=i.natAbs<2^100000∧j.natAbs<2^100000
theorem jc.ok {i j:Int} (h:jc i j):IntMulOk i j:=by
 have h1:=intBits_le h.1
 have h2:=intBits_le h.2
 have e:Builtin.Int.intTooBig (Builtin.Int.intBits i+Builtin.Int.intBits j)=false:=by
  unfold Builtin.Int.intTooBig bitsLine
  refine decide_eq_false ?_
  have:(2:Nat)^27=134217728:=by decide
  rw [this];omega
 unfold IntMulOk
 rw [e];simp
theorem xg:OpR X (binaryOp .Mult) (rI jc fun i j=>.int (i*j)):=opI fun _ _ _ _ _ _ _ hc q=>mul_int q hc.ok
theorem vz {i j:Int} (h:jc i j) (ha:DE X ρ a (.int i)) (hb:DE X ρ b (.int j)):DE X ρ (.BinOp a .Mult b pos) (.int (i*j)):=
 dw xg (fun x y H S Q rx ry dm k=>⟨i,j,rx.aX,ry.aX,h,k _ H Ext.refl (.int _)⟩) ha hb
end
end CT
namespace CT
open PySem PySem.Spec L2
open PyProof.Rows hiding St
noncomputable def tyN:D->Option String
 |.non=>some "NoneType"|.bl _=>some "bool"|.int _=>some "int"|.str _=>some "str"|.tup _=>some "tuple"|.lst _=>some "list"|.dct _=>some "dict"|.pdc _=>some "dict"
 |_=>none
noncomputable def o5 (x:D) (c:String):Bool:=match tyN x with
 |some n=>n==c||(n=="bool"&&c=="int")
 |none=>false
section
variable {X:Cx} {ρ:Rho} {a b:Expr} {x:D} {p pos:Pos}
theorem Cn {K:PySem.W.Frag} {x:D} (hx:tyN x≠none):∃n,TyD K x (.type n)∧PySem.W.kitAny K (.type n) [.type "list",.type "tuple"]=some (o5 x "list"||o5 x "tuple"):=by
 cases x with
 |non=>exact ⟨_,.non,rfl⟩
 |bl b=>exact ⟨_,.bl b,rfl⟩
 |int i=>exact ⟨_,.int i,rfl⟩
 |str s=>exact ⟨_,.str s,rfl⟩
 |tup xs=>exact ⟨_,.tup xs,rfl⟩
 |lst xs=>exact ⟨_,.lst xs,rfl⟩
 |dct xs=>exact ⟨_,.dct xs,rfl⟩
 |pdc xs=>exact ⟨_,.pdc xs,rfl⟩
 |ins _ _=>exact absurd rfl hx
 |exc _ _=>exact absurd rfl hx
 |ty _=>exact absurd rfl hx
 |cl _=>exact absurd rfl hx
end
noncomputable def noStar:Expr->Bool
 |.Starred ..=>false
 |_=>true
theorem bD {e:Expr} {es:List Expr} {env:Env} (h:noStar e=true):starEach (e::es) env=(false,eval e env)::starEach es env:=by
 cases e<;>first|rfl|cases h
end CT
namespace CT
open PySem PySem.Spec PySem.W L2
open PyProof.Rows hiding St
section
open HT
variable {prog:Program} {w:World} {A:Around} {E:Value->Shared->Prop} {s:Shared}
theorem gm {t sl:Addr} {items:Array Value} {vl vu:Value} {lo hi:Option Int} {Q:Value->Shared->Prop} (ht:IsTup s.heap t items) (hs:s.heap.IsSliceOf sl vl vu .none) (pl:IsPart vl lo) (pu:IsPart vu hi)
  (hw:HT.sIx items.size 0 lo=0∧HT.sIx items.size items.size hi=items.size)
  (h:Q (.ref t) s):wpAny (model prog w) A (getItem (.ref t) (.ref sl)) Q E s:=by
 obtain ⟨os,hos,hcs,hds⟩:=id hs
 have hTs:s.TypeIs (.ref sl) "slice":=⟨os,hos,hcs⟩
 unfold getItem
 try with_reducible refine wpAny_holding ?_
 first|refine wpAny_bind (wpAny_pure ?_)|skip
 refine wpAny_bind (wpAny_sequenceKey ht.typeIs (by decide) ?_)
 refine wpAny_bind (wpAny_callSpecial?_slot (name:=Str.ofString "__getitem__") ht.typeIs PyProof.Rows.slot_tuple_getitem
  (wpAny_call_entry PyProof.Rows.slot_tuple_getitem ht.typeIs entry_tuple_getitem ?_ (args_tuple_getitem _ _)))
 show wpAny _ _ (Builtin.Tuple.tupleItemsOf (.ref t)>>=_) _ _ s
 refine wpAny_bind (tupleItemsOf_ ht ?_)
 refine wpAny_bind (wpAny_typeOf hTs ?_)
 rw [if_pos (by decide)]
 refine wpAny_bind (HT.eJ hs pl pu ?_)
 have hyes:(((HT.sIx items.size 0 lo:Nat):Int)==0&&(1:Int)==1&&(HT.sIx items.size items.size hi - HT.sIx items.size 0 lo)==items.size)=true:=by
  rw [hw.1,hw.2];simp
 show wpAny _ _ (if (((HT.sIx items.size 0 lo:Nat):Int)==0&&(1:Int)==1&&(HT.sIx items.size items.size hi - HT.sIx items.size 0 lo)==items.size)=true then _ else _) _ _ s
 rw [if_pos hyes]
 refine wpAny_bind (m:=Builtin.Tuple.tupleIsExact (.ref t)) ?_
 unfold Builtin.Tuple.tupleIsExact
 refine wpAny_bind (wpAny_typeOf ht.typeIs ?_)
 refine wpAny_pure ?_
 rw [if_pos (by decide)]
 exact wpAny_bind (wpAny_rule (wpAny_pure ⟨_,rfl,wpAny_pure h⟩))
end
section
variable {X:Cx} {ρ:Rho} {a:Expr} {lo hi:Option Expr} {xs:List D} {l u:Option Int} {pos p2:Pos}
noncomputable def B2 (K:PySem.W.Frag):V->Option Int->Option Int->Hp->VK->Prop:=fun x lo hi H Q=>∃a xs,x=.ref a∧SqT K H a xs∧(HT.sIx xs.length 0 lo=0∧HT.sIx xs.length xs.length hi=xs.length)∧Q (.ref a) H
theorem ui:SlR X (B2 X.K):=by
 intro pins s σ H x v vl vu lo hi sl Q I rx hs pl pu h
 obtain ⟨a,xs,rfl,hx,hw,q⟩:=h
 cases rx
 obtain ⟨its,r,ht,hz⟩:=I.tuple hx
 have hlen:its.toArray.size=xs.length:=by rw [List.size_toArray];exact r.length.symm
 exact ⟨"tuple",_,PyProof.Rows.slot_tuple_getitem.lookup,ht.typeIs,gm ht hs pl pu (by rw [hlen];exact hw) ⟨.ref a,H,I,rfl,q⟩⟩
noncomputable def DO (X:Cx) (ρ:Rho) (e:Option Expr) (o:Option Int):Prop:=PO X e fun σ H Q=>∃S,VE X.K H S ρ σ∧∀H',aF H H'->Q o H'
theorem v7:DO X ρ none none:=fun pins s σ H Q I ⟨S,ve,k⟩=>v5 pins s σ H Q I (k H Ext.refl)
theorem wm {e:Expr} {i:Int} (h:DE X ρ e (.int i)):DO X ρ (some e) (some i):=fun pins s σ H Q I ⟨S,ve,k⟩=>vV h pins s σ H Q I ⟨S,ve,fun v H' e r=>⟨i,r.aX,k H' e⟩⟩
noncomputable def aZ (xs:List D) (lo hi:Option Int):List D:=(xs.drop (HT.sIx xs.length 0 lo)).take (HT.sIx xs.length xs.length hi - HT.sIx xs.length 0 lo)
theorem ae.drop' {K:PySem.W.Frag} {H:Hp} {S:Ad}:∀{xs:List D} {vs:List V} (n:Nat),ae K H S xs vs->ae K H S (xs.drop n) (vs.drop n)
 |_,_,0,h=>h
 |_,_,_+1,.nil=>.nil
 |_,_,n+1,.cons _ h=>ae.drop' n h
theorem ae.take' {K:PySem.W.Frag} {H:Hp} {S:Ad}:∀{xs:List D} {vs:List V} (n:Nat),ae K H S xs vs->ae K H S (xs.take n) (vs.take n)
 |_,_,0,h=>.nil
 |_,_,_+1,.nil=>.nil
 |_,_,n+1,.cons r h=>.cons r (ae.take' n h)
theorem ae.cut {K:PySem.W.Frag} {H:Hp} {S:Ad} {xs:List D} {vs:List V} (h:ae K H S xs vs) (lo hi:Option Int):ae K H S (aZ xs lo hi) (gE vs lo hi):=by
 unfold aZ gE
 rw [h.length]
 exact ae.take' _ (ae.drop' _ h)
theorem qX (ha:DE X ρ a (.tup xs)) (hl:DO X ρ lo l) (hu:DO X ρ hi u):DE X ρ (.Subscript a (.Slice lo hi none p2) pos) (.tup (aZ xs l u)):=by
 refine PE.weak (mO (SlR.or xI ui) ha hl hu) fun σ H Q ⟨S,ve,k⟩=>⟨S,ve,fun x H1 e1 r1=>⟨S,ve.ext e1,fun H2 e2=>⟨S,(ve.ext e1).ext e2,fun H3 e3=>?_⟩⟩⟩
 have r3:=r1.ext ((e2.trans e3).to S)
 have dm:=(((ve.ext e1).ext e2).ext e3).dom
 obtain ⟨p,us,rfl,h2,rs⟩:=r3.d3
 by_cases hw:HT.sIx us.length 0 l=0∧HT.sIx us.length us.length u=us.length
 ·refine .inr ⟨p,us,rfl,.inl (.inl h2),hw,k _ H3 (e1.trans (e2.trans e3)) ?_⟩
  have e:aZ xs l u=xs:=by
   unfold aZ
   rw [rs.length,hw.1,hw.2,List.drop_zero,Nat.sub_zero,List.take_of_length_le (by rw [rs.length];exact Nat.le_refl _)]
  rw [e];exact r3
 ·exact .inl ⟨p,us,rfl,.inl (.inl h2),hw,fun z hz=>k _ _ (e1.trans (e2.trans (e3.trans (Ext.new hz)))) (Rds.dN dm hz (rs.cut l u))⟩
theorem qN (ha:DE X ρ a (.lst xs)) (hl:DO X ρ lo l) (hu:DO X ρ hi u):DE X ρ (.Subscript a (.Slice lo hi none p2) pos) (.lst (aZ xs l u)):=by
 refine PE.weak (mO w6 ha hl hu) fun σ H Q ⟨S,ve,k⟩=>⟨S,ve,fun x H1 e1 r1=>⟨S,ve.ext e1,fun H2 e2=>⟨S,(ve.ext e1).ext e2,fun H3 e3=>?_⟩⟩⟩
 have r3:=r1.ext ((e2.trans e3).to S)
 have dm:=(((ve.ext e1).ext e2).ext e3).dom
 obtain ⟨p,us,rfl,sq,rs⟩:=r3.iy
 exact ⟨p,us,rfl,sq,fun z hz=>k _ _ (e1.trans (e2.trans (e3.trans (Ext.new hz)))) (Rds.iV dm hz (rs.cut l u))⟩
end
end CT
namespace CT
open PySem PySem.Spec L2
open PyProof.Rows hiding St
section
variable {X:Cx} {ρ:Rho} {o i e value tg:Expr} {pos pos' p ap cp:Pos} {es:List (PK×D)} {l:List PK} {d:D} {x:Str} {n:Nat}
theorem jl:DFx X ρ (.Dict [] [] pos) (.d []):=PE.weak w5 fun σ H Q ⟨S,ve,k⟩ p hp=>k p _ _ (Ext.new hp) hp ao ⟨0,[],rfl,.nil⟩
end
end CT
namespace CT
open PySem PySem.Spec L2
open PyProof.Rows hiding St
section
variable {X:Cx} {ρ:Rho} {o i e value tg:Expr} {pos pos' p ap cp:Pos} {es:List (PK×D)} {l:List PK} {d:D} {x:Str} {n:Nat}
noncomputable def b8:D->Bool
 |.non=>true
 |_=>false
theorem Rds.pb {K:PySem.W.Frag} {H:Hp} {S:Ad} {d:D} {v:V} (r:Rds K H S d v):decide (v=V.non)=b8 d:=by
 cases r<;>first|rfl|exact decide_eq_false (fun z=>nomatch z)
theorem Ag {j} {pos':Pos} (ha:DE X ρ e d):DE X ρ (.Compare e [.Is] [.Constant .none j pos'] pos) (.bl (b8 d)):=
 bS qh (fun x y H S Q rx ry dm k=>⟨ry.pN,by rw [rx.pb];exact k _ H Ext.refl (.bl _)⟩) ha gK (aP _)
theorem wN {j} {pos':Pos} (ha:DE X ρ e d):DE X ρ (.Compare e [.IsNot] [.Constant .none j pos'] pos) (.bl (!b8 d)):=
 bS nI (fun x y H S Q rx ry dm k=>⟨ry.pN,by rw [rx.pb];exact k _ H Ext.refl (.bl _)⟩) ha gK (aP _)
theorem yI {j} {pos':Pos} (ha:DE X ρ e d):DT X ρ (.Compare e [.Is] [.Constant .none j pos'] pos) (b8 d):=
 bR qh (fun x y H S Q rx ry dm k=>⟨ry.pN,by rw [rx.pb];exact k _ H Ext.refl (.bl _)⟩) ha gK (aP _)
theorem vU {j} {pos':Pos} (ha:DE X ρ e d):DT X ρ (.Compare e [.IsNot] [.Constant .none j pos'] pos) (!b8 d):=
 bR nI (fun x y H S Q rx ry dm k=>⟨ry.pN,by rw [rx.pb];exact k _ H Ext.refl (.bl _)⟩) ha gK (aP _)
end
end CT
namespace CT
open PySem PySem.Spec L2
open PyProof.Rows hiding St
noncomputable abbrev KVs:=List (PK×Addr×V)
structure DCx (X:Cx) (ρ:Rho) (e:Expr) (c:Ow):Prop where
 pe:DFx X ρ e c
 ps:∀(i:Nat) (x:Str) (pos' spos:Pos),X.N.Nodup->X.N[i]?=some x->Loc X.env.scope x->(X.fn x=true∨X.env.scope.names.lookup x=some .local)->swapsWith e (some (.Name x pos')) spos.line X.env=pure true->
  PS X (.Assign [.Name x pos'] e spos) (mT (oV X.K ρ c) (fU i))
section
variable {X:Cx} {ρ:Rho} {e:Expr} {c:Ow} {xs:List D} {i:Nat} {x:Str} {pos pos':Pos}
theorem DC.cx (h:DC X ρ e xs):DCx X ρ e (.l xs):=⟨h.df.x,fun i x pos' spos hN hix hx hf hsw=>PS.weak (h.ps i x pos' spos hN hix hx hf hsw) fun D σ H ⟨S,ve,k⟩=>⟨S,ve,fun a vs H' ex hp r=>
 k a (.lst vs) _ (ex.trans (Ext.new hp)) (ex.back hp) ao ⟨vs,rfl,((r.av (S':=S.and a) fun b h=>h.imp_right fun z=>by rw [z];exact hp).ext ((Ext.new hp).to _))⟩⟩⟩
theorem tW (hN:X.N.Nodup) (hi:X.N[i]?=some x) (hx:Loc X.env.scope x) (he:DCx X ρ e c) (hsw:swapsWith e (some (.Name x pos')) pos.line X.env=pure true) (hf:X.fn x=true∨X.env.scope.names.lookup x=some .local):
  DS X ρ (.Assign [.Name x pos'] e pos) (.nx (ρ.set i (.owx c))):=PS.weak (he.ps i x pos' pos hN hi hx hf hsw) fun E σ H ⟨H₀,S₀,S,f,k⟩=>⟨S,f.ve,fun a vs H' ex hn ha r=>k _ H' _ (f.pV ex hn ha r)⟩
end
end CT
namespace CT
open PySem PySem.Spec PySem.W L2
structure Loose (X:Cx) (pins:List (Addr×Obj)) (H:Hp) (T:Addr):Prop where
 new:X.s₀.heap.objs.size<=T
 loc:T≠X.env.locals
 cell:∀x c,X.env.cells.lookup x=some c->c≠T
 pin:∀p∈X.pn++pins,p.1≠T
 free:H T=none
noncomputable def b7 (X:Cx) (pins:List (Addr×Obj)) (H:Hp) (h:Heap) (a:Addr) (φ:Option Value->Prop):Prop:=
 ∃oe vs,h.get? a=some oe∧oe.data=.fields vs∧((vs[1]?=some .none∧φ none)∨
  ∃T oT ts fl,vs[1]?=some (.ref T)∧Loose X pins H T∧T≠a∧h.get? T=some oT∧oT.data=.fields ts∧ts[3]?=some fl∧φ (some fl))
noncomputable abbrev o7:Option Value->Prop:=fun _=>True
theorem b7.imp {X:Cx} {pins:List (Addr×Obj)} {H:Hp} {h:Heap} {a:Addr} {φ ψ:Option Value->Prop} (t:b7 X pins H h a φ) (f:∀x,φ x->ψ x):b7 X pins H h a ψ:=by
 obtain ⟨oe,vs,h1,h2,q⟩:=t
 refine ⟨oe,vs,h1,h2,q.imp (fun z=>⟨z.1,f _ z.2⟩) ?_⟩
 rintro ⟨T,oT,ts,fl,z1,z2,z3,z4,z5,z6,z7⟩
 exact ⟨T,oT,ts,fl,z1,z2,z3,z4,z5,z6,f _ z7⟩
theorem Loose.same {X:Cx} {pins:List (Addr×Obj)} {H H':Hp} {T:Addr} (l:Loose X pins H T) (h:H' T=none):Loose X pins H' T:=⟨l.new,l.loc,l.cell,l.pin,h⟩
section
variable {X:Cx} {pins:List (Addr×Obj)} {σ:St} {H:Hp} {s:Shared} {a C:Addr} {dx:Option Addr} {fr:Bool} {M:Model} {A:Around} {E:Value->Shared->Prop}
theorem _root_.L2.Inv.loose (I:Inv X pins σ H s) {T:Addr} (h:s.heap.objs.size<=T):Loose X pins H T where
 new:=Nat.le_trans I.sz h
 loc:=Nat.ne_of_gt (Nat.lt_of_lt_of_le I.lt h)
 cell:=fun x c e=>by obtain ⟨v,o,ho,_⟩:=I.cell x c e;exact Nat.ne_of_lt (Nat.lt_of_lt_of_le (Heap.lt_size ho) h)
 pin:=fun p hp=>Nat.ne_of_lt (Nat.lt_of_lt_of_le (Heap.lt_size (I.pin p hp).1) h)
 free:=I.hok.fresh h
theorem _root_.L2.Inv.mark {T:Addr} {t':Nat} {h':Heap} (I:Inv X pins σ H s) (l:Loose X pins H T) (k:∀b o,b≠T->s.heap.get? b=some o->h'.get? b=some o):Inv X pins σ H {s with heap:=h',toks:=t'}:=
 I.turned (it:=T) k l.free l.loc (.inr l.new) l.cell l.pin
theorem _root_.L2.Inv.excAt {fr':Bool} {h':Heap} {t':Nat} {vs:Array Value} (I:Inv X pins σ H s) (ha:H a=some (aD fr a C dx)) (k:∀b o,b≠a->s.heap.get? b=some o->h'.get? b=some o) (h1:h'.get? a=some ⟨.ref C,dx,.fields vs,#[]⟩) (hz:vs.size=6) (hf:fr'=true->vs[1]?=some .none):
  Inv X pins σ (upd H a (aD fr' a C dx)) {s with heap:=h',toks:=t'}:=
 I.write (x:=a) (e:=a) (by rw [ha];exact True.intro) (.inl rfl) k ⟨_,h1⟩ (i6 h1 hz hf)
theorem _root_.L2.Inv.slots {h':Heap} (I:Inv X pins σ H s) (hs:Heap.SlotsOnly (frs X.stack) s.heap h'):Inv X pins σ H {s with heap:=h'}:=by
 have nH:∀b u,H b=some u->b∉frs X.stack:=fun b u e hb=>by rw [I.jK b hb] at e;cases e
 refine I.call (g':=s.gens) (d':=s.drawn) (t':=s.toks) (ch:=[]) ⟨fun b o e _ hb _=>(hs.2.1 b hb).trans e,fun b o e _ _ _=>hs.2.2 b o e,fun b o _ n _=>n,fun b o e _=>let ⟨sl,q⟩:=hs.2.2 b o e;⟨_,q⟩,fun _ _ q=>q,fun _ _ _ q=>q,fun b ps q=>⟨#[],by rw [q];simp⟩⟩
  (fun b u e=>(I.hok b u e).eO (fun c v hc q=>(hs.2.1 c ?_).trans q) (fun _ q=>q) fun _ _ q=>q) I.bare fun b z=>nomatch z
 rcases hc with z|z
 ·rw [z];exact nH b u e
 ·exact nH c _ z
theorem kv {head:Value} {hadNext:Bool} {Q:Unit->Shared->Prop} (I:Inv X pins σ H s) (hfr:A.frames=some X.stack) (hs:X.stack=X.env::X.outer) (hf:X.env.frame=some X.env.locals) (ha:H a=some (aD fr a C dx))
  (h:∀s',Inv X pins σ (upd H a (aD false a C dx)) s'->b7 X pins (upd H a (aD false a C dx)) s'.heap a (fun fl=>fl=some (rawInt X.env.locals))->Q () s'):
  wpAny M A (do let b←EntryCells.newEntry head (←frameOf X.env) .none (rawInt X.env.locals) .none (←entryPlaceOf X.env.locals hadNext);setField (.ref a) 1 b) Q E s:=by
 have hl:=I.stack
 rw [hs] at hl hfr
 refine wpAny_bind (wpAny_frameOf_fun hfr hl hf fun h₁ hs₁=>?_)
 have I1:Inv X pins σ H {s with heap:=h₁}:=I.slots (by rw [hs];exact hs₁)
 refine wpAny_bind (wpAny_entryPlaceOf fun pl hpl=>?_)
 unfold EntryCells.newEntry newFields
 refine wpAny_bind (wpAny_newObj_type ?_ (hpl.sizeOk5 _ _ _ _ _))
 obtain ⟨vs,he₁,hz,_⟩:=dW (I1.hok a _ ha)
 have lo:=I1.loose (T:=h₁.objs.size) (Nat.le_refl _)
 have he₂:=Heap.get?_push_of_some (h:=h₁) {cls:=.type "traceback",dict:=none,data:=.fields ([head,.ref X.env.locals,.none,rawInt X.env.locals,.none]++(if pl.isEmpty then List.replicate 6 Value.none else pl)).toArray} he₁
 have hT₂:=Heap.get?_push_size h₁ (o:={cls:=.type "traceback",dict:=none,data:=.fields ([head,.ref X.env.locals,.none,rawInt X.env.locals,.none]++(if pl.isEmpty then List.replicate 6 Value.none else pl)).toArray}) rfl
 have I2:=I1.kept (t':=s.toks) (h':=h₁.push {cls:=.type "traceback",dict:=none,data:=.fields ([head,.ref X.env.locals,.none,rawInt X.env.locals,.none]++(if pl.isEmpty then List.replicate 6 Value.none else pl)).toArray}) (fun b u q=>Heap.get?_push_of_some _ q)
 refine wpAny_setField he₂ rfl (by rw [hz];decide) (h _ ?_ ?_)
 ·refine I2.excAt (t':=s.toks) ha (fun b o hb q=>(Heap.get?_update_other _ _ (Ne.symm hb)).trans q) (vs:=vs.setIfInBounds 1 (.ref h₁.objs.size)) ?_ (by simpa using hz) (fun z=>nomatch z)
  exact Heap.get?_update_self _ he₂ rfl
 ·have hTe:h₁.objs.size≠a:=Nat.ne_of_gt (Heap.lt_size he₁)
  refine ⟨_,vs.setIfInBounds 1 (.ref h₁.objs.size),Heap.get?_update_self _ he₂ rfl,rfl,.inr ⟨h₁.objs.size,_,_,rawInt X.env.locals,?_,lo.same (by rw [ag hTe];exact lo.free),hTe,(Heap.get?_update_other _ _ (Ne.symm hTe)).trans hT₂,rfl,?_,rfl⟩⟩
  ·simp [hz]
  ·first|(simp;done)|(rcases hpl with rfl|⟨_,_,_,_,_,_,_,rfl⟩<;>simp)
theorem jn {Q:Unit->Shared->Prop} (I:Inv X pins σ H s) (hfr:A.frames=some X.stack) (hs:X.stack=X.env::X.outer) (hf:X.env.frame=some X.env.locals) (ha:H a=some (aD fr a C dx)) (t:b7 X pins H s.heap a o7)
  (h:∀s',Inv X pins σ (upd H a (aD false a C dx)) s'->b7 X pins (upd H a (aD false a C dx)) s'.heap a (fun fl=>fl=some (rawInt X.env.locals))->Q () s'):wpAny M A (noteFrame (.ref a) X.env) Q E s:=by
 obtain ⟨oe,vs,he,hd,t⟩:=t
 unfold noteFrame
 simp only [hf]
 rcases t with ⟨h1,_⟩|⟨T,oT,ts,fl,h1,lo,hTa,hT,hdT,h3,_⟩
 ·refine wpAny_bind (wpAny_field he hd h1 ?_)
  rw [if_neg (by decide)]
  exact kv I hfr hs hf ha h
 ·refine wpAny_bind (wpAny_field he hd h1 ?_)
  rw [if_pos (show (Value.ref T !=Value.none)=true from by simp)]
  refine wpAny_bind (wpAny_field hT hdT h3 ?_)
  by_cases hq:(fl==rawInt X.env.locals)=true
  ·rw [if_pos hq]
   obtain ⟨vs',e1,hz,_⟩:=dW (I.hok a _ ha)
   rw [he] at e1;cases e1
   cases hd
   refine wpAny_pure (h s ?_ ?_)
   ·have:=I.excAt (fr':=false) (t':=s.toks) (h':=s.heap) ha (fun b o _ q=>q) he hz (fun z=>nomatch z)
    exact this
   ·exact ⟨_,_,he,rfl,.inr ⟨T,oT,ts,fl,h1,lo.same (by rw [ag hTa];exact lo.free),hTa,hT,hdT,h3,by rw [beq_iff_eq.mp hq]⟩⟩
  ·rw [if_neg hq]
   refine wpAny_bind (wpAny_setField hT hdT (Array.getElem?_eq_some_iff.mp h3).1 ?_)
   have I1:=I.mark (T:=T) (t':=s.toks) (h':=s.heap.update T (Obj.mapFields (·.setIfInBounds 3 Value.none))) lo fun b o hb q=>(Heap.get?_update_other _ _ (Ne.symm hb)).trans q
   exact kv I1 hfr hs hf ha h
theorem dS {fo:Option Addr} {φ:Option Value->Prop} {Q:Unit->Shared->Prop} (I:Inv X pins σ H s) (t:b7 X pins H s.heap a φ)
  (h:∀s',Inv X pins σ H s'->b7 X pins H s'.heap a (fun fl=>∃x,φ x∧x.isSome=fl.isSome)->Q () s'):wpAny M A (setFlight (.ref a) fo) Q E s:=by
 obtain ⟨oe,vs,he,hd,t⟩:=t
 unfold setFlight
 rcases t with ⟨h1,hp⟩|⟨T,oT,ts,fl,h1,lo,hTa,hT,hdT,h3,hp⟩
 ·refine wpAny_bind (wpAny_field he hd h1 ?_)
  rw [if_neg (by decide)]
  exact wpAny_pure (h s I ⟨oe,vs,he,hd,.inl ⟨h1,none,hp,rfl⟩⟩)
 ·refine wpAny_bind (wpAny_field he hd h1 ?_)
  rw [if_pos (show (Value.ref T !=Value.none)=true from by simp)]
  have hsz:=(Array.getElem?_eq_some_iff.mp h3).1
  refine wpAny_setField hT hdT hsz (h _ ?_ ?_)
  ·exact I.mark (T:=T) (t':=s.toks) lo fun b o hb q=>(Heap.get?_update_other _ _ (Ne.symm hb)).trans q
  ·refine ⟨oe,vs,(Heap.get?_update_other _ _ hTa).trans he,hd,.inr ⟨T,_,_,fo.elim .none (fun f=>rawInt f),h1,lo,hTa,Heap.get?_update_self _ hT (Obj.isFreed_of_fields (Obj.data_mapFields hdT _)),Obj.data_mapFields hdT _,by simp [hsz],some fl,hp,rfl⟩⟩
end
end CT
namespace CT
open PySem PySem.Spec PySem.W L2
open PyProof.Rows hiding St
noncomputable def CXA (P:Program) (w:World):CXT:=fun outer H s E e s'=>∃a H' C dx,e=.ref a∧s'.os=s.os∧AllBare s'.gens∧Un (frs outer) [] H H' s.heap s'.heap∧HOk P w H' s'.heap∧H' a=some (aD false a C dx)∧
 (∃oe vs T oT ts fl,s'.heap.get? a=some oe∧oe.data=.fields vs∧vs[1]?=some (.ref T)∧s.heap.objs.size<=T∧H' T=none∧T≠a∧s'.heap.get? T=some oT∧oT.data=.fields ts∧ts[3]?=some fl)∧E e none H'
noncomputable abbrev _root_.L2.Cx.pnd (X:Cx) (pins:List (Addr×Obj)):Cx:={X with pn:=X.pn++pins}
noncomputable abbrev _root_.L2.Cx.xw (X:Cx) (pins:List (Addr×Obj)) (R:St->Addr->Hp->Prop):Cx:=
 {X with pn:=X.pn++pins,xe:=fun e s'=>∃σ a H C dx,e=.ref a∧Inv (X.pnd pins) [] σ H s'∧H a=some (aD false a C dx)∧b7 (X.pnd pins) [] H s'.heap a o7∧R σ a H}
section
variable {X:Cx} {pins pins':List (Addr×Obj)} {σ:St} {H:Hp} {s:Shared} {R:St->Addr->Hp->Prop} {a C:Addr} {dx:Option Addr}
theorem _root_.L2.Cx.Ok.re {X Y:Cx} (ok:X.Ok) (h:Y={X with pn:=Y.pn,xe:=Y.xe}):Y.Ok:=by
 rw [h]
 exact ⟨ok.mod,ok.kind,ok.glob,ok.blt,ok.above,ok.inj,ok.has,ok.cab,ok.hd,ok.frames,ok.stk,ok.exf,ok.bs,ok.bsz,ok.fI,ok.hV,ok.cV,ok.frf⟩
theorem _root_.L2.Inv.re {X:Cx} {pn:List (Addr×Obj)} {E:Value->Shared->Prop} (I:Inv X pins σ H s) (hp:∀p∈pn++pins',p∈X.pn++pins):Inv {X with pn:=pn,xe:=E} pins' σ H s:=
 ⟨Cx.Ok.re I.ok rfl,I.os,I.bare,I.base,I.loc,I.cell,I.free,I.bM,fun p h=>I.pin p (hp p h),I.hok,I.len⟩
theorem _root_.L2.Inv.xw (I:Inv X pins σ H s):Inv (X.xw pins R) [] σ H s:=Inv.re I fun p h=>by simpa using h
theorem _root_.L2.Inv.dZ (I:Inv X (pins++pins') σ H s):Inv (X.xw pins R) pins' σ H s:=Inv.re I fun p h=>by simpa [or_assoc] using h
theorem _root_.L2.Inv.hX (I:Inv (X.xw pins R) pins' σ H s):Inv X (pins++pins') σ H s:=Inv.re (X:=X.xw pins R) (pn:=X.pn) (E:=X.xe) I fun p h=>by
 rcases List.mem_append.mp h with h|h
 ·exact List.mem_append_left _ (List.mem_append_left _ h)
 ·rcases List.mem_append.mp h with h|h
  ·exact List.mem_append_left _ (List.mem_append_right _ h)
  ·exact List.mem_append_right _ h
theorem _root_.L2.Inv.xwp (I:Inv (X.xw pins R) pins' σ H s):Inv (X.pnd pins) [] σ H s:=Inv.re (X:=X.xw pins R) (E:=X.xe) I fun p h=>List.mem_append_left _ (by simpa using h)
theorem _root_.L2.Inv.pxw (I:Inv (X.pnd pins) [] σ H s):Inv X pins σ H s:=Inv.re (X:=X.pnd pins) (pn:=X.pn) (E:=X.xe) I fun p h=>by simpa using h
theorem Loose.re {X Y:Cx} {pins pins':List (Addr×Obj)} {H:Hp} {T:Addr} (l:Loose X pins H T) (h0:Y.s₀=X.s₀) (h1:Y.env=X.env) (h2:∀p∈Y.pn++pins',p∈X.pn++pins):Loose Y pins' H T:=
 ⟨by rw [h0];exact l.new,by rw [h1];exact l.loc,by rw [h1];exact l.cell,fun p hp=>l.pin p (h2 p hp),l.free⟩
theorem b7.re {X Y:Cx} {pins pins':List (Addr×Obj)} {H:Hp} {h:Heap} {φ:Option Value->Prop} (t:b7 X pins H h a φ) (h0:Y.s₀=X.s₀) (h1:Y.env=X.env) (h2:∀p∈Y.pn++pins',p∈X.pn++pins):b7 Y pins' H h a φ:=by
 obtain ⟨oe,vs,q1,q2,q⟩:=t
 refine ⟨oe,vs,q1,q2,q.imp_right ?_⟩
 rintro ⟨T,oT,ts,fl,z1,z2,z⟩
 exact ⟨T,oT,ts,fl,z1,z2.re h0 h1 h2,z⟩
theorem PE.xw {e:Expr} {t:TE} (h:PE X e t) (hx:∀e s,¬X.xe e s):PE (X.xw pins R) e t:=fun pins' s σ H Q I hw=>
 wpAny_mono (h (pins++pins') s σ H Q I.hX hw) (fun _ _ ⟨v,H',I',r,q⟩=>⟨v,H',I'.dZ,r,q⟩) fun e s z=>absurd z (hx e s)
theorem PT.xw {e:Expr} {t:TT} (h:PT X e t) (hx:∀e s,¬X.xe e s):PT (X.xw pins R) e t:=fun pins' s σ H Q I hw=>
 wpAny_mono (h (pins++pins') s σ H Q I.hX hw) (fun _ _ ⟨H',I',q⟩=>⟨H',I'.dZ,q⟩) fun e s z=>absurd z (hx e s)
theorem PA.xw {es:List Expr} {t:TA} (h:PA X es t) (hx:∀e s,¬X.xe e s):PA (X.xw pins R) es t:=fun pos pins' s σ H Q I hw=>
 wpAny_mono (h pos (pins++pins') s σ H Q I.hX hw) (fun _ _ ⟨v,H',I',r,q⟩=>⟨v,H',I'.dZ,r,q⟩) fun e s z=>absurd z (hx e s)
theorem _root_.L2.SP.dZ {D:Ends} {f:Flow} {s':Shared} (h:SP X (pins++pins') D f s'):SP (X.xw pins R) pins' D f s':=by
 cases f with
 |next=>obtain ⟨σ',H',I,q⟩:=h;exact ⟨σ',H',I.dZ,q⟩
 |brk=>obtain ⟨σ',H',I,q⟩:=h;exact ⟨σ',H',I.dZ,q⟩
 |cont=>obtain ⟨σ',H',I,q⟩:=h;exact ⟨σ',H',I.dZ,q⟩
 |ret u=>obtain ⟨v,σ',H',I,r,q⟩:=h;exact ⟨v,σ',H',I.dZ,r,q⟩
theorem PS.xw {st:Stmt} {t:TS} (h:PS X st t) (hx:∀e s,¬X.xe e s):PS (X.xw pins R) st t:=fun pins' s σ H D I hw=>
 wpAny_mono (h (pins++pins') s σ H D I.hX hw) (fun _ _ q=>q.dZ) fun e s z=>absurd z (hx e s)
theorem PSs.xw {st:List Stmt} {t:TS} (h:PSs X st t) (hx:∀e s,¬X.xe e s):PSs (X.xw pins R) st t:=fun pins' s σ H D I hw=>
 wpAny_mono (h (pins++pins') s σ H D I.hX hw) (fun _ _ q=>q.dZ) fun e s z=>absurd z (hx e s)
end
noncomputable def tX (K:Frag) (ρ:Rho) (d:D) (R:St->Addr->Hp->Prop) (σ:St) (H:Hp):Prop:=∃S,VE K H S ρ σ∧∀a H',aF H H'->H a=none->Rds K H' S d (.ref a)->R σ a H'
noncomputable def DEX (X:Cx) (ρ:Rho) (e:Expr) (d:D):Prop:=∀pins R,PE (X.xw pins R) e fun σ H _=>tX X.K ρ d R σ H
noncomputable def tSX (K:Frag) (ρ ρ':Rho) (d:D) (R:St->Addr->Hp->Prop) (σ:St) (H:Hp):Prop:=∃H₀ S₀ S,Fm K H₀ S₀ H S ρ σ∧∀σ' a H' S',Fm K H₀ S₀ H' S' ρ' σ'->H₀ a=none->Rds K H' S' d (.ref a)->R σ' a H'
noncomputable def DSX (X:Cx) (ρ:Rho) (st:Stmt) (ρ':Rho) (d:D):Prop:=∀pins R,PS (X.xw pins R) st fun _ σ H=>tSX X.K ρ ρ' d R σ H
noncomputable def b4 (X:Cx) (ρ:Rho) (sts:List Stmt) (ρ':Rho) (d:D):Prop:=∀pins R,PSs (X.xw pins R) sts fun _ σ H=>tSX X.K ρ ρ' d R σ H
section
variable {X:Cx} {ρ ρ' ρ1:Rho} {e c:Expr} {d:D} {st:Stmt} {sts:List Stmt} {pos pos':Pos} {i:Nat} {x:Str}
theorem qR (h:DSX X ρ st ρ' d):b4 X ρ (st::sts) ρ' d:=fun pins R=>PSs.weak (fX (h pins R) (kh (sts:=sts))) fun E σ H q=>q
theorem qd (h1:DS X ρ st (.nx ρ1)) (h2:b4 X ρ1 sts ρ' d) (hx:∀e s,¬X.xe e s:=by intro _ _ z;exact z):b4 X ρ (st::sts) ρ' d:=fun pins R=>
 PSs.weak (fX (PS.xw h1 hx) (h2 pins R)) fun E σ H ⟨H₀,S₀,S,f,k⟩=>⟨H₀,S₀,S,f,fun σ' H' S' f'=>⟨H₀,S₀,S',f',k⟩⟩
theorem oE {K:Frag} {R:St->Addr->Hp->Prop} {σ:St} {H:Hp} (q:tSX K ρ ρ d R σ H):tX K ρ d R σ H:=by
 obtain ⟨H₀,S₀,S,f,k⟩:=q
 exact ⟨S,f.ve,fun a H' ex hn r=>k σ a H' S (f.grow ex) (f.ext.back hn) r⟩
theorem tT (h:DEX X ρ e d) (hs:swapsWith e none pos.line X.env=pure false:=by rfl):DSX X ρ (.Expr e pos) ρ d:=fun pins R=>PS.weak (gO (h pins R) hs) fun E σ H q=>oE q
theorem wX (h:DEX X ρ e d):DSX X ρ (.Return (some e) pos) ρ d:=fun pins R=>PS.weak (iN (h pins R)) fun E σ H q=>oE q
theorem mI {sts:List Stmt} {pins:List (Addr×Obj)} {R:St->Addr->Hp->Prop}:PSs (X.xw pins R) sts (fun E σ H=>∃ρ ρ' d,b4 X ρ sts ρ' d∧tSX X.K ρ ρ' d R σ H):=fun pins' s σ H D I ⟨_,_,_,h,q⟩=>h pins R pins' s σ H D I q
theorem xT {a b:List Stmt} {q:Bool} (hc:DT X ρ c q) (ha:q=true->b4 X ρ a ρ' d) (hb:q=false->b4 X ρ b ρ' d) (hx:∀e s,¬X.xe e s:=by intro _ _ z;exact z):DSX X ρ (.If c a b pos) ρ' d:=fun pins R=>
 PS.weak (uE (PT.xw hc hx) (mI (sts:=a)) (mI (sts:=b))) fun E σ H ⟨H₀,S₀,S,f,k⟩=>⟨S,f.ve,fun H' ex=>by
  cases q with
  |true=>exact eK ⟨ρ,ρ',d,ha rfl,H₀,S₀,S,f.grow ex,k⟩
  |false=>exact fj ⟨ρ,ρ',d,hb rfl,H₀,S₀,S,f.grow ex,k⟩⟩
end
end CT
namespace CT
open PySem PySem.Spec PySem.W L2
open PyProof.Rows hiding St
noncomputable abbrev xk (R:St->Addr->Hp->Prop) (σ:St):XK:=fun e _ H'=>∃a,e=.ref a∧R σ a H'
section
variable {X:Cx} {pins pins':List (Addr×Obj)} {R:St->Addr->Hp->Prop} {k:Nat} {f C:Addr} {fd:FuncData} {ps:List Str} {sp:Sp} {x m:Str} {p pos apos:Pos} {e o:Expr} {es:List Expr} {ta:TE} {t:TA} {σ:St} {H:Hp} {s s':Shared} {Q:VK}
theorem g6 {e:Value} (I:Inv (X.xw pins R) pins' σ H s) (h:CXA X.prog X.w X.stack H s (xk R σ) e s'):(X.xw pins R).xe e s':=by
 obtain ⟨a,H',C,dx,rfl,os,bare,un,hok,ha,⟨oe,vs,T,oT,ts,fl,h1,h2,h3,h4,h5,h6,h7,h8,h9⟩,a',ea,hR⟩:=h
 cases ea
 have I':Inv (X.xw pins R) pins' σ H' s':=I.uA (ch:=[]) os un hok bare fun b z=>nomatch z
 have lo:=I.loose (T:=T) h4
 exact ⟨σ,a,H',C,dx,rfl,I'.xwp,ha,⟨oe,vs,h1,h2,.inr ⟨T,oT,ts,fl,h3,(lo.same h5).re rfl rfl fun p h=>List.mem_append_left _ (by simpa using h),h6,h7,h8,h9,trivial⟩⟩,hR⟩
theorem jB {us:List Value} {vs:List V} (F:aw X.prog X.w X.K X.mg X.base (CXA X.prog X.w) k f fd ps sp) (hr:ay k X.A) (hb:Binds X.K fd ps []) (I:Inv (X.xw pins R) pins' σ H s) (r:Vals vs us) (h:sp vs H Q (xk R σ)):
  wpAny (model X.prog X.w) X.A (call (.ref f) us) (EP (X.xw pins R) pins' σ Q) (X.xw pins R).xe s:=by
 have hl:(us++[]).length=ps.length:=by rw [List.append_nil,←r.length];exact F.len _ _ _ _ h
 refine wpAny_call (codeAny_mono (F.run X.A X.stack s H ⟨us,[]⟩ us vs Q (xk R σ) hr I.ll (by have:=hb s us I.kIn hl;rw [List.append_nil] at this;exact this) r h) fun r s' hq=>?_)
 cases r with
 |error e=>exact g6 I hq
 |ok fl=>
  cases fl with
  |ret u=>exact I.after hq
  |next=>exact False.elim hq
  |brk=>exact False.elim hq
  |cont=>exact False.elim hq
theorem sO (F:aw X.prog X.w X.K X.mg X.base (CXA X.prog X.w) k f fd ps sp) (hr:ay k X.A) (hg:Gl X x) (hm:X.mg x=some (.ref f)) (hk:PySem.W.keepIn X.K (.ref f)=true) (hb:Binds X.K fd ps [])
  (ha:PA (X.xw pins R) (e::es) t) (hdb:(x==("__debug__":Str))=false:=by decide) (he:starEach (e::es) X.env=(false,eval e X.env)::starEach es X.env:=by rfl) (hpl:(backTo pos (starEach es X.env)).any (·.1)=false:=by rfl):
  PE (X.xw pins R) (.Call (.Name x p) (e::es) [] pos) (fun σ H Q=>t σ H fun vs H1=>sp vs H1 Q (xk R σ)):=by
 intro pins' s σ H Q I h
 refine wpAny_Call_Name_kw (c4 I hg hm ?_ hdb)
 refine PySem.W.callWith_K (h₀:=X.base) I.ok.mod.kin hk (thn (ha pos pins' s σ H _ I h) fun us s1 ⟨vs,H1,I1,r,q⟩=>⟨I1.kIn,?_⟩) he hpl
 exact jB F hr hb I1 r q
theorem sE {pl:Sem Bool} (he:PE (X.xw pins R) o ta) (c:Cls X.K C) (hm:Meth X.K C m f) (F:aw X.prog X.w X.K X.mg X.base (CXA X.prog X.w) k f fd ps sp) (hr:ay k X.A) (hb:Binds X.K fd ps []) (ha:PA (X.xw pins R) (e::es) t)
  (hst:starEach (e::es) X.env=(false,eval e X.env)::starEach es X.env:=by rfl) (hpl:(backTo pos (starEach es X.env)).any (·.1)=false:=by rfl)
  (ht:eval (.Call (.Attribute o m apos) (e::es) [] pos) X.env=(do
   let ov←eval o X.env
   standAt apos.atName
   let (f,first)←holding [ov] (getMethod ov m pl)
   callWith pos f first (backTo pos (starEach (e::es) X.env)) (backToKw pos (keywordEach [] X.env))):=by rfl):
  PE (X.xw pins R) (.Call (.Attribute o m apos) (e::es) [] pos) (fun σ H Q=>ta σ H fun x H1=>∃a dx fs,x=.ref a∧H1 a=some (.ins C dx fs)∧fs.lookup m=none∧t σ H1 fun vs H2=>sp (x::vs) H2 Q (xk R σ)):=by
 intro pins' s σ H Q I h
 refine PySem.W.methodCall_KW (pl:=pl) (thn (he pins' s σ H _ I h) fun u s1 ⟨x,H1,I1,rx,a,dx,fs,ex,ea,l,q⟩=>?_) ht
 subst ex
 obtain rfl:u=Value.ref a:=rx
 refine eg I1 ea c hm l ?_
 refine PySem.W.callWith_K (first:=[.ref a]) (h₀:=X.base) I.ok.mod.kin hm.kp (thn (ha pos pins' s1 σ H1 _ I1 q) fun us s2 ⟨vs,H2,I2,r,q2⟩=>⟨I2.kIn,?_⟩) hst hpl
 exact jB (us:=.ref a::us) (vs:=.ref a::vs) F hr hb I2 (.cons rfl r) q2
theorem rW {us:List Value} {vs:List V} (M:Mk X.K C f) (F:aw X.prog X.w X.K X.mg X.base (CXA X.prog X.w) k f fd ps sp) (hr:ay (k+1) X.A) (hb:Binds X.K fd ps []) (I:Inv (X.xw pins R) pins' σ H s) (r:Vals vs us)
  (h:∀x dx,H x=none->H dx=none->dx≠x->sp (.ref x::vs) (upd (upd H dx (.own x)) x (.ins C dx [])) (fun v H2=>v=.non∧Q (.ref x) H2) (xk R σ)):
  wpAny (model X.prog X.w) X.A (call (.ref C) us) (EP (X.xw pins R) pins' σ Q) (X.xw pins R).xe s:=by
 have hq:=h (s.heap.objs.size+1) s.heap.objs.size (I.hok.fresh (Nat.le_succ _)) (I.hok.fresh (Nat.le_refl _)) (Nat.ne_of_lt (Nat.lt_succ_self _))
 have I2:=Inv.made (C:=C) I
 have r2:Vals (V.ref (s.heap.objs.size+1)::vs) (Value.ref (s.heap.objs.size+1)::us):=.cons rfl r
 have hl:((Value.ref (s.heap.objs.size+1)::us)++[]).length=ps.length:=by rw [List.append_nil,←r2.length];exact F.len _ _ _ _ hq
 refine wpAny_call (mQ (f:=f) I.kIn M.makes M.init (beq_iff_eq.mp M.fn) (codeAny_mono (F.run _ X.stack _ _ ⟨Value.ref (s.heap.objs.size+1)::us,[]⟩ (Value.ref (s.heap.objs.size+1)::us) _ _ (xk R σ) (hr.make C us [])
  (I2.ll.make C us []) (by have:=hb _ (Value.ref (s.heap.objs.size+1)::us) I2.kIn hl;rw [List.append_nil] at this;exact this) r2 hq) fun r s' hq'=>?_))
 cases r with
 |error e=>exact g6 I2 hq'
 |ok fl=>
  cases fl with
  |ret u=>
   obtain ⟨v,H',I3,rv,ev,q3⟩:=I2.after hq'
   subst ev
   exact ⟨rv,⟨V.ref (s.heap.objs.size+1),H',I3,rfl,q3⟩⟩
  |next=>exact False.elim hq'
  |brk=>exact False.elim hq'
  |cont=>exact False.elim hq'
theorem tZ (M:Mk X.K C f) (F:aw X.prog X.w X.K X.mg X.base (CXA X.prog X.w) k f fd ps sp) (hr:ay (k+1) X.A) (hg:Gl X x) (hm:X.mg x=some (.ref C)) (hb:Binds X.K fd ps [])
  (ha:PA (X.xw pins R) (e::es) t) (hdb:(x==("__debug__":Str))=false:=by decide) (he:starEach (e::es) X.env=(false,eval e X.env)::starEach es X.env:=by rfl) (hpl:(backTo pos (starEach es X.env)).any (·.1)=false:=by rfl):
  PE (X.xw pins R) (.Call (.Name x p) (e::es) [] pos) (fun σ H Q=>t σ H fun vs H1=>∀x dx,H1 x=none->H1 dx=none->dx≠x->sp (.ref x::vs) (upd (upd H1 dx (.own x)) x (.ins C dx [])) (fun v H2=>v=.non∧Q (.ref x) H2) (xk R σ)):=by
 intro pins' s σ H Q I h
 refine wpAny_Call_Name_kw (c4 I hg hm ?_ hdb)
 refine PySem.W.callWith_K (h₀:=X.base) I.ok.mod.kin M.kp (thn (ha pos pins' s σ H _ I h) fun us s1 ⟨vs,H1,I1,r,q⟩=>⟨I1.kIn,?_⟩) he hpl
 exact rW M F hr hb I1 r q
end
inductive Res where
 |ok (d:D)|xc (d:D)
noncomputable def spR (K:Frag) (P:List D->Res->Prop):Sp:=fun vs H Q E=>∃S ds r,Dom H S∧ae K H S ds vs∧P ds r∧(∀d,r=.ok d->∀v H',aF H H'->Rds K H' S d v->Q v H')∧∀d,r=.xc d->∀a H',aF H H'->H a=none->Rds K H' S d (.ref a)->E (.ref a) none H'
section
variable {P:Program} {w:World} {K:Frag} {mg:Str->Option Value} {base:Heap} {x qual:Str} {st:Stmt} {f:Addr} {fd:FuncData} {N ps:List Str} {k:Nat} {sp:Sp} {CX:CXT}
theorem aw.okD {Pr:List D->Res->Prop} (F:aw P w K mg base (CXA P w) k f fd ps (spR K Pr)):aw P w K mg base CX0 k f fd ps (spD K fun ds d=>Pr ds (.ok d)):=by
 have key:∀vs H Q E,spD K (fun ds d=>Pr ds (.ok d)) vs H Q E->spR K Pr vs H Q E0:=fun vs H Q E ⟨S,ds,d,dm,r,p,kk⟩=>⟨S,ds,.ok d,dm,r,p,fun d' e=>by cases e;exact kk,fun d' e=>nomatch e⟩
 exact ⟨fun vs H Q E h=>F.len _ _ _ _ (key vs H Q E h),fun A outer s H args us vs Q E hr he hb hv hs=>codeAny_mono (F.run A outer s H args us vs Q E0 hr he hb hv (key _ _ _ _ hs)) fun r s' z=>by
  cases r with
  |error e=>obtain ⟨_,_,_,_,_,_,_,_,_,_,_,h⟩:=z;exact h
  |ok fl=>cases fl<;>exact z⟩
theorem _root_.L2.Fun.okC (F:Fun K x qual st f fd) (S:bA N ps (ah st)) (len:∀vs H Q E,sp vs H Q E->vs.length=ps.length)
  (hbody:∀(cdv:Value) (A:Around) (outer:List Env) (s:Shared) (H:Hp) (vs:List V) (Q:VK) (E:XK),ay k (A.deeper (envOfC qual (ah st) s.heap.objs.size f cdv))->sp vs H Q E->
   ∃t,PSs (bJ CX P w K mg base N qual (ah st) f cdv A outer s H E) (aR st) t∧t {nx:=fun _ H'=>Q .non H',rt:=Q} (start N vs) H):aw P w K mg base CX (k+1) f fd ps sp:=by
 obtain ⟨oc,od,kV,doc,pm,an,cdv,ct,osl,rfl,lk,hcd⟩:=F.ex
 exact uR lk hcd S len fun A outer s H vs Q E hr hsp=>hbody cdv A outer s H vs Q E hr hsp
theorem r_ {N:List Str} {scope:Scope} {cd:Value} {A:Around} {outer:List Env} {s s':Shared} {H H':Hp} {E:XK} {pins:List (Addr×Obj)} {σ:St} {a C:Addr} {dx:Option Addr}
  (I:Inv (bJ (CXA P w) P w K mg base N qual scope f cd A outer s H E) pins σ H' s') (ha:H' a=some (aD false a C dx)) (t:b7 (bJ (CXA P w) P w K mg base N qual scope f cd A outer s H E) pins H' s'.heap a o7) (hE:E (.ref a) none H'):
  (bJ (CXA P w) P w K mg base N qual scope f cd A outer s H E).xe (.ref a) s':=by
 show wpAny _ _ (leaving _ _) _ _ _
 unfold leaving
 have eH:upd H' a (aD false a C dx)=H':=by
  funext b;unfold upd;split
  ·rename_i z;rw [z,ha]
  ·rfl
 refine wpAny_bind (jn I I.ok.frames rfl rfl ha t fun s1 I1 t1=>?_)
 rw [eH] at I1 t1
 refine dS I1 t1 fun s2 I2 t2=>?_
 obtain ⟨oe,vs,h1,h2,q⟩:=t2
 rcases q with ⟨_,x,hx,hn⟩|⟨T,oT,ts,fl,z1,z2,z3,z4,z5,z6,_⟩
 ·rw [hx] at hn;cases hn
 ·exact ⟨a,H',C,dx,rfl,I2.os,I2.bare,I2.base,I2.hok,ha,⟨oe,vs,T,oT,ts,fl,h1,h2,z1,z2.new,z2.free,z3,z4,z5,z6⟩,hE⟩
theorem n9 {cd:Value} {scope:Scope} {A:Around} {outer:List Env} {s:Shared} {H:Hp} {E:XK} {body:List Stmt} {ρ ρ':Rho} {d:D} (h:b4 (bJ (CXA P w) P w K mg base N qual scope f cd A outer s H E).nox ρ body ρ' d):
  PSs (bJ (CXA P w) P w K mg base N qual scope f cd A outer s H E) body fun _ σ H=>tSX K ρ ρ' d (fun _ a H'=>E (.ref a) none H') σ H:=by
 intro pins s1 σ H1 D I q
 refine wpAny_mono (h pins (fun _ a H'=>E (.ref a) none H') [] s1 σ H1 ⟨fun _ _=>False,fun _ _=>False,fun _ _=>False,fun _ _=>False⟩ ((I.eE _).xw) q) (fun fl s' z=>?_) fun e s' z=>?_
 ·cases fl with
  |next=>obtain ⟨_,_,_,z⟩:=z;exact z.elim
  |brk=>obtain ⟨_,_,_,z⟩:=z;exact z.elim
  |cont=>obtain ⟨_,_,_,z⟩:=z;exact z.elim
  |ret u=>obtain ⟨_,_,_,_,_,z⟩:=z;exact z.elim
 ·obtain ⟨σ',a,H',C,dx,rfl,I',ha,t,hR⟩:=z
  refine r_ (pins:=pins) (Inv.dA (E:=fun _ _=>False) I'.pxw) ha (t.re rfl rfl fun p hp=>?_) hR
  exact List.mem_append_left _ hp
theorem CL {Pr:List D->Res->Prop} (F:Fun K x qual st f fd) (S:bA N ps (ah st)) (len:∀ds r,Pr ds r->ds.length=ps.length)
  (hb:∀(cdv:Value) (A:Around) (outer:List Env) (s:Shared) (H:Hp) (E:XK) (ds:List D) (d:D),ay k (A.deeper (envOfC qual (ah st) s.heap.objs.size f cdv))->Pr ds (.ok d)->
   ∃o,B1 o d∧DSs (bJ (CXA P w) P w K mg base N qual (ah st) f cdv A outer s H E).nox (aJ N ds) (aR st) o)
  (hx:∀(cdv:Value) (A:Around) (outer:List Env) (s:Shared) (H:Hp) (E:XK) (ds:List D) (d:D),ay k (A.deeper (envOfC qual (ah st) s.heap.objs.size f cdv))->Pr ds (.xc d)->
   ∃ρ',b4 (bJ (CXA P w) P w K mg base N qual (ah st) f cdv A outer s H E).nox (aJ N ds) (aR st) ρ' d):aw P w K mg base (CXA P w) (k+1) f fd ps (spR K Pr):=by
 refine F.okC S (fun vs H Q E ⟨S,ds,d,dm,r,p,kk⟩=>by rw [←r.length];exact len ds d p) fun cdv A outer s H vs Q E hr ⟨S',ds,r,dm,rs,p,k1,k2⟩=>?_
 cases r with
 |ok d=>
  obtain ⟨o,ov,h⟩:=hb cdv A outer s H E ds d hr p
  refine ⟨_,PSs.nox h,H,S',S',iB dm rs,?_⟩
  cases o with
  |rt d'=>cases ov;exact k1 _ rfl
  |nx ρ'=>cases ov;exact fun σ' H' S'' f=>k1 _ rfl .non H' f.ext .non
  |rfx c=>cases ov;exact fun a vs H' ex hn ha r'=>k1 _ rfl _ H' ex ((r'.av fun b h=>.inl (.inl h)).rds ha (dm.not hn))
 |xc d=>
  obtain ⟨ρ',h⟩:=hx cdv A outer s H E ds d hr p
  exact ⟨_,n9 h,H,S',S',iB dm rs,fun σ' a H' S'' f hn r=>k2 d rfl a H' f.ext hn (f.out r)⟩
end
end CT
namespace CT
open PySem PySem.Spec PySem.W L2
open PyProof.Rows hiding St
section
variable {X:Cx} {ρ:Rho} {k:Nat} {f C:Addr} {fd:FuncData} {ps:List Str} {x m:Str} {p pos apos:Pos} {e o:Expr} {es:List Expr} {ds:List D} {d:D}
theorem s_ {Pr:List D->Res->Prop} (F:aw X.prog X.w X.K X.mg X.base (CXA X.prog X.w) k f fd ps (spR X.K Pr)) (hr:ay k X.A) (hg:Gl X x) (hm:X.mg x=some (.ref f)) (hk:PySem.W.keepIn X.K (.ref f)=true) (hb:Binds X.K fd ps [])
  (ha:DA X ρ (e::es) ds) (hp:Pr ds (.xc d)) (hx:∀e s,¬X.xe e s:=by intro _ _ z;exact z) (hdb:(x==("__debug__":Str))=false:=by decide) (he:starEach (e::es) X.env=(false,eval e X.env)::starEach es X.env:=by rfl) (hpl:(backTo pos (starEach es X.env)).any (·.1)=false:=by rfl):
  DEX X ρ (.Call (.Name x p) (e::es) [] pos) d:=fun pins R=>PE.weak (sO F hr hg hm hk hb (PA.xw ha hx) hdb he hpl) fun σ H Q ⟨S,ve,kk⟩=>⟨S,ve,fun vs H' ex r=>
   ⟨S,ds,.xc d,(ve.ext ex).dom,r,hp,(fun d' e=>nomatch e),fun d' e a H'' ex' hn r'=>⟨a,rfl,by cases e;exact kk a H'' (ex.trans ex') (ex.back hn) r'⟩⟩⟩
theorem uj {Pr:List D->Res->Prop} {fs:List (Str×D)} {pl:Sem Bool} (ho:DE X ρ o (.ins C fs)) (hl:fs.lookup m=none) (c:Cls X.K C) (hm:Meth X.K C m f) (F:aw X.prog X.w X.K X.mg X.base (CXA X.prog X.w) k f fd ps (spR X.K Pr)) (hr:ay k X.A) (hb:Binds X.K fd ps [])
  (ha:DA X ρ (e::es) ds) (hp:Pr (.ins C fs::ds) (.xc d)) (hx:∀e s,¬X.xe e s:=by intro _ _ z;exact z) (hst:starEach (e::es) X.env=(false,eval e X.env)::starEach es X.env:=by rfl) (hpl:(backTo pos (starEach es X.env)).any (·.1)=false:=by rfl)
  (ht:eval (.Call (.Attribute o m apos) (e::es) [] pos) X.env=(do
   let ov←eval o X.env
   standAt apos.atName
   let (f,first)←holding [ov] (getMethod ov m pl)
   callWith pos f first (backTo pos (starEach (e::es) X.env)) (backToKw pos (keywordEach [] X.env))):=by rfl):
  DEX X ρ (.Call (.Attribute o m apos) (e::es) [] pos) d:=fun pins R=>PE.weak (sE (PE.xw ho hx) c hm F hr hb (PA.xw ha hx) hst hpl ht) fun σ H Q ⟨S,ve,kk⟩=>⟨S,ve,fun v H1 ex1 r1=>by
   obtain ⟨a,dx,gs,rfl,hh,rf⟩:=r1.gJ
   exact ⟨a,dx,gs,rfl,hh,rf.none hl,S,ve.ext ex1,fun vs H' ex r=>⟨S,_,.xc d,((ve.ext ex1).ext ex).dom,.cons (r1.ext (ex.to S)) r,hp,(fun d' e=>nomatch e),fun d' e a H'' ex' hn r'=>⟨a,rfl,by
    cases e;exact kk a H'' (ex1.trans (ex.trans ex')) (ex1.back (ex.back hn)) r'⟩⟩⟩⟩
end
inductive mJ where
 |ok (fs:List (Str×D))|xc (d:D)
noncomputable def jH (K:Frag) (C:Addr) (P:List D->mJ->Prop):Sp:=fun vs H Q E=>∃S x dx us ds r,vs=.ref x::us∧H x=some (.ins C dx [])∧Dom H S∧S x∧ae K H S ds us∧P ds r∧
 (∀fs,r=.ok fs->∀H' gs,(∀a o,a≠x->H a=some o->H' a=some o)->H' x=some (.ins C dx gs)->aG K H' S fs gs->Q .non H')∧
 ∀d,r=.xc d->∀a H',(∀b o,b≠x->H b=some o->H' b=some o)->(a≠x->H a=none)->Rds K H' (fun b=>S b∧b≠x) d (.ref a)->E (.ref a) none H'
section
variable {P:Program} {w:World} {K:Frag} {mg:Str->Option Value} {base:Heap} {x qual:Str} {st:Stmt} {f C:Addr} {fd:FuncData} {N ps:List Str} {k:Nat}
theorem aw.okI {Pr:List D->mJ->Prop} (F:aw P w K mg base (CXA P w) k f fd ps (jH K C Pr)):aw P w K mg base CX0 k f fd ps (spI K C fun ds fs=>Pr ds (.ok fs)):=by
 have key:∀vs H Q E,spI K C (fun ds fs=>Pr ds (.ok fs)) vs H Q E->jH K C Pr vs H Q E0:=fun vs H Q E ⟨S,x,dx,us,ds,fs,e,hx,dm,sx,r,p,kk⟩=>⟨S,x,dx,us,ds,.ok fs,e,hx,dm,sx,r,p,fun d' e=>by cases e;exact kk,fun d' e=>nomatch e⟩
 exact ⟨fun vs H Q E h=>F.len _ _ _ _ (key vs H Q E h),fun A outer s H args us vs Q E hr he hb hv hs=>codeAny_mono (F.run A outer s H args us vs Q E0 hr he hb hv (key _ _ _ _ hs)) fun r s' z=>by
  cases r with
  |error e=>obtain ⟨_,_,_,_,_,_,_,_,_,_,_,h⟩:=z;exact h
  |ok fl=>cases fl<;>exact z⟩
theorem qQ {H:Hp} {S':Ad} {z dx:Addr} {us:List V} {ds:List D} (hz:H z=some (.ins C dx [])) (dm:Dom H S') (sz:S' z) (r:ae K H S' ds us):
  Fm K (fun a=>if a=z then none else H a) (fun a=>S' a∧a≠z) H S' (.new C z dx []::(aJ N (.non::ds)).tail) (start N (.ref z::us)):=by
 have ve:=mN (N:=N) dm (.cons (.non:Rds K H S' .non .non) r)
 have e1:aJ N (.non::ds)=.val .non::(aJ N (.non::ds)).tail:=rfl
 have e2:start N (.non::us)=some .non::(start N (.non::us)).tail:=rfl
 have e3:start N (.ref z::us)=some (.ref z)::(start N (.non::us)).tail:=rfl
 have nown:∀(i:Nat) (x:Sl),(aJ N (.non::ds))[i]?=some x->¬x.dD:=fun i x h o=>by
  have hm:=List.mem_of_getElem? h
  unfold aJ at hm
  rcases List.mem_append.mp hm with hm|hm
  ·obtain ⟨y,_,e⟩:=List.mem_map.mp hm;rw [←e] at o;exact o
  ·rw [(List.mem_replicate.mp hm).2] at o;exact o
 have nt:∀(i:Nat) (x:Sl),(aJ N (.non::ds)).tail[i]?=some x->¬x.dD:=fun i x h=>nown (i+1) x (by rw [e1];exact h)
 refine ⟨⟨?_,fun i x h=>?_,fun i j x y a hij h1 h2 o1 o2 _=>?_,dm⟩,fun a o _ h=>?_,fun a h=>h.1,fun a h=>?_,fun a h=>?_,fun i x a h o h2=>?_⟩
 ·have:=ve.len
  rw [e3,List.length_cons,List.length_cons]
  rw [e1,e2,List.length_cons,List.length_cons] at this
  exact this
 ·rw [e3]
  cases i with
  |zero=>cases h;exact ⟨_,rfl,[],rfl,sz,hz,.nil⟩
  |succ i=>
   obtain ⟨v,q1,q2⟩:=ve.rel (i+1) x (by rw [e1];exact h)
   rw [e2] at q1
   exact ⟨v,q1,q2⟩
 ·cases i with
  |zero=>cases j with
   |zero=>exact absurd rfl hij
   |succ j=>exact absurd o2 (nt j y h2)
  |succ i=>exact absurd o1 (nt i x h1)
 ·by_cases ha:a=z
  ·rw [if_pos ha] at h;cases h
  ·rw [if_neg ha] at h;exact h
 ·by_cases ha:a=z
  ·exact .inr (if_pos ha)
  ·exact .inl ⟨h,ha⟩
 ·show (if a=z then none else H a)≠none
  rw [if_neg h.2];exact dm a h.1
 ·cases i with
  |zero=>
   rw [e3] at h2
   cases h2
   exact if_pos rfl
  |succ i=>exact absurd o (nt i x h)
theorem AO {Pr:List D->mJ->Prop} (F:Fun K x qual st f fd) (S:bA N ps (ah st)) (len:∀ds r,Pr ds r->ds.length+1=ps.length)
  (hb:∀(cdv:Value) (A:Around) (outer:List Env) (s:Shared) (H:Hp) (E:XK) (ds:List D) (fs:List (Str×D)) (z dx:Addr),ay k (A.deeper (envOfC qual (ah st) s.heap.objs.size f cdv))->Pr ds (.ok fs)->
   ∃ρ',ρ'[0]?=some (.new C z dx fs)∧DSs (bJ (CXA P w) P w K mg base N qual (ah st) f cdv A outer s H E).nox (.new C z dx []::(aJ N (.non::ds)).tail) (aR st) (.nx ρ'))
  (hx:∀(cdv:Value) (A:Around) (outer:List Env) (s:Shared) (H:Hp) (E:XK) (ds:List D) (d:D) (z dx:Addr),ay k (A.deeper (envOfC qual (ah st) s.heap.objs.size f cdv))->Pr ds (.xc d)->
   ∃ρ',b4 (bJ (CXA P w) P w K mg base N qual (ah st) f cdv A outer s H E).nox (.new C z dx []::(aJ N (.non::ds)).tail) (aR st) ρ' d):aw P w K mg base (CXA P w) (k+1) f fd ps (jH K C Pr):=by
 refine F.okC S ?_ ?_
 ·rintro vs H Q E ⟨S,z,dx,us,ds,fs,rfl,hz,dm,sz,r,p,kk⟩
  rw [List.length_cons,←r.length];exact len ds fs p
 ·rintro cdv A outer s H vs Q E hr ⟨S',z,dx,us,ds,res,rfl,hz,dm,sz,r,p,k1,k2⟩
  have fm:=qQ (C:=C) (N:=N) hz dm sz r
  cases res with
  |ok fs=>
   obtain ⟨ρ',h0,h⟩:=hb cdv A outer s H E ds fs z dx hr p
   refine ⟨_,PSs.nox h,_,_,S',fm,fun σ' H' S'' f=>?_⟩
   obtain ⟨v,_,gs,_,sz',hz',rf⟩:=f.ve.rel 0 _ h0
   refine k1 fs rfl H' gs (fun a o ha h=>f.ext a o (fun z=>z) (by rw [if_neg ha];exact h)) hz' (rf.av fun a h=>?_)
   by_cases ha:a=z
   ·subst ha;exact .inl sz'
   ·exact .inl (f.sub a ⟨h,ha⟩)
  |xc d=>
   obtain ⟨ρ',h⟩:=hx cdv A outer s H E ds d z dx hr p
   refine ⟨_,n9 h,_,_,S',fm,fun σ' a H' S'' f hn r=>k2 d rfl a H' (fun b o hb h=>f.ext b o (fun z=>z) (by rw [if_neg hb];exact h)) (fun hne=>by rw [if_neg hne] at hn;exact hn) (f.out r)⟩
end
section
variable {X:Cx} {ρ:Rho} {k:Nat} {f C:Addr} {fd:FuncData} {ps:List Str} {x m:Str} {p pos apos:Pos} {e o:Expr} {es:List Expr} {ds:List D} {d:D}
theorem ug {Pr:List D->mJ->Prop} (M:Mk X.K C f) (F:aw X.prog X.w X.K X.mg X.base (CXA X.prog X.w) k f fd ps (jH X.K C Pr)) (hr:ay (k+1) X.A) (hg:Gl X x) (hm:X.mg x=some (.ref C)) (hb:Binds X.K fd ps [])
  (ha:DA X ρ (e::es) ds) (hp:Pr ds (.xc d)) (hx:∀e s,¬X.xe e s:=by intro _ _ z;exact z) (hdb:(x==("__debug__":Str))=false:=by decide) (he:starEach (e::es) X.env=(false,eval e X.env)::starEach es X.env:=by rfl) (hpl:(backTo pos (starEach es X.env)).any (·.1)=false:=by rfl):
  DEX X ρ (.Call (.Name x p) (e::es) [] pos) d:=fun pins R=>PE.weak (tZ M F hr hg hm hb (PA.xw ha hx) hdb he hpl) fun σ H Q ⟨S,ve,kk⟩=>⟨S,ve,fun vs H1 ex r z dx hz hdx hne=>by
   have e1:aF H1 (upd H1 dx (.own z)):=Ext.new hdx
   have hz1:upd H1 dx (.own z) z=none:=by rw [ag (Ne.symm hne)];exact hz
   have e2:aF H1 (upd (upd H1 dx (.own z)) z (.ins C dx [])):=e1.trans (Ext.new hz1)
   have dm:=(ve.ext ex).dom
   refine ⟨S.and z,z,dx,vs,ds,.xc d,rfl,ao,fun a h=>?_,.inr rfl,(r.av (S':=S.and z) fun b h=>h.imp_right fun q=>by rw [q];exact hz).ext (e2.to _),hp,(fun _ e=>nomatch e),fun d' e a H' hk hn rd=>⟨a,rfl,?_⟩⟩
   ·rcases h with h|h
    ·exact dm.ext e2 a h
    ·rw [h,ao];intro q;cases q
   ·cases e
    have ez:a=z∨H1 a=none:=by
     by_cases haz:a=z
     ·exact .inl haz
     ·refine .inr ?_
      have:=hn haz
      rw [ag haz] at this
      exact e1.back this
    have hH:H1 a=none:=by
     rcases ez with h|h
     ·rw [h];exact hz
     ·exact h
    refine kk a H' (ex.trans fun b o n h=>hk b o (aj h hz) (e2 b o n h)) (ex.back hH) (rd.av fun b h=>.inl ⟨.inl h,fun q=>?_⟩)
    subst q
    exact dm b h hz⟩
end
end CT
namespace CT
open PySem PySem.Spec PySem.W L2
open PyProof.Rows hiding St
section
variable {K:Frag} {C CE:Addr} {h:Heap} {M:Model}
theorem kI (X:K.In h) {cd:ClassData} (hc:clsIn K C=some cd):Looks M h (isType (.ref C)) true:=by
 unfold clsIn at hc
 split at hc
 ·rename_i ho
  intro A' Q' E' s' k q
  unfold isType loadHead
  exact wpAny_bind (wpAny_loadPart (k _ _ (X _ _ ho)) (wpAny_pure q))
 ·cases hc
theorem kH {a:Addr} {c:Value} {dd:Option Addr} {vs:Array Value} {sl:Array (Option Value)} (ho:h.get? a=some ⟨c,dd,.fields vs,sl⟩):Looks M h (isType (.ref a)) false:=by
 intro A' Q' E' s' k q
 unfold isType loadHead
 exact wpAny_bind (wpAny_loadPart (k _ _ ho) (wpAny_pure q))
end
section
variable {X:Cx} {pins pins':List (Addr×Obj)} {R:St->Addr->Hp->Prop} {e:Expr} {t:TE} {pos:Pos}
theorem mw (he:PE (X.xw pins R) e t) (hh:X.A.handled=none):PS (X.xw pins R) (.Raise (some e) none pos) (fun D σ H=>t σ H fun x H1=>∃a C dx,x=.ref a∧H1 a=some (aD true a C dx)∧br X.K C∧typeIn X.K (.ref C)=some (.type "type")∧R σ a (upd H1 a (aD false a C dx))):=by
 intro pins' s σ H D I h
 rw [arm_exec_Raise]
 refine wpAny_bind (wpAny_standAt ?_)
 show wpAny _ _ (raiseStmt _ (some (do let v←eval e X.env;standAt pos;pure v)) none) _ _ _
 unfold raiseStmt
 refine wpAny_bind (wpAny_bind (thn (he pins' s σ H _ I h) fun xv s1 ⟨x,H1,I1,rx,a,C,dx,ex,ha,c,ty,hR⟩=>wpAny_bind (wpAny_standAt (wpAny_pure ?_))))
 subst ex
 obtain rfl:xv=Value.ref a:=rx
 obtain ⟨vs,ho,hz,hf⟩:=dW (I1.hok a _ ha)
 have h1:vs[1]?=some .none:=hf rfl
 have T0:Looks (model X.prog X.w) s1.heap (isType (.ref a)) false:=kH ho
 have T1:Looks (model X.prog X.w) s1.heap (typeOf (.ref a)) (.ref C):=(Looks.ld ho).andThen .now
 have T2:Looks (model X.prog X.w) s1.heap (isSubtype (.ref C) (.type "BaseException")) true:=looks_mroIn I1.kIn (c.mro (by decide))
 have T3:Looks (model X.prog X.w) s1.heap (typeOf (.ref C)) (.type "type"):=looks_typeIn I1.kIn ty
 refine wpAny_bind (wpAny_pure (wpAny_bind (wpAny_holding ?_)))
 unfold excFromValue isExcClass
 refine wpAny_bind (wpAny_bind (T0.here (wpAny_pure ?_)))
 rw [if_neg (by decide)]
 unfold isInstance
 refine wpAny_bind (wpAny_bind (T1.here (T2.here ?_)))
 rw [if_pos rfl]
 refine wpAny_pure (wpAny_bind (T0.here ?_))
 rw [if_neg (by decide)]
 unfold raisedInstance
 refine wpAny_bind (wpAny_bind (T1.here (wpAny_bind (T3.here ?_))))
 rw [if_pos (show (Value.type "type"==Value.type "type")=true from by simp)]
 refine wpAny_pure ?_
 have tr:b7 (X.xw pins R) pins' H1 s1.heap a (fun _=>True):=⟨_,vs,ho,rfl,.inl ⟨h1,trivial⟩⟩
 refine wpAny_bind (dS I1 tr fun s2 I2 t2=>?_)
 refine wpAny_raiseNew_none hh ?_
 obtain ⟨vs2,ho2,hz2,hf2⟩:=dW (I2.hok a _ ha)
 have I3:=I2.excAt (fr':=false) (t':=s2.toks) (h':=s2.heap) ha (fun b o _ q=>q) ho2 hz2 (fun z=>nomatch z)
 refine ⟨σ,a,_,C,dx,rfl,I3.xwp,ao,⟨_,vs2,ho2,rfl,.inl ⟨hf2 rfl,trivial⟩⟩,hR⟩
end
section
variable {X:Cx} {ρ:Rho} {k:Nat} {f C:Addr} {fd:FuncData} {ps:List Str} {x:Str} {p pos cpos:Pos} {e:Expr} {es:List Expr} {ds:List D}
theorem pH (hm:PySem.W.excIn X.K C bmV "ValueError.__new__"=true) (hk:PySem.W.keepIn X.K (.ref C)=true) (hg:Gl X x) (hx:X.mg x=some (.ref C)) (hc:br X.K C) (ty:typeIn X.K (.ref C)=some (.type "type")) (hh:X.A.handled=none)
  (hdb:(x==("__debug__":Str))=false:=by decide):DSX X ρ (.Raise (some (.Call (.Name x p) [] [] cpos)) none pos) ρ (.exc C []):=fun pins R=>
 PS.weak (mw (uM (X:=X.xw pins R) hm hk hg hx hdb) hh) fun E σ H ⟨H₀,S₀,S,f,kk⟩ a ha=>⟨a,C,none,rfl,ao,hc,ty,by
  rw [vH]
  exact kk σ a _ S (f.grow (Ext.new ha)) (f.ext.back ha) (.gf ao (f.ve.dom.not ha))⟩
theorem qs {fls:List Str} (M:XMk X.K C f) (F:aw X.prog X.w X.K X.mg X.base CX0 k f fd ps (spX C fls)) (hr:ay (k+1) X.A) (hg:Gl X x) (hm:X.mg x=some (.ref C)) (hb:Binds X.K fd ps []) (ha:DA X ρ (e::es) ds) (hl:ds.length=fls.length) (hl2:ds.length<=1000)
  (hc:br X.K C) (ty:typeIn X.K (.ref C)=some (.type "type")) (hx:∀e s,¬X.xe e s:=by intro _ _ z;exact z)
  (hdb:(x==("__debug__":Str))=false:=by decide) (he:starEach (e::es) X.env=(false,eval e X.env)::starEach es X.env:=by rfl) (hpl:(backTo cpos (starEach es X.env)).any (·.1)=false:=by rfl):
  DSX X ρ (.Raise (some (.Call (.Name x p) (e::es) [] cpos)) none pos) ρ (.exc C (fls.zip ds)):=fun pins R=>
 PS.weak (mw (rH (X:=X.xw pins R) M F hr hg hm hb d9 (PA.xw ha hx) hdb he hpl) hr.hd) fun E σ H ⟨H₀,S₀,S,f,kk⟩=>⟨S,f.ve,fun vs H1 ex r=>⟨by rw [←r.length];exact hl2,fun z hz=>⟨z,vs,rfl,by rw [←r.length];exact hl,ao,fun dx H' hd hne h1 h2 h3=>⟨rfl,z,C,some dx,rfl,h1,hc,ty,by
  have hd1:H1 dx=none:=by rw [ag hne] at hd;exact hd
  have dm:=(f.ve.ext ex).dom
  have e1:aF H1 (upd H' z (aD false z C (some dx))):=fun c u _ hc=>by rw [ag (aj hc hz),h3 c (aj hc hz) (aj hc hd1),ag (aj hc hz)];exact hc
  exact kk σ z _ S (f.grow (ex.trans e1)) (f.ext.back (ex.back hz)) (.exc ao (by rw [ag hne];exact h2) (dm.not hz) (dm.not hd1) (aG.zip (r.ext (e1.to S))))⟩⟩⟩⟩
end
noncomputable abbrev _root_.L2.Cx.inH (X:Cx) (a:Addr):Cx:={X with A:=X.A.mark (some (.ref a)),calm:=false}
theorem _root_.L2.Inv.inH {X:Cx} {pins:List (Addr×Obj)} {σ:St} {H:Hp} {s:Shared} {a:Addr} (I:Inv X pins σ H s):Inv (X.inH a) pins σ H s:=
 ⟨⟨I.ok.mod,I.ok.kind,I.ok.glob,I.ok.blt,I.ok.above,I.ok.inj,I.ok.has,I.ok.cab,(fun z=>nomatch z),I.ok.frames,I.ok.stk,I.ok.exf,I.ok.bs,I.ok.bsz,I.ok.fI,I.ok.hV,I.ok.cV,I.ok.frf⟩,I.os,I.bare,I.base,I.loc,I.cell,I.free,I.bM,I.pin,I.hok,I.len⟩
theorem _root_.L2.Inv.unH {X:Cx} {pins:List (Addr×Obj)} {σ:St} {H:Hp} {s:Shared} {a:Addr} (ok:X.Ok) (I:Inv (X.inH a) pins σ H s):Inv X pins σ H s:=⟨ok,I.os,I.bare,I.base,I.loc,I.cell,I.free,I.bM,I.pin,I.hok,I.len⟩
section
variable {X:Cx} {pins:List (Addr×Obj)} {σ:St} {H:Hp} {s:Shared} {a C CE:Addr} {dx:Option Addr} {A:Around} {E:Value->Shared->Prop}
structure l8 (K:Frag) (CE:Addr):Prop where
 cl:∃cd,clsIn K CE=some cd
 ty:typeIn K (.ref CE)=some (.type "type")
 be:mroIn K CE (.type "BaseException")=some true
theorem o8 {b fr:Bool} {Q:Bool->Shared->Prop} (I:Inv X pins σ H s) (ha:H a=some (aD fr a C dx)) (c:l8 X.K CE) (hm:mroIn X.K C (.ref CE)=some b) (h:Q b s):wpAny (model X.prog X.w) A (excMatches (.ref a) (.ref CE)) Q E s:=by
 obtain ⟨vs,ho,hz,hf⟩:=dW (I.hok a _ ha)
 obtain ⟨cd,hcd⟩:=c.cl
 have T1:Looks (model X.prog X.w) s.heap (typeOf (.ref a)) (.ref C):=(Looks.ld ho).andThen .now
 have T2:Looks (model X.prog X.w) s.heap (isSubtype (.ref CE) (.type "BaseException")) true:=looks_mroIn I.kIn c.be
 have T3:Looks (model X.prog X.w) s.heap (typeOf (.ref CE)) (.type "type"):=looks_typeIn I.kIn c.ty
 have T4:Looks (model X.prog X.w) s.heap (isType (.ref CE)) true:=kI I.kIn hcd
 have T5:Looks (model X.prog X.w) s.heap (isSubtype (.ref C) (.ref CE)) b:=looks_mroIn I.kIn hm
 have T6:Looks (model X.prog X.w) s.heap (isSubtype (.type "type") (.type "tuple")) false:=by rw [tc_notTuple];exact .now
 obtain ⟨hp,g,d,tk,os⟩:=s
 unfold excMatches isInstance isExcClass
 cases b with
 |true=>repeat (first|exact h|lk)
 |false=>repeat (first|exact h|lk)
theorem _root_.L2.Inv.unset {i:Nat} {n:Str} {h':Heap} {t':Nat} (I:Inv X pins σ H s) (hN:X.N.Nodup) (hi:X.N[i]?=some n) (hs:Heap.SameBut X.env.locals s.heap h') (hn:∀m,s.heap.Ns X.env.locals m->∃v,h'.Ns X.env.locals (fun x=>if x=n then v else m x)):
  Inv X pins (σ.set i none) H {s with heap:=h',toks:=t'}:=by
 obtain ⟨m,hm,hl⟩:=id I.loc
 obtain ⟨v,hn'⟩:=hn m hm
 obtain ⟨oL,_,_,hoL,_⟩:=id hm
 have hiσ:i<σ.length:=by rw [I.len];exact (List.getElem?_eq_some_iff.mp hi).1
 have cne:=I.cne
 refine ⟨I.ok,I.os,I.bare,⟨fun b o e n hb hx=>?_,fun b o e n hb hx=>?_,I.base.free,fun b o e hx=>?_,I.base.fi,I.base.eM,I.base.e_⟩,⟨_,hn',fun j y v' e1 e2 e3=>?_⟩,fun y c e=>?_,I.free,I.bM,fun p hp=>?_,fun b ob e=>?_,by simpa using I.len⟩
 ·exact (hs.2 b (Nat.ne_of_lt (Nat.lt_of_lt_of_le (Heap.lt_size e) I.ok.above))).trans (I.base.keep b o e n hb hx)
 ·obtain ⟨sl,e1⟩:=I.base.slot b o e n hb hx
  exact ⟨sl,(hs.2 b (Nat.ne_of_lt (Nat.lt_of_lt_of_le (Heap.lt_size e) I.ok.above))).trans e1⟩
 ·obtain ⟨o',e1⟩:=I.base.there b o e hx
  exact ⟨o',(hs.2 b (Nat.ne_of_lt (Nat.lt_of_lt_of_le (Heap.lt_size e) I.ok.above))).trans e1⟩
 ·by_cases hj:j=i
  ·subst hj
   rw [List.getElem?_set_self hiσ] at e2
   cases e2
  ·rw [List.getElem?_set_ne (Ne.symm hj)] at e2
   obtain ⟨u',r',q⟩:=hl j y v' e1 e2 e3
   refine ⟨u',r',?_⟩
   rcases q with ⟨k,e⟩|⟨k,c,e,z⟩
   ·refine .inl ⟨k,?_⟩
    have:y≠n:=fun e=>hj (il hN e1 (e▸hi))
    simp [this,e]
   ·exact .inr ⟨k,c,e,z.sameBut hs (cne y c e)⟩
 ·obtain ⟨w',z⟩:=I.cell y c e
  exact ⟨w',z.sameBut hs (cne y c e)⟩
 ·obtain ⟨e,n,ne,nf,d⟩:=I.pin p hp
  exact ⟨(hs.2 p.1 ne).trans e,n,ne,nf,d⟩
 ·refine (I.hok b ob e).eO (fun c w' hc q=>(hs.2 c ?_).trans q) (fun _ q=>q) fun _ _ q=>q
  rintro rfl
  rcases hc with rfl|hc
  ·rw [I.free] at e;cases e
  ·rw [I.free] at hc;cases hc
theorem name_goes {M:Model} {i:Nat} {n:Str} {pos:Pos} {Q:Unit->Shared->Prop} (I:Inv X pins σ H s) (hN:X.N.Nodup) (hi:X.N[i]?=some n) (hl:X.env.scope.names.lookup n=some .local) (h:∀s',Inv X pins (σ.set i none) H s'->Q () s'):
  wpAny M A (do bindName X.env n .none;unbindBehindTheSuite X.env n pos) Q E s:=by
 have hcls:(X.env.scope.kind==.class||(X.env.scope.kind==.module&&X.env.locals !=X.env.globals))=false:=by rw [I.ok.kind];rfl
 have hk:X.env.kindOf n=some .local:=hl
 refine wpAny_bind (wpAny_bindName (dE I hN hi (.inl hl) (v:=.non) rfl (fun s1 I1=>?_) (.inr hl)))
 unfold unbindBehindTheSuite
 refine wpAny_onRaise ?_
 unfold unbindName
 refine wpAny_bind (wpAny_point (wpAny_bind ?_))
 unfold deleteName
 simp only [hk,hcls]
 rw [if_neg (by decide)]
 obtain ⟨m,hm,hlk⟩:=id I1.loc
 have hiσ:i<σ.length:=by rw [I.len];exact (List.getElem?_eq_some_iff.mp hi).1
 obtain ⟨u,ru,q⟩:=hlk i n .non hi (List.getElem?_set_self hiσ) (.inl hl)
 have hmn:(m n).isSome=true:=by
  rcases q with ⟨_,e⟩|⟨z,_⟩
  ·rw [e];rfl
  ·rw [hk] at z;rcases z with z|z<;>cases z
 refine wpAny_bind (wpAny_nsDel_keeps hm fun h₂ v hn₂ hs₂=>?_)
 rw [hmn]
 simp only [Bool.not_true,Bool.false_eq_true,if_false]
 refine wpAny_pure (wpAny_point (h _ ?_))
 have:=Inv.unset (t':=s1.toks) I1 hN hi hs₂ fun m' hm'=>⟨v,by rw [Heap.Ns.eq_nsMap hm',←Heap.Ns.eq_nsMap hm];exact hn₂⟩
 rw [List.set_set] at this
 exact this
end
noncomputable def Out.unset (i:Nat):Out->Out
 |.nx ρ=>.nx (ρ.set i .nil)
 |o=>o
section
variable {X:Cx} {ρ ρ1 ρ2:Rho} {body suite:List Stmt} {b₀:Stmt} {C CE:Addr} {fs:List (Str×D)} {c n:Str} {i:Nat} {cp hp pos:Pos} {o:Out} {hs:List ExceptHandler} {hd:ExceptHandler}
theorem iq (h:DSs X ρ body o) (hx:∀e s,¬X.xe e s:=by intro _ _ z;exact z):DS X ρ (.Try body (hd::hs) [] [] pos) o:=fun pins s σ H D I q=>by
 refine wpAny_Try_except (wpAny_mono (h pins s σ H D I q) (fun f s' z=>?_) fun e s' z=>absurd z (hx e s'))
 cases f with
 |next=>exact wpAny_execs_nil z
 |brk=>exact z
 |cont=>exact z
 |ret u=>exact z
theorem g7 {H:Hp} {a:Addr} {o:HO} (h:H a=some o):upd H a o=H:=by
 funext b;unfold upd;split
 ·rename_i z;rw [z,h]
 ·rfl
theorem Fm.unset {K:Frag} {H₀ H:Hp} {S₀ S:Ad} {ρ:Rho} {σ:St} {i:Nat} (f:Fm K H₀ S₀ H S ρ σ):Fm K H₀ S₀ H S (ρ.set i .nil) (σ.set i none):=by
 have key:∀(j:Nat) (x:Sl),(ρ.set i .nil)[j]?=some x->(i=j∧x=.nil)∨(i≠j∧ρ[j]?=some x):=fun j x h=>by
  by_cases hj:i=j
  ·subst hj
   have hi:=(List.getElem?_eq_some_iff.mp h).1
   rw [List.getElem?_set_self (by simpa using hi)] at h
   cases h;exact .inl ⟨rfl,rfl⟩
  ·rw [List.getElem?_set_ne hj] at h;exact .inr ⟨hj,h⟩
 refine ⟨⟨by simpa using f.ve.len,fun j x h=>?_,fun j k x y a hjk h1 h2 o1 o2 h3=>?_,f.ve.dom⟩,f.ext,f.sub,f.new,f.dm,fun j x a h o h2=>?_⟩
 ·rcases key j x h with ⟨rfl,rfl⟩|⟨hj,h'⟩
  ·have hi:i<ρ.length:=by have:=(List.getElem?_eq_some_iff.mp h).1;simpa using this
   exact ⟨none,List.getElem?_set_self (f.ve.len▸hi),rfl⟩
  ·rw [List.getElem?_set_ne hj]
   exact f.ve.rel j x h'
 ·rcases key j x h1 with ⟨rfl,rfl⟩|⟨hj,h1'⟩
  ·exact o1.elim
  ·rcases key k y h2 with ⟨rfl,rfl⟩|⟨hk,h2'⟩
   ·exact o2.elim
   ·rw [List.getElem?_set_ne hj] at h3
    rw [List.getElem?_set_ne hk]
    exact f.ve.dist j k x y a hjk h1' h2' o1 o2 h3
 ·rcases key j x h with ⟨rfl,rfl⟩|⟨hj,h'⟩
  ·exact o.elim
  ·rw [List.getElem?_set_ne hj] at h2
   exact f.own j x a h' o h2
theorem sR (hst:X.stack=X.env::X.outer) (hfr:X.env.frame=some X.env.locals) (hb:b4 X ρ body ρ1 (.exc C fs)) (hg:Gl X c) (hm:X.mg c=some (.ref CE)) (ct:l8 X.K CE) (hmr:mroIn X.K C (.ref CE)=some true)
  (hN:X.N.Nodup) (hi:X.N[i]?=some n) (hl:X.env.scope.names.lookup n=some .local) (hs:∀a,DSs (X.inH a) (ρ1.set i (.val (.exc C fs))) (b₀::suite) o) (hx:∀e s,¬X.xe e s:=by intro _ _ z;exact z) (hdb:(c==("__debug__":Str))=false:=by decide):
  DS X ρ (.Try body [.ExceptHandler (some (.Name c cp)) (some n) (b₀::suite) hp] [] [] pos) (o.unset i):=by
 intro pins s σ H D I ⟨H₀,S₀,S,f,kk⟩
 refine wpAny_Try_except (wpAny_mono (hb pins (fun σ' a H'=>∃S',Fm X.K H₀ S₀ H' S' ρ1 σ'∧Rds X.K H' S' (.exc C fs) (.ref a)) [] s σ H ⟨fun _ _=>False,fun _ _=>False,fun _ _=>False,fun _ _=>False⟩ I.xw ⟨H₀,S₀,S,f,fun σ' a H' S' f' hn r=>⟨S',f',r⟩⟩)
  (fun fl s' z=>?_) fun e s' z=>?_)
 ·cases fl with
  |next=>obtain ⟨_,_,_,z⟩:=z;exact z.elim
  |brk=>obtain ⟨_,_,_,z⟩:=z;exact z.elim
  |cont=>obtain ⟨_,_,_,z⟩:=z;exact z.elim
  |ret u=>obtain ⟨_,_,_,_,_,z⟩:=z;exact z.elim
 ·obtain ⟨σ',a,H',C',dx,rfl,I',ha,tr,S',f',r⟩:=z
  have J:Inv X pins σ' H' s':=I'.pxw
  have eH:=g7 ha
  obtain ⟨fr,dx',hr⟩:∃fr dx',H' a=some (aD fr a C dx'):=by
   cases r with
   |gf h _=>exact ⟨_,_,h⟩
   |exc h _ _ _ _=>exact ⟨_,_,h⟩
  refine jn J J.ok.frames hst hfr ha (tr.re rfl rfl fun p hp=>by simpa using hp) fun s1 I1 t1=>?_
  rw [eH] at I1 t1
  refine dS I1 t1 fun s2 I2 t2=>?_
  refine wpAny_handleBy_cons (codeAny_handlers_test (c4 (X:=X.inH a) I2.inH hg hm (o8 I2 hr ct hmr ?_) hdb)) (by intro q;cases q)
  refine codeAny_handlers_suite_as (dS I2 t2 fun s3 I3 t3=>?_)
  refine dE I3 hN hi (.inl hl) (v:=.ref a) rfl (fun s4 I4=>?_) (.inr hl)
  have kk':mP X.K H₀ S₀ ⟨fun σ H=>D.nx (σ.set i none) H,D.rt,fun σ H=>D.bk (σ.set i none) H,fun σ H=>D.ct (σ.set i none) H⟩ o:=by
   cases o with
   |nx ρ2=>exact fun σ5 H5 S5 f5=>kk _ H5 S5 f5.unset
   |rt d=>exact kk
   |rfx xs=>exact kk
  refine wpAny_mono (hs a pins s4 _ H' ⟨fun σ H=>D.nx (σ.set i none) H,D.rt,fun σ H=>D.bk (σ.set i none) H,fun σ H=>D.ct (σ.set i none) H⟩ I4.inH ⟨H₀,S₀,S',f'.set r,kk'⟩) (fun fl s5 z=>?_) fun e s5 z=>absurd z (hx e s5)
  cases fl with
  |next=>
   obtain ⟨σ5,H5,I5,q⟩:=z
   exact name_goes (I5.unH J.ok) hN hi hl fun s6 I6=>⟨_,H5,I6,q⟩
  |brk=>
   obtain ⟨σ5,H5,I5,q⟩:=z
   exact name_goes (I5.unH J.ok) hN hi hl fun s6 I6=>⟨_,H5,I6,q⟩
  |cont=>
   obtain ⟨σ5,H5,I5,q⟩:=z
   exact name_goes (I5.unH J.ok) hN hi hl fun s6 I6=>⟨_,H5,I6,q⟩
  |ret u=>
   obtain ⟨v,σ5,H5,I5,rv,q⟩:=z
   exact name_goes (I5.unH J.ok) hN hi hl fun s6 I6=>⟨v,_,H5,I6,rv,q⟩
end
end CT
namespace CT
open PySem PySem.Spec PySem.W L2
open PyProof.Rows hiding St
section
variable {X:Cx} {pins:List (Addr×Obj)} {R:St->Addr->Hp->Prop}
theorem pY (hst:X.stack=X.env::X.outer) (hfr:X.env.frame=some X.env.locals):PassesOwn (model X.prog X.w) X.A X.env (X.xw pins R).xe:=by
 rintro e s' ⟨σ,a,H,C,dx,rfl,I,ha,t,hR⟩
 have eH:=g7 ha
 show wpAny _ _ (noteFrame (.ref a) X.env) _ _ _
 refine jn (X:=X.pnd pins) I I.ok.frames hst hfr ha t fun s1 I1 t1=>?_
 rw [eH] at I1 t1
 unfold cameBackBy
 obtain ⟨oe,vs,h1,h2,q⟩:=id t1
 rcases q with ⟨_,z⟩|⟨T,oT,ts,fl,z1,_⟩
 ·cases z
 refine wpAny_bind (wpAny_field h1 h2 z1 ?_)
 rw [if_neg (by simp)]
 refine dS (X:=X.pnd pins) I1 t1 fun s2 I2 t2=>?_
 exact ⟨σ,a,H,C,dx,rfl,I2,ha,t2.imp fun _ _=>trivial,hR⟩
theorem a9.xw {pins':List (Addr×Obj)} {H:Hp} {b:Addr} (h:a9 X (pins++pins') H b):a9 (X.xw pins R) pins' H b:=
 ⟨h.1,h.2.1,h.2.2.1,h.2.2.2.1,h.2.2.2.2.1,fun p hp=>h.2.2.2.2.2 p (by
  rcases List.mem_append.mp hp with hp|hp
  ·rcases List.mem_append.mp hp with hp|hp
   ·exact List.mem_append_left _ hp
   ·exact List.mem_append_right _ (List.mem_append_left _ hp)
  ·exact List.mem_append_right _ (List.mem_append_right _ hp))⟩
theorem PI.xw {tg iter:Expr} {wi:TI} (h:PI X tg iter wi) (hx:∀e s,¬X.xe e s):PI (X.xw pins R) tg iter wi:=fun pins' s σ H Q I hw=>
 wpAny_mono (h (pins++pins') s σ H Q I.hX hw) (fun v s1 z=>wpAny_mono z (fun u s2 ⟨it,fp,tn,J,H',e,I',tu,t0,fo,q⟩=>⟨it,fp,tn,J,H',e,I'.dZ,tu,t0,fun b hb=>a9.xw (fo b hb),q⟩) fun e s z=>absurd z (hx e s)) fun e s z=>absurd z (hx e s)
theorem PG.xw {tg:Expr} {t:TG} (h:PG X tg t) (hx:∀e s,¬X.xe e s):PG (X.xw pins R) tg t:=fun pins' s σ H v u Q I r hw=>
 wpAny_mono (h (pins++pins') s σ H v u Q I.hX r hw) (fun _ s1 ⟨σ',H',I',q⟩=>⟨σ',H',I'.dZ,q⟩) fun e s z=>absurd z (hx e s)
theorem sr {sts:List Stmt} (hx:∀e s,¬X.xe e s):PSs (X.xw pins R) sts (fun E σ H=>(∃ρ o,DSs X ρ sts o∧tDS X.K ρ o E σ H)∨∃ρ ρ' d,b4 X ρ sts ρ' d∧tSX X.K ρ ρ' d R σ H):=fun pins' s σ H D I q=>by
 rcases q with ⟨_,_,h,q⟩|⟨_,_,_,h,q⟩
 ·exact PSs.xw h hx pins' s σ H D I q
 ·exact h pins R pins' s σ H D I q
end
inductive jL (X:Cx) (tg:Expr) (body:List Stmt) (ρe:Rho) (de:D):List D->Rho->Prop
 |here {d:D} {ds:List D} {ρ ρ1:Rho} {ks:List Nat}:DG X tg ρ d ρ1 ks->cz ρ ρ1 ks->b4 X ρ1 body ρe de->jL X tg body ρe de (d::ds) ρ
 |cons {d:D} {ds:List D} {ρ ρ1 ρ2:Rho} {ks:List Nat}:DG X tg ρ d ρ1 ks->cz ρ ρ1 ks->DSs X ρ1 body (.nx ρ2)->jL X tg body ρe de ds ρ2->jL X tg body ρe de (d::ds) ρ
theorem vw {X:Cx} {ρ ρe:Rho} {de:D} {tg iter:Expr} {body:List Stmt} {its:List D} {pos:Pos} (hst:X.stack=X.env::X.outer) (hfr:X.env.frame=some X.env.locals) (hc:X.calm=true) (hi:DI X tg ρ iter its) (hb:jL X tg body ρe de its ρ)
  (hx:∀e s,¬X.xe e s:=by intro _ _ z;exact z) (hs:∀x,foldedSetIterable iter X.env x=pure x:=by intro _;rfl):DSX X ρ (.For tg iter body [] pos) ρe de:=fun pins R=>by
 refine PS.weak (qi (X:=X.xw pins R) (pY hst hfr) hc (PI.xw hi hx) (PG.xw (ou (G:=DG X tg) fun _ _ _ _ h=>h) hx) (sr (sts:=body) hx) hs) ?_
 rintro E σ H ⟨H₀,S₀,S,f,k⟩
 refine ⟨S,f.ve,fun J H1 ex hJ=>?_⟩
 have f1:=f.grow ex
 obtain ⟨e0,fc⟩:=f1.cut
 refine ⟨fun i m σ' H'=>∃S' ρ',Fm X.K (dh H1 S S₀) S₀ H' S' ρ' σ'∧jL X tg body ρe de (its.drop i) ρ'∧i<=its.length∧m=its.length - i,⟨its.length,S,ρ,fc,by simpa using hb,Nat.zero_le _,by simp⟩,?_⟩
 rintro i m σ' H' ⟨S',ρ',f',hf,hi',rfl⟩
 have ext1:Ext S H1 H':=fun a u n h=>f'.ext a u (fun z=>z) (c9 h fun s=>(n s).elim)
 have new1:∀a,S' a->S a∨H1 a=none:=fun a s=>by
  rcases f'.new a s with z|z
  ·exact .inl (f.sub a z)
  ·by_cases q:S a
   ·exact .inl q
   ·cases h:H1 a with
    |none=>exact .inr rfl
    |some u=>rw [c9 h fun s=>(q s).elim] at z;cases z
 obtain ⟨J1,J2⟩:=hJ H' S' ext1 new1 f'.ve.dom i
 by_cases hlt:i<its.length
 ·have hd:its[i]?=some its[i]:=by simp [hlt]
  obtain ⟨go,yld⟩:=J1 _ hd
  rw [List.drop_eq_getElem_cons hlt] at hf
  have rep:∀{ρ1:Rho} {ks:List Nat} {x:V} {H2:Hp},J.yld i H' x H2->DG X tg ρ' its[i] ρ1 ks->cz ρ' ρ1 ks->∀(R:St->Hp->Prop),(∀σ2,Fm X.K (dh H1 S S₀) S₀ H2 S' ρ1 σ2->R σ2 H2)->gA X.K (DG X tg) x σ' H2 R:=fun {ρ1 ks x H2} y hg htg R hR=>by
   obtain ⟨e1,r1⟩:=yld x H2 y
   exact ⟨ρ',its[i],ρ1,ks,hg,S',(f'.grow e1).ve,r1,fun σ2 ve2 c=>hR σ2 ((f'.grow e1).tgt ve2 c htg)⟩
  cases hf with
  |cons hg htg hbd hrest=>
   rename_i ρ1 ρ2 ks
   refine .inr ⟨go,fun σ2 H2=>∃S2,Fm X.K (dh H1 S S₀) S₀ H2 S2 ρ2 σ2,fun σ2 H2 ⟨S2,f2⟩=>⟨its.length - (i+1),by omega,S2,ρ2,f2,hrest,hlt,rfl⟩,fun x H2 y=>?_⟩
   exact rep y hg htg _ fun σ2 f2=>.inl ⟨ρ1,_,hbd,_,_,S',f2,fun σ3 H3 S3 f3=>⟨S3,f3⟩⟩
  |here hg htg hbd=>
   rename_i ρ1 ks
   refine .inr ⟨go,fun _ _=>False,fun _ _ z=>z.elim,fun x H2 y=>?_⟩
   refine rep y hg htg _ fun σ2 f2=>.inr ⟨ρ1,ρe,de,hbd,_,_,S',f2,fun σ3 a H3 S3 f3 hn r=>?_⟩
   exact k σ3 a H3 S3 (f3.mono e0 f.dm) (e0.back hn) r
 ·have e:i=its.length:=by omega
  subst e
  rw [List.drop_length] at hf
  cases hf
end CT
namespace IN
open PySem PySem.Spec PySem.W L2 CT
open PyProof.Rows hiding St
section
variable {X:Cx} {ρ:Rho} {k:Nat} {f C:Addr} {fd:FuncData} {ps:List Str} {x m:Str} {p pos apos:Pos} {e o:Expr} {es:List Expr} {ds:List D} {d:D}
theorem rk {pins:List (Addr×Obj)} {R:St->Addr->Hp->Prop} {sp:Sp} {ta:TE} {pl:Sem Bool} (he:PE (X.xw pins R) o ta) (c:Cls X.K C) (hm:Meth X.K C m f) (F:aw X.prog X.w X.K X.mg X.base (CXA X.prog X.w) k f fd ps sp) (hr:ay k X.A) (hb:Binds X.K fd ps [])
  (ht:eval (.Call (.Attribute o m apos) [] [] pos) X.env=(do
   let ov←eval o X.env
   standAt apos.atName
   let (f,first)←holding [ov] (getMethod ov m pl)
   callWith pos f first (backTo pos (starEach [] X.env)) (backToKw pos (keywordEach [] X.env)))):
  PE (X.xw pins R) (.Call (.Attribute o m apos) [] [] pos) (fun σ H Q=>ta σ H fun x H1=>∃a dx fs,x=.ref a∧H1 a=some (.ins C dx fs)∧fs.lookup m=none∧sp [x] H1 Q (xk R σ)):=by
 intro pins' s σ H Q I h
 refine PySem.W.methodCall_KW (pl:=pl) (thn (he pins' s σ H _ I h) fun u s1 ⟨x,H1,I1,rx,a,dx,fs,ex,ea,l,q⟩=>?_) ht
 subst ex
 obtain rfl:u=Value.ref a:=rx
 refine eg I1 ea c hm l ?_
 exact PySem.W.callWith_K0 (first:=[.ref a]) I1.kIn hm.kp (jB (us:=[.ref a]) (vs:=[.ref a]) F hr hb I1 (.cons rfl .nil) q)
theorem rN {Pr:List D->Res->Prop} {fs:List (Str×D)} {pl:Sem Bool} (ho:DE X ρ o (.ins C fs)) (hl:fs.lookup m=none) (c:Cls X.K C) (hm:Meth X.K C m f) (F:aw X.prog X.w X.K X.mg X.base (CXA X.prog X.w) k f fd ps (spR X.K Pr)) (hr:ay k X.A) (hb:Binds X.K fd ps [])
  (hp:Pr [.ins C fs] (.xc d)) (hx:∀e s,¬X.xe e s)
  (ht:eval (.Call (.Attribute o m apos) [] [] pos) X.env=(do
   let ov←eval o X.env
   standAt apos.atName
   let (f,first)←holding [ov] (getMethod ov m pl)
   callWith pos f first (backTo pos (starEach [] X.env)) (backToKw pos (keywordEach [] X.env)))):
  DEX X ρ (.Call (.Attribute o m apos) [] [] pos) d:=fun pins R=>PE.weak (rk (PE.xw ho hx) c hm F hr hb ht) fun σ H Q ⟨S,ve,kk⟩=>⟨S,ve,fun v H1 ex1 r1=>by
   obtain ⟨a,dx,gs,rfl,hh,rf⟩:=r1.gJ
   exact ⟨a,dx,gs,rfl,hh,rf.none hl,S,_,.xc d,(ve.ext ex1).dom,.cons r1 .nil,hp,(fun d' e=>nomatch e),fun d' e a H'' ex' hn r'=>⟨a,rfl,by
    cases e;exact kk a H'' (ex1.trans ex') (ex1.back hn) r'⟩⟩⟩
end
section
variable {X:Cx} {ρ ρ':Rho} {e tg:Expr} {d:D} {i:Nat} {c:Ow} {st:Stmt} {pos:Pos}
theorem tJ (hr:ρ[i]?=some (.owx c)) (h:DSX X (ρ.set i (.val c.D)) st ρ' d):DSX X ρ st ρ' d:=fun pins R=>PS.weak (h pins R) fun E σ H ⟨H₀,S₀,S,f,k⟩=>by
 obtain ⟨S',_,f'⟩:=f.give hr
 exact ⟨H₀,S₀,S',f',k⟩
theorem s9 (he:DEX X ρ e d) (hs:swapsWithSole [tg] e pos.line X.env=pure false) (hw:swappedStores [tg] e X.env=pure none) (h1:(assignEach [tg] X.env).map (·.2)=[assign tg X.env]):
  DSX X ρ (.Assign [tg] e pos) ρ d:=fun pins R=>PS.weak (pT (X:=X.xw pins R) (g:=fun _ _ _ _=>False) (he pins R) (fun _ _ _ _ _ _ _ _ _ z=>z.elim) hs hw h1) fun E σ H q=>oE q
theorem tK {X:Cx} {ρ ρ' ρ'':Rho} {sts:List Stmt} {d:D} (w:Wk ρ ρ') (h:b4 X ρ' sts ρ'' d):b4 X ρ sts ρ'' d:=fun pins R=>PSs.weak (h pins R) fun E σ H ⟨H₀,S₀,S,f,k⟩=>⟨H₀,S₀,S,f.wk w,k⟩
end
end IN
set_option genInjectivity false
namespace IN
open PySem PySem.Spec L2 CT
open PyProof.Rows hiding St
inductive BO where|add|sub|mul|mod|fdiv|pow|shr
inductive CO where|lt|le|gt|ge|eq|ne|is|isn|inn|nin
inductive BN where|len|sum|all|any|abs|int|str|tuple|list|dict|min|max|isin|range|zip|enum|sorted
inductive Tg where
 |nm (k:Nat)|tp (ts:List Tg)
inductive CE where
 |nop|var (i:Nat)|lit (d:D)|gl (x:Str)
 |bin (o:BO) (a b:CE)|neg (a:CE)|nt (a:CE)|and (a b:CE)|or (a b:CE)
 |cmp (o:CO) (a b:CE)|isN (a:CE)|jj (a:CE)|chn (a b c:CE)|ife (c a b:CE)
 |tup (es:List CE)|lst (es:List CE)|ix (a b:CE)|sl (a lo hi:CE)
 |fld (a:CE) (f:Str)|blt (n:BN) (es:List CE)|fn (x:Str) (es:List CE)|mth (o:CE) (m:Str) (es:List CE)
 |comp (w:Nat) (cap:List Nat) (tg:Tg) (it test body:CE)
 |emit (e:CE)|loop (tg:Tg) (it test body:CE)
 |mD
inductive CS' where
 |asg (t:Tg) (e:CE) (L:List Nat)|aug (i:Nat) (o:BO) (e:CE) (L:List Nat)
 |par (i j:Nat) (a b:CE) (L:List Nat)
 |put (i:Nat) (k e:CE) (L:List Nat)|f_ (f:Str) (e:CE) (L:List Nat)
 |app (i:Nat) (e:CE) (L:List Nat)|clr (i:Nat)
 |exp (e:CE) (L:List Nat)|ret (e:CE) (L:List Nat)|zI
 |ife (c:CE) (L:List Nat) (a b:List CS')|for (t:Tg) (it:CE) (L:List Nat) (b:List CS')|whl (c:CE) (L:List Nat) (b:List CS')
 |rse (x:Str) (es:List CE) (L:List Nat)
 |try (b:List CS') (x:Str) (i:Nat) (h:List CS')
 |pass
 |fgt (L:List Nat)
 |mov (j i:Nat)
structure Def where
 slots:Nat
 au:Nat
 init:Bool:=false
 body:List CS'
inductive Tag where
 |ty (n:String)|cl (C:Addr)|xc (C:Addr)
 deriving DecidableEq
noncomputable def zJ:D->Option Tag
 |.ins C _=>some (.cl C)|.exc C _=>some (.xc C)
 |d=>(tyN d).map .ty
noncomputable def Cr:D->Option Tag
 |.ty n=>some (.ty n)|.cl C=>some (.cl C)|_=>none
structure Prg where
 glob:Str->Option D
 fn:Str->Option Str
 ini:Str->Option (Addr×Str)
 exc:Str->Option (Addr×List Str)
 mth:Addr->Str->Option Str
 fok:Addr->Str->Bool
 xok:Addr->Str->Bool
 kit:Tag->Tag->Option Bool
 sub:Addr->Addr->Option Bool
 defs:Str->Option (Option Addr×Def)
inductive Rs where
 |ok (d:D)|fr (c:Ow)|xc (d:D)
inductive Oc where
 |nx (ρ:Rho)|rt (d:D)|fr (c:Ow)|xc (ρ:Rho) (d:D)
mutual
noncomputable def B6:D->Option PK
 |.int n=>some (.i n)
 |.tup xs=>match uF xs with|some l=>some (.t l)|none=>none
 |_=>none
noncomputable def uF:List D->Option (List PK)
 |[]=>some []
 |x::xs=>match B6 x with
  |some k=>match uF xs with
   |some ks=>some (k::ks)
   |none=>none
  |none=>none
end
mutual
noncomputable def PK.beq:PK->PK->Bool
 |.i n,.i m=>n==m
 |.t l,.t r=>PK.Av l r
 |_,_=>false
noncomputable def PK.Av:List PK->List PK->Bool
 |[],[]=>true
 |a::l,b::r=>PK.beq a b&&PK.Av l r
 |_,_=>false
end
noncomputable def look:List (PK×D)->PK->Option D
 |[],_=>none
 |(k,d)::r,q=>if PK.beq k q then some d else look r q
noncomputable def C1 (es:List (PK×D)) (q:PK) (v:D):List (PK×D):=
 match look es q with
 |some _=>es.map fun p=>if PK.beq p.1 q then (p.1,v) else p
 |none=>es++[(q,v)]
noncomputable def b9 (i j:Int):Bool:=decide (i.natAbs<2^64)||decide (j.natAbs<2^64)||(decide (i.natAbs<2^100000)&&decide (j.natAbs<2^100000))
noncomputable def d6:BO->D->D->Option D
 |.add,.int i,.int j=>some (.int (i+j))
 |.add,.tup xs,.tup ys=>if xs.length+ys.length<=sizeLine then some (.tup (xs++ys)) else none
 |.add,.lst xs,.lst ys=>if xs.length+ys.length<=sizeLine then some (.lst (xs++ys)) else none
 |.sub,.int i,.int j=>some (.int (i - j))
 |.mul,.int i,.int j=>if b9 i j then some (.int (i*j)) else none
 |.mul,.tup xs,.int k=>match xs with
  |[d]=>if 0<=k∧k.toNat<2^20 then some (.tup (List.replicate k.toNat d)) else none
  |_=>none
 |.mod,.int i,.int j=>if 0<j then some (.int (i%j)) else none
 |.fdiv,.int i,.int j=>if 0<j∧j.toNat<1073741824 then some (.int (i / j)) else none
 |.shr,.int i,.int j=>if 0<=j then some (.int (i / 2^j.toNat)) else none
 |_,_,_=>none
noncomputable def boolsOf:List D->Option (List Bool)
 |[]=>some []
 |.bl b::r=>match boolsOf r with|some l=>some (b::l)|none=>none
 |_=>none
noncomputable def eI (x y:D):Bool:=aU x&&aU y&&decide (min (toPy x).depth (toPy y).depth<=64)
noncomputable def bF:CO->D->D->Option Bool
 |.lt,.int i,.int j=>some (decide (i<j))
 |.le,.int i,.int j=>some (decide (i<=j))
 |.gt,.int i,.int j=>some (decide (j<i))
 |.ge,.int i,.int j=>some (decide (j<=i))
 |.eq,.int i,.int j=>some (decide (i=j))
 |.ne,.int i,.int j=>some (!decide (i=j))
 |.is,.bl p,.bl q=>some (p==q)
 |.isn,.bl p,.bl q=>some (p !=q)
 |.eq,x,y=>if eI x y then some (eqD x y) else none
 |.ne,x,y=>if eI x y then some (!eqD x y) else none
 |_,_,_=>none
noncomputable def aL:D->Option (List D)
 |.lst xs=>some xs|.tup xs=>some xs|_=>none
noncomputable def ixD:D->D->Option D
 |.lst xs,.int i=>atI xs i
 |.tup xs,.int i=>atI xs i
 |_,_=>none
noncomputable def slD:D->Option Int->Option Int->Option D
 |.tup xs,l,u=>some (.tup (aZ xs l u))
 |.lst xs,l,u=>some (.lst (aZ xs l u))
 |_,_,_=>none
noncomputable def cj (G:Prg) (d:D):D->Option Bool
 |.tup [.ty a,.ty b]=>if a="list"∧b="tuple" then (match tyN d with|some _=>some (o5 d "list"||o5 d "tuple")|none=>none) else none
 |c=>match zJ d,Cr c with
  |some t,some u=>G.kit t u
  |_,_=>none
noncomputable def cJ (G:Prg):BN->List D->Option D
 |.len,[d]=>match aL d with|some xs=>some (.int xs.length)|none=>none
 |.all,[d]=>match aL d with|some xs=>(match boolsOf xs with|some bs=>some (.bl (bs.all id))|none=>none)|none=>none
 |.abs,[.int i]=>some (.int (if i<0 then -i else i))
 |.int,[.bl b]=>some (.int (if b then 1 else 0))
 |.tuple,[d]=>match aL d with|some xs=>some (.tup xs)|none=>none
 |.max,[.int i,.int j]=>some (.int (if j>i then j else i))
 |.isin,[d,c]=>match cj G d c with|some b=>some (.bl b)|none=>none
 |_,_=>none
noncomputable def itD:D->Option (List D)
 |.lst xs=>some xs|.tup xs=>some xs|_=>none
noncomputable def fJ (j:Int):Bool:=decide (j.toNat<2^62)&&decide ((-j).toNat<=2^62)
noncomputable def bz:BN->List D->Option (List D)
 |.range,[.int j]=>if fJ j then some ((bG j).map D.int) else none
 |.range,[.int i,.int j]=>if fJ i&&fJ j then some ((jb i j).map D.int) else none
 |.zip,[x,y]=>match aL x,aL y with|some xs,some ys=>some (a_ xs ys)|_,_=>none
 |.zip,[x,y,z]=>match aL x,aL y,aL z with|some xs,some ys,some zs=>some (ba xs ys zs)|_,_,_=>none
 |.enum,[x]=>match aL x with|some xs=>some (bf 0 xs)|_=>none
 |_,_=>none
mutual
noncomputable def ai:Tg->D->Rho->Option Rho
 |.nm k,d,ρ=>if k<ρ.length then some (ρ.set k (.val d)) else none
 |.tp ts,.tup ds,ρ=>aQ ts ds ρ
 |_,_,_=>none
noncomputable def aQ:List Tg->List D->Rho->Option Rho
 |[],[],ρ=>some ρ
 |t::ts,d::ds,ρ=>match ai t d ρ with|some ρ'=>aQ ts ds ρ'|none=>none
 |_,_,_=>none
end
mutual
noncomputable def tks:Tg->List Nat
 |.nm k=>[k]
 |.tp ts=>dH ts
noncomputable def dH:List Tg->List Nat
 |[]=>[]
 |t::ts=>tks t++dH ts
end
noncomputable def isNil:Option Sl->Bool
 |some .nil=>true|_=>false
noncomputable def aO:Option Sl->Option D
 |some (.val d)=>some d|_=>none
noncomputable def ij (f:D->Option (List D)):List D->Option (List D)
 |[]=>some []
 |d::ds=>match f d with
  |some xs=>match ij f ds with
   |some ys=>some (xs++ys)
   |none=>none
  |none=>none
noncomputable def eR (w:Nat) (cap:List Nat) (ρ:Rho):Rho:=List.replicate w .nil++cap.map fun i=>cy ρ[i]?
noncomputable def Rs.val:Rs->Option D
 |.ok d=>some d|.fr c=>some c.D|.xc _=>none
noncomputable def fnR (G:Prg) (cl:Str->List D->Option Rs) (x:Str) (ds:List D):Option Rs:=
 match ds with
 |[]=>match G.exc x with
  |some (C,[])=>some (.ok (.exc C []))
  |_=>none
 |d::r=>match G.fn x with
  |some k=>cl k (d::r)
  |none=>match G.ini x with
   |some (_,k)=>cl k (d::r)
   |none=>match G.exc x with
    |some (C,fs)=>if (d::r).length=fs.length∧(d::r).length<=1000 then some (.ok (.exc C (fs.zip (d::r)))) else none
    |none=>none
noncomputable def bw (G:Prg) (cl:Str->List D->Option Rs) (o:D) (m:Str) (ds:List D):Option Rs:=
 match o with
 |.ins C fs=>match fs.lookup m,G.mth C m with
  |none,some k=>cl k (.ins C fs::ds)
  |_,_=>none
 |_=>none
noncomputable def b_ (G:Prg) (o:D) (f:Str):Option D:=
 match o with
 |.ins C fs=>if G.fok C f then fs.lookup f else none
 |.exc C fs=>if G.xok C f then fs.lookup f else none
 |_=>none
noncomputable def asI:CE->Option D->Option (Option Int)
 |.nop,_=>some none
 |_,some (.int i)=>some (some i)
 |_,_=>none
section
variable (G:Prg) (cl:Str->List D->Option Rs)
mutual
noncomputable def ev:CE->Rho->Option D
 |.var i,ρ=>aO ρ[i]?
 |.lit d,_=>some d
 |.gl x,_=>G.glob x
 |.bin o a b,ρ=>match ev a ρ with
  |some x=>match ev b ρ with
   |some y=>d6 o x y
   |none=>none
  |none=>none
 |.neg a,ρ=>match ev a ρ with|some (.int i)=>some (.int (-i))|_=>none
 |.nt a,ρ=>match ev a ρ with|some (.bl b)=>some (.bl (!b))|_=>none
 |.and a b,ρ=>match ev a ρ with
  |some (.bl true)=>(match ev b ρ with|some (.bl q)=>some (.bl q)|_=>none)
  |some (.bl false)=>some (.bl false)
  |_=>none
 |.or a b,ρ=>match ev a ρ with
  |some (.bl true)=>some (.bl true)
  |some (.bl false)=>(match ev b ρ with|some (.bl q)=>some (.bl q)|_=>none)
  |_=>none
 |.cmp o a b,ρ=>match ev a ρ with
  |some x=>match ev b ρ with
   |some y=>match bF o x y with|some q=>some (.bl q)|none=>none
   |none=>none
  |none=>none
 |.isN a,ρ=>match ev a ρ with|some x=>some (.bl (b8 x))|none=>none
 |.jj a,ρ=>match ev a ρ with|some x=>some (.bl (!b8 x))|none=>none
 |.chn a b c,ρ=>match ev a ρ with
  |some (.int i)=>match ev b ρ with
   |some (.int j)=>match ev c ρ with
    |some (.int k)=>some (.bl (decide (i<=j)&&decide (j<k)))
    |_=>none
   |_=>none
  |_=>none
 |.ife c a b,ρ=>match evT c ρ with
  |some true=>ev a ρ
  |some false=>ev b ρ
  |none=>none
 |.tup es,ρ=>match evA es ρ with
  |some ds=>if ds.length<=sizeLine then some (.tup ds) else none
  |none=>none
 |.lst es,ρ=>match evA es ρ with
  |some ds=>if ds.length<=sizeLine then some (.lst ds) else none
  |none=>none
 |.ix a b,ρ=>match ev a ρ with
  |some x=>match ev b ρ with
   |some y=>ixD x y
   |none=>none
  |none=>none
 |.sl a lo hi,ρ=>match ev a ρ with
  |some x=>match asI lo (ev lo ρ) with
   |some l=>match asI hi (ev hi ρ) with
    |some u=>slD x l u
    |none=>none
   |none=>none
  |none=>none
 |.fld a f,ρ=>match ev a ρ with|some x=>b_ G x f|none=>none
 |.blt n es,ρ=>match evA es ρ with
  |some ds=>match n with
   |.list=>(match ds with|[d]=>(match aL d with|some xs=>some (.lst xs)|none=>none)|_=>none)
   |.dict=>none
   |_=>cJ G n ds
  |none=>none
 |.fn x es,ρ=>match evA es ρ with
  |some ds=>match fnR G cl x ds with|some r=>r.val|none=>none
  |none=>none
 |.mth o m es,ρ=>match ev o ρ with
  |some x=>match evA es ρ with
   |some ds=>match bw G cl x m ds with|some r=>r.val|none=>none
   |none=>none
  |none=>none
 |.comp w cap tg it test body,ρ=>match evI it ρ with
  |some its=>if (tks tg).all (fun k=>k<w) then
    match ij (fun d=>match ai tg d (eR w cap ρ) with
     |some ρ'=>match evT test ρ' with
      |some true=>evB w body ρ'
      |some false=>some []
      |none=>none
     |none=>none) its with
    |some out=>if out.length<=sizeLine then some (.lst out) else none
    |none=>none
   else none
  |none=>none
 |.mD,_=>some (.pdc [])
 |.nop,_=>none
 |.emit _,_=>none
 |.loop _ _ _ _,_=>none
noncomputable def evT:CE->Rho->Option Bool
 |.nt a,ρ=>match evT a ρ with|some b=>some (!b)|none=>none
 |.and a b,ρ=>match evT a ρ with
  |some true=>evT b ρ
  |some false=>some false
  |none=>none
 |.or a b,ρ=>match evT a ρ with
  |some true=>some true
  |some false=>evT b ρ
  |none=>none
 |.cmp o a b,ρ=>match ev a ρ with
  |some x=>match ev b ρ with
   |some y=>bF o x y
   |none=>none
  |none=>none
 |.isN a,ρ=>match ev a ρ with|some x=>some (b8 x)|none=>none
 |.jj a,ρ=>match ev a ρ with|some x=>some (!b8 x)|none=>none
 |.var i,ρ=>match aO ρ[i]? with|some (.bl b)=>some b|_=>none
 |.lit (.bl b),_=>some b
 |.blt n es,ρ=>match evA es ρ with
  |some ds=>match cJ G n ds with|some (.bl b)=>some b|_=>none
  |none=>none
 |.fn x es,ρ=>match evA es ρ with
  |some ds=>match fnR G cl x ds with|some (.ok (.bl b))=>some b|_=>none
  |none=>none
 |.mth o m es,ρ=>match ev o ρ with
  |some x=>match evA es ρ with
   |some ds=>match bw G cl x m ds with|some (.ok (.bl b))=>some b|_=>none
   |none=>none
  |none=>none
 |_,_=>none
noncomputable def evA:List CE->Rho->Option (List D)
 |[],_=>some []
 |e::es,ρ=>match ev e ρ with
  |some d=>match evA es ρ with
   |some ds=>some (d::ds)
   |none=>none
  |none=>none
noncomputable def evI:CE->Rho->Option (List D)
 |.blt n es,ρ=>match evA es ρ with
  |some ds=>match bz n ds with
   |some its=>some its
   |none=>none
  |none=>none
 |.var i,ρ=>match aO ρ[i]? with|some d=>itD d|none=>none
 |.fld a f,ρ=>match ev a ρ with|some x=>(match b_ G x f with|some d=>itD d|none=>none)|none=>none
 |.tup es,ρ=>match evA es ρ with|some ds=>if ds.length<=sizeLine then some ds else none|none=>none
 |.lst es,ρ=>match evA es ρ with|some ds=>if ds.length<=sizeLine then some ds else none|none=>none
 |.ix a b,ρ=>match ev a ρ with
  |some x=>match ev b ρ with
   |some y=>(match ixD x y with|some d=>itD d|none=>none)
   |none=>none
  |none=>none
 |.fn x es,ρ=>match evA es ρ with
  |some ds=>match fnR G cl x ds with|some r=>(match r.val with|some d=>itD d|none=>none)|none=>none
  |none=>none
 |.mth o m es,ρ=>match ev o ρ with
  |some x=>match evA es ρ with
   |some ds=>match bw G cl x m ds with|some r=>(match r.val with|some d=>itD d|none=>none)|none=>none
   |none=>none
  |none=>none
 |.sl a lo hi,ρ=>match ev a ρ with
  |some x=>match asI lo (ev lo ρ) with
   |some l=>match asI hi (ev hi ρ) with
    |some u=>(match slD x l u with|some d=>itD d|none=>none)
    |none=>none
   |none=>none
  |none=>none
 |.bin o a b,ρ=>match ev a ρ with
  |some x=>match ev b ρ with
   |some y=>(match d6 o x y with|some d=>itD d|none=>none)
   |none=>none
  |none=>none
 |_,_=>none
noncomputable def evB (w:Nat):CE->Rho->Option (List D)
 |.emit e,ρ=>match ev e ρ with|some d=>some [d]|none=>none
 |.loop tg it test body,ρ=>match evI it ρ with
  |some its=>if (tks tg).all (fun k=>k<w&&isNil ρ[k]?) then
    ij (fun d=>match ai tg d ρ with
     |some ρ'=>match evT test ρ' with
      |some true=>evB w body ρ'
      |some false=>some []
      |none=>none
     |none=>none) its
   else none
  |none=>none
 |_,_=>none
end
end
end IN
namespace IN
open PySem PySem.Spec L2 CT
open PyProof.Rows hiding St
noncomputable def aI:Sl->Sl
 |.owx c=>.val c.D
 |s=>s
noncomputable def af:List Nat->Rho->Rho
 |[],ρ=>ρ
 |i::L,ρ=>af L (ρ.modify i aI)
noncomputable def b6:Ow->Bool
 |.l xs=>bg xs
 |.d es=>es.all fun p=>ak p.2
noncomputable def kp (b:Bool) (ρ ρg:Rho):Rho:=if b then ρ else ρg
section
variable (G:Prg) (cl:Str->List D->Option Rs)
noncomputable def evV (e:CE) (ρ:Rho):Option Rs:=
 match e with
 |.fn x es=>match evA G cl es ρ with|some ds=>fnR G cl x ds|none=>none
 |.mth o m es=>match ev G cl o ρ with
  |some x=>match evA G cl es ρ with
   |some ds=>bw G cl x m ds
   |none=>none
  |none=>none
 |.lst es=>match evA G cl es ρ with
  |some ds=>if ds.length<=sizeLine then some (.fr (.l ds)) else none
  |none=>none
 |.comp w cap tg it test body=>match ev G cl (.comp w cap tg it test body) ρ with
  |some (.lst xs)=>some (.fr (.l xs))
  |_=>none
 |.blt .list es=>match ev G cl (.blt .list es) ρ with
  |some (.lst xs)=>some (.fr (.l xs))
  |_=>none
 |.blt .dict es=>match ev G cl (.blt .dict es) ρ with
  |some (.pdc xs)=>some (.fr (.d xs))
  |_=>none
 |.mD=>some (.fr (.d []))
 |e=>match ev G cl e ρ with|some d=>some (.ok d)|none=>none
noncomputable def forL (tg:Tg) (b:Rho->Option Oc):List D->Rho->Option Oc
 |[],ρ=>some (.nx ρ)
 |d::ds,ρ=>match ai tg d ρ with
  |some ρ1=>match b ρ1 with
   |some (.nx ρ2)=>forL tg b ds ρ2
   |o=>o
  |none=>none
noncomputable def fN (c:Rho->Option Bool) (b:Rho->Option Oc):Nat->Rho->Option Oc
 |0,_=>none
 |n+1,ρ=>match c ρ with
  |some true=>(match b ρ with
   |some (.nx ρ2)=>fN c b n ρ2
   |some (.xc _ _)=>none
   |o=>o)
  |some false=>some (.nx ρ)
  |none=>none
noncomputable def fH:List Nat->Rho->Rho
 |[],ρ=>ρ
 |i::L,ρ=>fH L (ρ.set i .any)
noncomputable def lJ:Sl->Nat
 |.val (.int i)=>i.natAbs
 |_=>0
noncomputable def turns (ρ:Rho):Nat:=(ρ.map lJ).sum+1000000
mutual
noncomputable def aa:CS'->Rho->Option Oc
 |.asg t e L,ρ=>match evV G cl e (af L ρ) with
  |some (.ok d)=>(match ai t d (kp (ak d) ρ (af L ρ)) with|some ρ'=>some (.nx ρ')|none=>none)
  |some (.fr c)=>(match t with
   |.nm k=>if k<ρ.length then some (.nx ((kp (b6 c) ρ (af L ρ)).set k (.owx c))) else none
   |t=>none)
  |some (.xc d)=>some (.xc (af L ρ) d)
  |none=>none
 |.aug _ .add _ _,_=>none
 |.aug _ _ _ _,_=>none
 |.par i j a b L,ρ=>match ev G cl a (af L ρ) with
  |some x=>match ev G cl b (af L ρ) with
   |some y=>if i≠j∧i<ρ.length∧j<ρ.length then some (.nx (((kp (ak x&&ak y) ρ (af L ρ)).set i (.val x)).set j (.val y))) else none
   |none=>none
  |none=>none
 |.put i k e L,ρ=>match ev G cl e (af L ρ) with
  |some v=>match ev G cl k (af L ρ) with
   |some (.int j)=>match (kp (ak v) ρ (af L ρ))[i]? with
    |some (.owx (.l xs))=>if 0<=j∧j.toNat<xs.length then some (.nx ((kp (ak v) ρ (af L ρ)).set i (.owx (.l (xs.set j.toNat v))))) else none
    |_=>none
   |_=>none
  |none=>none
 |.f_ f e L,ρ=>match ev G cl e (af L ρ) with
  |some d=>match (ρ[(0:Nat)]?:Option Sl) with
   |some (.new C a dx fs)=>if fs.length<1000∧G.fok C f then some (.nx ((kp (ak d) ρ (af L ρ)).set 0 (.new C a dx (putD f d fs)))) else none
   |_=>none
  |none=>none
 |.app i e L,ρ=>match ev G cl e (af L ρ) with
  |some v=>match (kp (ak v) ρ (af L ρ))[i]? with
   |some (.owx (.l xs))=>if xs.length<sizeLine then some (.nx ((kp (ak v) ρ (af L ρ)).set i (.owx (.l (xs++[v]))))) else none
   |_=>none
  |none=>none
 |.clr _,_=>none
 |.exp e L,ρ=>match evV G cl e (af L ρ) with
  |some (.ok d)=>some (.nx (kp (ak d) ρ (af L ρ)))
  |some (.fr c)=>some (.nx (kp (b6 c) ρ (af L ρ)))
  |some (.xc d)=>some (.xc (af L ρ) d)
  |none=>none
 |.ret e L,ρ=>match (match e with|.var i=>(match ρ[i]? with|some (.owx c)=>some c|_=>none)|_=>none) with
  |some c=>some (.fr c)
  |none=>match evV G cl e (af L ρ) with
   |some (.ok d)=>some (.rt d)
   |some (.fr c)=>some (.fr c)
   |some (.xc d)=>some (.xc (af L ρ) d)
   |none=>none
 |.zI,_=>some (.rt .non)
 |.ife c L a b,ρ=>match evT G cl c (af L ρ) with
  |some true=>run a ρ
  |some false=>run b ρ
  |none=>none
 |.for t it L b,ρ=>match evI G cl it (af L ρ) with
  |some its=>forL t (run b) its (af L ρ)
  |none=>none
 |.whl c L b,ρ=>fN (fun ρ=>evT G cl c (af L ρ)) (run b) (turns ρ) ρ
 |.rse x es L,ρ=>match evA G cl es (af L ρ) with
  |some ds=>match G.exc x with
   |some (C,fs)=>if ds.length=fs.length∧ds.length<=1000 then some (.xc (af L ρ) (.exc C (fs.zip ds))) else none
   |none=>none
  |none=>none
 |.try b x i h,ρ=>match run b ρ with
  |some (.xc ρ1 (.exc C fs))=>(match G.glob x with
   |some (.cl CE)=>if G.sub C CE=some true∧i<ρ1.length then (match run h (ρ1.set i (.val (.exc C fs))) with
    |some (.nx ρ2)=>some (.nx (ρ2.set i .nil))
    |some (.xc _ _)=>none
    |o=>o) else none
   |_=>none)
  |some (.xc _ _)=>none
  |o=>o
 |.pass,ρ=>some (.nx ρ)
 |.fgt L,ρ=>some (.nx (fH L ρ))
 |.mov j i,ρ=>match ρ[i]? with
  |some (.owx c)=>if i≠j∧j<ρ.length then some (.nx ((ρ.set i .any).set j (.owx c))) else none
  |some (.val d)=>if j<ρ.length then some (.nx (ρ.set j (.val d))) else none
  |_=>none
noncomputable def run:List CS'->Rho->Option Oc
 |[],ρ=>some (.nx ρ)
 |s::r,ρ=>match aa s ρ with
  |some (.nx ρ')=>run r ρ'
  |o=>o
end
noncomputable def c_ (C:Option Addr) (d:Def) (ds:List D):Option Rs:=
 match C with
 |none=>if ds.length=d.au∧d.init=false then
   match run G cl d.body (ds.map .val++List.replicate (d.slots - ds.length) .nil) with
   |some (.nx _)=>some (.ok .non)
   |some (.rt x)=>some (.ok x)
   |some (.fr c)=>some (.fr c)
   |some (.xc _ x)=>some (.xc x)
   |none=>none
  else none
 |some C=>if ds.length+1=d.au∧d.init=true then
   match run G cl d.body (.new C 0 0 []::(ds.map .val++List.replicate (d.slots - (ds.length+1)) .nil)) with
   |some (.nx ρ)=>(match (ρ[(0:Nat)]?:Option Sl) with|some (.new C' _ _ fs)=>if C'=C then some (.ok (.ins C fs)) else none|_=>none)
   |some (.xc _ x)=>some (.xc x)
   |_=>none
  else none
end
noncomputable def kal (G:Prg):Nat->Str->List D->Option Rs
 |0,_,_=>none
 |n+1,k,ds=>match G.defs k with
  |some (C,d)=>c_ G (kal G n) C d ds
  |none=>none
end IN
namespace IN
open PySem PySem.Spec L2 CT
open PyProof.Rows hiding St
mutual
noncomputable def fvE:CE->List Nat
 |.var i=>[i]
 |.bin _ a b=>fvE a++fvE b|.neg a=>fvE a|.nt a=>fvE a|.and a b=>fvE a++fvE b|.or a b=>fvE a++fvE b
 |.cmp _ a b=>fvE a++fvE b|.isN a=>fvE a|.jj a=>fvE a|.chn a b c=>fvE a++fvE b++fvE c|.ife a b c=>fvE a++fvE b++fvE c
 |.tup es=>fvA es|.lst es=>fvA es|.ix a b=>fvE a++fvE b|.sl a b c=>fvE a++fvE b++fvE c
 |.fld a _=>fvE a|.blt _ es=>fvA es|.fn _ es=>fvA es|.mth o _ es=>fvE o++fvA es
 |.comp _ cap _ it _ _=>cap++fvE it
 |.emit e=>fvE e|.loop _ _ _ _=>[]|.nop=>[]|.lit _=>[]|.gl _=>[]|.mD=>[]
noncomputable def fvA:List CE->List Nat
 |[]=>[]
 |e::es=>fvE e++fvA es
end
noncomputable def uniq:List Nat->List Nat
 |[]=>[]
 |x::xs=>if xs.contains x then uniq xs else x::uniq xs
noncomputable def fvU (e:CE):List Nat:=uniq (fvE e)
noncomputable def idx (N:List Str) (x:Str):Option Nat:=N.findIdx? (·==x)
noncomputable def ic (sc:Scope) (x:Str):Bool:=match sc.names.lookup x with
 |some .local=>true|some .cell=>true|some .free=>true|_=>false
noncomputable def lL (sc:Scope) (x:Str):Bool:=match sc.names.lookup x with
 |some .local=>true|some .cell=>true|_=>false
noncomputable def glB (sc:Scope) (x:Str):Bool:=match sc.names.lookup x with
 |some .globalImplicit=>true|_=>false
noncomputable def bP (x:Str):Bool:=!(x==("__debug__":Str))&&!(x==("__classdict__":Str))&&!(x==("__name__":Str))
noncomputable def oh (sc:Scope) (N:List Str) (x:Str):Option CE:=
 if bP x then
  match idx N x with
  |some i=>if ic sc x then some (.var i) else none
  |none=>if glB sc x then some (.gl x) else none
 else none
noncomputable def opC:Operator->Option BO
 |.Add=>some .add|.Sub=>some .sub|.Mult=>some .mul|.Mod=>some .mod|.FloorDiv=>some .fdiv|.Pow=>some .pow|.RShift=>some .shr|_=>none
noncomputable def coC:CmpOp->Option CO
 |.Lt=>some .lt|.LtE=>some .le|.Gt=>some .gt|.GtE=>some .ge|.Eq=>some .eq|.NotEq=>some .ne|.Is=>some .is|.IsNot=>some .isn|.In=>some .inn|.NotIn=>some .nin
noncomputable def bnC (x:Str):Option BN:=
 if x="len" then some .len else if x="sum" then some .sum else if x="all" then some .all else if x="any" then some .any
 else if x="abs" then some .abs else if x="int" then some .int else if x="tuple" then some .tuple
 else if x="list" then some .list else if x="dict" then some .dict else if x="min" then some .min else if x="max" then some .max
 else if x="isinstance" then some .isin else if x="range" then some .range else if x="zip" then some .zip else if x="enumerate" then some .enum
 else none
noncomputable def gy:Expr->Bool
 |.Call (.Name _ _) [] [] _=>false
 |_=>true
noncomputable def bx:Expr->Bool
 |.Starred _ _=>false
 |_=>true
noncomputable def pP:Expr->Bool
 |.Slice _ _ _ _=>false
 |_=>true
noncomputable def fT:Expr->Bool
 |.Set _ _ _=>false
 |_=>true
noncomputable def gi (tg:Expr):Expr->Bool
 |.Set _ _ _=>false
 |.Call (.Name x _) _ _ _=>(!(x==("zip":Str))&&!(x==("enumerate":Str)))||(match tg with|.Tuple _ _ _=>true|_=>false)
 |_=>true
noncomputable def gV (sc:Scope):Expr->Expr->Bool
 |.Tuple ts _ _,.Tuple vs _ _=>(ts.filterMap fun
  |.Name id pos=>if sc.names.lookup id==some .local&&pos.line==(ts.head?.map (·.pos.line)).getD 0 then some id else none
  |_=>none).length !=ts.length&&(ts.length==2||ts.length==3)&&vs.length==ts.length&&!(vs.any fun|.Starred ..=>true|_=>false)
 |.Tuple _ _ _,_=>true
 |.Name _ _,_=>true
 |_,_=>false
noncomputable def qo:Expr->Bool
 |.Tuple _ _ _=>true
 |_=>false
noncomputable def qw:Const->Option CE
 |.int i=>some (.lit (.int i))|.bool b=>some (.lit (.bl b))|.none=>some (.lit .non)|.str s=>some (.lit (.str s))|_=>none
noncomputable def ownOf (scope:Scope):List Str:=(scope.names.filter fun p=>(p.2==.local||p.2==.cell)&&!(p.1==(".0":Str))).map (·.1)
noncomputable def b5 (scope:Scope) (N:List Str):List (Str×Nat):=scope.names.filterMap fun p=>if p.2==.free then (idx N p.1).map fun i=>(p.1,i) else none
mutual
noncomputable def cTg (sc:Scope) (N:List Str):Nat->Expr->Option Tg
 |0,_=>none
 |n+1,e=>match e with
  |.Name x _=>if bP x&&lL sc x then (idx N x).map .nm else none
  |.Tuple es _ _=>if es.all bx then (eG sc N n es).map .tp else none
  |_=>none
noncomputable def eG (sc:Scope) (N:List Str):Nat->List Expr->Option (List Tg)
 |0,_=>none
 |n+1,es=>match es with
  |[]=>some []
  |e::r=>match cTg sc N n e,eG sc N n r with
   |some t,some ts=>some (t::ts)
   |_,_=>none
end
noncomputable def lB (op:CmpOp) (b:Expr):Option Bool:=match b with
 |.Constant c _ _=>match c with
  |.none=>match op with
   |.Is=>some true
   |.IsNot=>some false
   |_=>none
  |_=>none
 |_=>none
noncomputable def lel:List CmpOp->Bool
 |[a,b]=>match a with
  |.LtE=>match b with
   |.Lt=>true
   |_=>false
  |_=>false
 |_=>false
mutual
noncomputable def cE:Nat->Scope->List Str->Expr->Option CE
 |0,_,_,_=>none
 |n+1,sc,N,e=>match e with
  |.Constant c _ _=>qw c
  |.Name x _=>oh sc N x
  |.BinOp a op b _=>match opC op,cE n sc N a,cE n sc N b with
   |some o,some x,some y=>some (.bin o x y)
   |_,_,_=>none
  |.UnaryOp op a _=>match op with
   |.USub=>(cE n sc N a).map .neg
   |.Not=>(cE n sc N a).map .nt
   |_=>none
  |.BoolOp op es _=>match es with
   |a::b::r=>cB n sc N op (a::b::r)
   |_=>none
  |.Compare a ops bs _=>match bs with
   |[b]=>match ops with
    |[op]=>match lB op b with
     |some true=>(cE n sc N a).map .isN
     |some false=>(cE n sc N a).map .jj
     |none=>match coC op,cE n sc N a,cE n sc N b with
      |some o,some x,some y=>if fT b then some (.cmp o x y) else none
      |_,_,_=>none
    |_=>none
   |[b,c]=>if lel ops then match cE n sc N a,cE n sc N b,cE n sc N c with
     |some x,some y,some z=>if fT b&&fT c then some (.chn x y z) else none
     |_,_,_=>none
    else none
   |_=>none
  |.IfExp c a b _=>match cE n sc N c,cE n sc N a,cE n sc N b with
   |some z,some x,some y=>some (.ife z x y)
   |_,_,_=>none
  |.Tuple es _ _=>(cA n sc N es).map .tup
  |.List es _=>(cA n sc N es).map .lst
  |.Dict ks vs _=>match ks with
   |[]=>match vs with
    |[]=>some .mD
    |_=>none
   |_=>none
  |.Subscript a b _=>match b with
   |.Slice lo hi st _=>match st with
    |none=>match cE n sc N a,cO n sc N lo,cO n sc N hi with
     |some x,some y,some z=>some (.sl x y z)
     |_,_,_=>none
    |_=>none
   |b=>match cE n sc N a,cE n sc N b with
    |some x,some y=>if pP b then some (.ix x y) else none
    |_,_=>none
  |.Attribute a f _=>if gy a then (cE n sc N a).map fun x=>.fld x f else none
  |.Call f args ks cp=>match ks with
   |[]=>match f with
    |.Name x _=>if bP x&&glB sc x&&(idx N x).isNone then
     match cA n sc N args with
     |some es=>match bnC x with
      |some b=>some (.blt b es)
      |none=>some (.fn x es)
     |none=>none
     else none
    |.Attribute o m ap=>if gy o&&decide (args.length<30)&&(ap.endLine==cp.line) then
     match cE n sc N o,cA n sc N args with
     |some x,some es=>some (.mth x m es)
     |_,_=>none
     else none
    |_=>none
   |_=>none
  |.ListComp elt gs scope _=>match gs with
   |⟨tg,it,ifs,0⟩::gens=>
    if oJ scope (ownOf scope) (b5 scope N) sc N&&gi tg it then
     match cTg (iJ scope sc) (ownOf scope++(b5 scope N).map (·.1)) n tg,cE n sc N it,cIf n (iJ scope sc) (ownOf scope++(b5 scope N).map (·.1)) ifs,cG n (iJ scope sc) (ownOf scope++(b5 scope N).map (·.1)) gens elt with
     |some t,some i,some c,some b=>some (.comp (ownOf scope).length ((b5 scope N).map (·.2)) t i c b)
     |_,_,_,_=>none
    else none
   |_=>none
  |_=>none
noncomputable def cA:Nat->Scope->List Str->List Expr->Option (List CE)
 |0,_,_,_=>none
 |n+1,sc,N,es=>match es with
  |[]=>some []
  |e::r=>match cE n sc N e,cA n sc N r with
   |some x,some xs=>some (x::xs)
   |_,_=>none
noncomputable def cB:Nat->Scope->List Str->BoolOp->List Expr->Option CE
 |0,_,_,_,_=>none
 |n+1,sc,N,op,es=>match es with
  |[]=>none
  |[e]=>cE n sc N e
  |e::f::r=>match op,cE n sc N e,cB n sc N op (f::r) with
   |.And,some x,some y=>some (.and x y)
   |.Or,some x,some y=>some (.or x y)
   |_,_,_=>none
noncomputable def cO:Nat->Scope->List Str->Option Expr->Option CE
 |0,_,_,_=>none
 |n+1,sc,N,e=>match e with
  |none=>some .nop
  |some e=>cE n sc N e
noncomputable def cIf:Nat->Scope->List Str->List Expr->Option CE
 |0,_,_,_=>none
 |n+1,sc,N,es=>match es with
  |[]=>some (.lit (.bl true))
  |[e]=>cE n sc N e
  |_=>none
noncomputable def cG:Nat->Scope->List Str->List Comprehension->Expr->Option CE
 |0,_,_,_,_=>none
 |n+1,sc,N,gens,elt=>match gens with
  |[]=>(cE n sc N elt).map .emit
  |⟨tg,it,ifs,0⟩::r=>if gi tg it then
    match cTg sc N n tg,cE n sc N it,cIf n sc N ifs,cG n sc N r elt with
    |some t,some i,some c,some b=>some (.loop t i c b)
    |_,_,_,_=>none
   else none
  |_=>none
end
mutual
noncomputable def er1:CS'->CS'
 |.ife c L a b=>.ife c L (erL a) (erL b)
 |.for t it L b=>.for t it L (erL b)
 |.whl c L b=>.whl c L (erL b)
 |.try b x i h=>.try (erL b) x i h
 |.mov j i=>.asg (.nm j) (.var i) [i]
 |s=>s
noncomputable def erL:List CS'->List CS'
 |[]=>[]
 |s::r=>match s with
  |.fgt _=>erL r
  |s=>er1 s::erL r
end
noncomputable def cq:Expr->Bool
 |.ListComp _ _ _ _=>true|.SetComp _ _ _ _=>true|.DictComp _ _ _ _ _=>true
 |_=>false
noncomputable def nmV:Expr->Option (Str×Pos)
 |.Name x p=>some (x,p)
 |_=>none
noncomputable def om:Expr->Option (Expr×Expr)
 |.Tuple vs _ _=>match vs with
  |[a,b]=>some (a,b)
  |_=>none
 |_=>none
noncomputable def um (es:List Expr) (e:Expr):Option ((Str×Pos)×(Str×Pos)×Expr×Expr):=match es with
 |[t1,t2]=>match nmV t1,nmV t2,om e with
  |some p,some q,some (a,b)=>some (p,q,a,b)
  |_,_,_=>none
 |_=>none
noncomputable def kW (n:Nat) (sc:Scope) (N:List Str) (tg e:Expr):Option CS':=match cTg sc N n tg,cE n sc N e with
 |some t,some ce=>if gV sc tg e&&(!cq e||!qo tg) then some (.asg t ce (fvU ce)) else none
 |_,_=>none
noncomputable def uW (n:Nat) (sc:Scope) (N:List Str) (tg e:Expr):Option CS':=match tg with
 |.Tuple es k p=>match um es e with
  |some ((x,px),(y,py),a,b)=>match idx N x,idx N y,cE n sc N a,cE n sc N b with
   |some i,some j,some ca,some cb=>if bP x&&bP y&&(sc.names.lookup x==some .local)&&(sc.names.lookup y==some .local)&&(px.line==py.line)&&!([a,b].all (foldedForSure 8))&&!([a,b].all (constantsAlone 8))
     then some (.par i j ca cb (uniq (fvE ca++fvE cb))) else none
   |_,_,_,_=>none
  |none=>kW n sc N (.Tuple es k p) e
 |.Subscript b k _=>match nmV b with
  |some (x,_)=>match idx N x,cE n sc N k,cE n sc N e with
   |some i,some ck,some ce=>if bP x&&ic sc x&&!cq e then some (.put i ck ce (uniq (fvE ck++fvE ce))) else none
   |_,_,_=>none
  |none=>none
 |.Attribute b f _=>match nmV b with
  |some (x,_)=>match idx N x,cE n sc N e with
   |some 0,some ce=>if bP x&&ic sc x&&!cq e then some (.f_ f ce (fvU ce)) else none
   |_,_=>none
  |none=>none
 |tg=>kW n sc N tg e
noncomputable def yu (n:Nat) (sc:Scope) (N:List Str) (ts:List Expr) (e:Expr):Option CS':=match ts with
 |[tg]=>uW n sc N tg e
 |_=>none
noncomputable def tw:Option Expr->Option (Str×List Expr)
 |some e=>match e with
  |.Call f args ks _=>match ks with
   |[]=>match nmV f with
    |some (x,_)=>some (x,args)
    |none=>none
   |_=>none
  |_=>none
 |none=>none
noncomputable def tR:List ExceptHandler->Option (Str×Str×List Stmt)
 |[h]=>match h with
  |.ExceptHandler t nm body _=>match t,nm with
   |some t,some x=>match nmV t with
    |some (c,_)=>some (c,x,body)
    |none=>none
   |_,_=>none
 |_=>none
noncomputable def stV:List Stmt->Option (Str×Str)
 |[s]=>match s with
  |.Assign ts v _=>match ts with
   |[t]=>match nmV t,nmV v with
    |some (y,_),some (x,_)=>some (y,x)
    |_,_=>none
   |_=>none
  |_=>none
 |_=>none
noncomputable def cExp (n:Nat) (sc:Scope) (N:List Str):Expr->Option CS'
 |.Constant (.str _) _ _=>some .pass
 |.Call (.Attribute (.Name x xp) m ap) args [] cp=>
   if m="append" then match idx N x,args with
    |some i,[a]=>if bP x&&ic sc x&&(ap.endLine==cp.line) then (cE n sc N a).map fun ca=>.app i ca (fvU ca) else none
    |_,_=>none
   else if m="clear" then match idx N x,args with
    |some i,[]=>if bP x&&ic sc x&&(ap.endLine==cp.line) then some (.clr i) else none
    |_,_=>none
   else (cE n sc N (.Call (.Attribute (.Name x xp) m ap) args [] cp)).map fun x=>.exp x (fvU x)
 |e=>if !cq e then (cE n sc N e).map fun x=>.exp x (fvU x) else none
mutual
noncomputable def cS1:Nat->Scope->List Str->Stmt->Option CS'
 |0,_,_,_=>none
 |n+1,sc,N,s=>match s with
  |.Pass _=>some .pass
  |.Return o _=>match o with
   |none=>some .zI
   |some e=>(cE n sc N e).map fun x=>.ret x (fvU x)
  |.Assign ts e _=>yu n sc N ts e
  |.Expr e _=>cExp n sc N e
  |.If c a b _=>match cE n sc N c,cS n sc N a,cS n sc N b with
   |some x,some y,some z=>some (.ife x (fvU x) y z)
   |_,_,_=>none
  |.For tg it b els _=>if gi tg it&&els.isEmpty then match cTg sc N n tg,cE n sc N it,cS n sc N b with
   |some t,some x,some y=>some (.for t x (fvU x) y)
   |_,_,_=>none
   else none
  |.While c b els _=>match cE n sc N c,cS n sc N b with
   |some x,some y=>if els.isEmpty then some (.whl x (fvU x) y) else none
   |_,_=>none
  |.Raise ex cause _=>match cause,tw ex with
   |none,some (x,args)=>if bP x&&glB sc x&&(idx N x).isNone then (cA n sc N args).map fun es=>.rse x es (uniq (fvA es)) else none
   |_,_=>none
  |.Try b hs els fin _=>match tR hs with
   |some (c,x,hb)=>match stV hb with
    |some (y,x')=>match cS n sc N b,idx N x,idx N y with
     |some cb,some i,some j=>if bP c&&glB sc c&&(idx N c).isNone&&(sc.names.lookup x==some .local)&&x'==x&&bP x&&bP y&&lL sc y&&els.isEmpty&&fin.isEmpty then some (.try cb c i [.asg (.nm j) (.var i) [i]]) else none
     |_,_,_=>none
    |none=>none
   |none=>none
  |_=>none
noncomputable def cS:Nat->Scope->List Str->List Stmt->Option (List CS')
 |0,_,_,_=>none
 |n+1,sc,N,ss=>match ss with
  |[]=>some []
  |s::r=>match cS1 n sc N s,cS n sc N r with
   |some x,some xs=>some (x::xs)
   |_,_=>none
end
end IN
namespace IN
open PySem PySem.Spec PySem.W L2 CT
open PyProof.Rows hiding St
theorem iP:∀{xs:List D} {bs:List Bool},boolsOf xs=some bs->xs=bs.map .bl
 |[],bs,h=>by cases h;rfl
 |.bl b::r,bs,h=>by
  unfold boolsOf at h
  split at h
  ·rename_i l e;cases h;rw [iP e];rfl
  ·cases h
 |.int _::_,_,h=>by cases h
 |.non::_,_,h=>by cases h
 |.str _::_,_,h=>by cases h
 |.tup _::_,_,h=>by cases h
 |.lst _::_,_,h=>by cases h
 |.ins _ _::_,_,h=>by cases h
 |.exc _ _::_,_,h=>by cases h
 |.ty _::_,_,h=>by cases h
 |.cl _::_,_,h=>by cases h
 |.dct _::_,_,h=>by cases h
 |.pdc _::_,_,h=>by cases h
theorem bV {d:D} {xs:List D} (h:aL d=some xs):Sq d xs:=by
 cases d<;>first|(cases h;done)|(cases h;constructor)
theorem xF {i j:Int} (h:b9 i j=true):iI i j∨jc i j:=by
 unfold b9 at h
 simp only [Bool.or_eq_true,Bool.and_eq_true,decide_eq_true_eq] at h
 rcases h with (h|h)|h
 ·exact .inl (.inl ⟨by omega,by omega⟩)
 ·exact .inl (.inr ⟨by omega,by omega⟩)
 ·exact .inr h
theorem gU {j:Int} (h:fJ j=true): -(2^62)<=j∧j<2^62:=by
 unfold fJ at h
 simp only [Bool.and_eq_true,decide_eq_true_eq] at h
 omega
theorem gD {f:D->Option (List D)}:∀{its out:List D},ij f its=some out->∃outs:List (List D),its.length=outs.length∧out=outs.flatten∧∀(i:Nat) d o,its[i]?=some d->outs[i]?=some o->f d=some o
 |[],out,h=>by cases h;exact ⟨[],rfl,rfl,fun i d o h=>by simp at h⟩
 |x::xs,out,h=>by
  unfold ij at h
  split at h
  ·rename_i o1 e1
   split at h
   ·rename_i ys e2
    cases h
    obtain ⟨outs,h1,h2,h3⟩:=gD e2
    refine ⟨o1::outs,by simp [h1],by rw [h2];rfl,fun i d o hd ho=>?_⟩
    cases i with
    |zero=>simp at hd ho;subst hd ho;exact e1
    |succ i=>exact h3 i d o (by simpa using hd) (by simpa using ho)
   ·cases h
  ·cases h
structure Le (ρ ρ':Rho):Prop where
 len:ρ.length=ρ'.length
 val:∀(i:Nat) (d:D),ρ[i]?=some (.val d)->ρ'[i]?=some (.val d)
 nil:∀(i:Nat),ρ[i]?=some .nil->ρ'[i]?=some .nil
theorem Le.set {ρ ρ':Rho} (l:Le ρ ρ') (k:Nat) (s:Sl):Le (ρ.set k s) (ρ'.set k s):=by
 have key:∀(i:Nat) (y:Sl),(ρ[i]?=some y->ρ'[i]?=some y)->(ρ.set k s)[i]?=some y->(ρ'.set k s)[i]?=some y:=fun i y hy h=>by
  by_cases e:k=i
  ·subst e
   have hi:k<ρ.length:=by have:=(List.getElem?_eq_some_iff.mp h).1;simpa using this
   rw [List.getElem?_set_self hi] at h
   rw [List.getElem?_set_self (l.len▸hi)];exact h
  ·rw [List.getElem?_set_ne e] at h ⊢;exact hy h
 exact ⟨by simpa using l.len,fun i d h=>key i _ (l.val i d) h,fun i h=>key i _ (l.nil i) h⟩
theorem uq {o:Option Sl} {d:D} (h:aO o=some d):o=some (.val d):=by
 cases o with
 |none=>cases h
 |some s=>cases s<;>first|(cases h;done)|(cases h;rfl)
theorem qI {o:Option Sl} (h:isNil o=true):o=some .nil:=by
 cases o with
 |none=>cases h
 |some s=>cases s<;>first|(cases h;done)|rfl
theorem tm {ρ ρ':Rho} (l:Le ρ ρ') {i:Nat} {d:D} (h:cy ρ[i]?=.val d):cy ρ'[i]?=.val d:=by
 cases q:ρ[i]? with
 |none=>rw [q] at h;cases h
 |some s=>
  rw [q] at h
  cases s with
  |val d'=>cases h;rw [l.val i d q];rfl
  |nil=>cases h
  |any=>cases h
  |owx c=>cases h
  |new C x dx fs=>cases h
theorem sM {ρ ρ':Rho} (l:Le ρ ρ') {i:Nat} (h:cy ρ[i]?=.nil):cy ρ'[i]?=.nil:=by
 cases q:ρ[i]? with
 |none=>rw [q] at h;cases h
 |some s=>
  rw [q] at h
  cases s with
  |val d'=>cases h
  |nil=>rw [l.nil i q];rfl
  |any=>cases h
  |owx c=>cases h
  |new C x dx fs=>cases h
theorem Le.cap {ρ ρ':Rho} (l:Le ρ ρ') (own:List Str) (cap:List (Str×Nat)):Le (eR own.length (cap.map (·.2)) ρ) (cR own cap ρ'):=by
 have e1:eR own.length (cap.map (·.2)) ρ=own.map (fun _=>Sl.nil)++cap.map fun p=>cy ρ[p.2]?:=by
  unfold eR
  rw [List.map_map,←List.map_const' (l:=own) (b:=Sl.nil)]
  rfl
 rw [e1]
 have go:∀(i:Nat) (y:Sl),(∀j,cy ρ[j]?=y->cy ρ'[j]?=y)->(own.map (fun _=>Sl.nil)++cap.map fun p=>cy ρ[p.2]?)[i]?=some y->(cR own cap ρ')[i]?=some y:=fun i y hy h=>by
  unfold cR
  by_cases hi:i<own.length
  ·rw [List.getElem?_append_left (by simpa using hi)] at h ⊢;exact h
  ·have hi':own.length<=i:=Nat.le_of_not_lt hi
   rw [List.getElem?_append_right (by simpa using hi'),List.getElem?_map,List.length_map] at h ⊢
   cases q:cap[i - own.length]? with
   |none=>rw [q] at h;cases h
   |some p=>
    rw [q] at h
    exact congrArg some (hy p.2 (Option.some.inj h))
 exact ⟨by simp [cR],fun i d h=>go i _ (fun j=>tm l) h,fun i h=>go i _ (fun j=>sM l) h⟩
theorem aK {e:Expr} (h:bx e=true):noStar e=true:=by cases e<;>first|rfl|cases h
theorem fD {tg it:Expr} (h:gi tg it=true) (env:Env) (x:Value):foldedSetIterable it env x=pure x:=by
 cases it<;>first|rfl|cases h
theorem jh {o:Expr} {f:Str} {env:Env} {m:Sem Value} (h:gy o=true):attributeBase o f env m=m:=by
 unfold attributeBase
 cases o with
 |Call fn args kws pos=>
  cases fn with
  |Name x p=>
   cases args with
   |nil=>cases kws with
    |nil=>cases h
    |cons=>rfl
   |cons=>rfl
  |_=>rfl
 |_=>rfl
theorem ng {b:Expr} (h:pP b=true):Ce b:=by
 intro o i
 cases b<;>first|rfl|cases h
theorem vD {op:CmpOp} {b:Expr} (h:fT b=true):behindInMarks op b=false:=by
 cases b<;>first|rfl|cases h
theorem t_ {op1 op2:CmpOp} {b c:Expr} (h:fT c=true):lastMarks [op1,op2] [b,c]=false:=by
 show behindInMarks op2 c=false
 exact vD h
theorem c8 {es:List Expr} {env:Env} {pos:Pos} (h:∀e∈es,bx e=true):(backTo pos (starEach es env)).any (·.1)=false:=by
 have go:∀es:List Expr,(∀e∈es,bx e=true)->∀p∈starEach es env,p.1=false:=by
  intro es
  induction es with
  |nil=>intro _ p hp;cases hp
  |cons e es ih=>
   intro h p hp
   rw [bD (aK (h e List.mem_cons_self))] at hp
   rcases List.mem_cons.mp hp with z|z
   ·rw [z]
   ·exact ih (fun e he=>h e (List.mem_cons_of_mem _ he)) p z
 rw [List.any_eq_false]
 intro p hp
 unfold backTo at hp
 obtain ⟨q,hq,rfl⟩:=List.mem_map.mp hp
 have:=go es h q hq
 simp [this]
theorem j6 {es:List Expr} {env:Env} {pos:Pos} (h:∀e∈es,bx e=true):(backTo pos (starEach es env)).all (fun x=>!x.1)=true:=by
 have:=c8 (env:=env) (pos:=pos) h
 rw [List.all_eq_true]
 intro p hp
 rw [List.any_eq_false] at this
 have:=this p hp
 simpa using this
theorem rM {o:Expr} {m:Str} {args:List Expr} {ap cp:Pos} {env:Env} (hb:gy o=true) (hs:∀e∈args,bx e=true) (hl:args.length<30) (hp:(ap.endLine==cp.line)=true):
  eval (.Call (.Attribute o m ap) args [] cp) env=(do
   let ov←eval o env
   standAt ap.atName
   let (f,first)←holding [ov] (getMethod ov m (do return (←importBound o env).getD true))
   callWith cp f first (backTo cp (starEach args env)) (backToKw cp (keywordEach [] env))):=by
 have few:methodCallForm (args.length+([]:List Keyword).length) (backTo cp (starEach args env)) (backToKw cp (keywordEach [] env))=true:=by
  unfold methodCallForm
  rw [j6 hs]
  simp [keywordEach,backToKw,hl]
 rw [arm_eval_Call]
 rw [jh hb]
 unfold methodCall
 rw [few]
 unfold calleeOf methodCallPos
 simp only [if_true,hp,Bool.not_true,Bool.false_or]
 rfl
end IN
namespace IN
open PySem PySem.Spec PySem.W L2 CT
open PyProof.Rows hiding St
noncomputable def tv:Tag->Value
 |.ty n=>.type n|.cl C=>.ref C|.xc C=>.ref C
structure Lk (K:Frag) (G:Prg) (key:Str) (C:Option Addr) (d:Def) (f:Addr) (fd:FuncData) (ps:List Str):Prop where
 df:G.defs key=some (C,d)
 bind:Binds K fd ps []
 kp:keepIn K (.ref f)=true
 ex:∃x qual st N,Fun K x qual st f fd∧bA N ps (ah st)∧cS 60 (ah st) N (aR st)=some (erL d.body)∧d.slots=N.length∧d.au=ps.length
 ini:d.init=C.isSome
structure Xc (P:Program) (w:World) (K:Frag) (mg:Str->Option Value) (base:Heap) (x:Str) (C:Addr) (fs:List Str):Prop where
 mg_:mg x=some (.ref C)
 cl:br K C
 ty:typeIn K (.ref C)=some (.type "type")
 zero:fs=[]->excIn K C bmV "ValueError.__new__"=true∧keepIn K (.ref C)=true
 some:fs≠[]->∃f fd ps,XMk K C f∧aw P w K mg base CX0 1 f fd ps (spX C fs)∧Binds K fd ps []
structure Row (P:Program) (w:World) (K:Frag) (mg:Str->Option Value) (base:Heap) (G:Prg):Prop where
 blt:∀x b,bnC x=some b->mg x=none
 glob:∀(X:Cx),X.K=K->X.mg=mg->∀x d,G.glob x=some d->bP x=true->Gl X x->∀ρ pos,DE X ρ (.Name x pos) d
 uI:∀x C,G.glob x=some (.cl C)->mg x=some (.ref C)
 kit:∀t u q,G.kit t u=some q->kitOne K (tv t) (tv u)=some q∧(∀C,t=.cl C->Isi K C)∧(∀C,t=.xc C->iK K C)
 fn:∀x key,G.fn x=some key->∃d f fd ps,mg x=some (.ref f)∧Lk K G key none d f fd ps
 ini:∀x C key,G.ini x=some (C,key)->∃d f fd ps,mg x=some (.ref C)∧Mk K C f∧Lk K G key (some C) d f fd ps
 mth:∀C m key,G.mth C m=some key->∃d f fd ps,Meth K C m f∧Cls K C∧Lk K G key none d f fd ps
 fok:∀C f,G.fok C f=true->Cls K C∧a7 K C f
 xok:∀C f,G.xok C f=true->br K C∧a7 K C f
 exc:∀x C fs,G.exc x=some (C,fs)->Xc P w K mg base x C fs
 sub:∀C E b,G.sub C E=some b->mroIn K C (.ref E)=some b∧l8 K E
noncomputable def prR (cl:Str->List D->Option Rs) (key:Str) (ds:List D):Res->Prop
 |.ok d=>∃r,cl key ds=some r∧r.val=some d
 |.xc d=>cl key ds=some (.xc d)
noncomputable def prF (cl:Str->List D->Option Rs) (key:Str) (ds:List D) (c:Ow):Prop:=cl key ds=some (.fr c)
noncomputable def prI (cl:Str->List D->Option Rs) (C:Addr) (key:Str) (ds:List D):mJ->Prop
 |.ok fs=>cl key ds=some (.ok (.ins C fs))
 |.xc d=>cl key ds=some (.xc d)
structure Calls (P:Program) (w:World) (K:Frag) (mg:Str->Option Value) (base:Heap) (G:Prg) (k:Nat) (cl:Str->List D->Option Rs):Prop where
 fn:∀key d f fd ps,Lk K G key none d f fd ps->aw P w K mg base (CXA P w) k f fd ps (spR K (prR cl key))
 fr:∀key d f fd ps,Lk K G key none d f fd ps->aw P w K mg base CX0 k f fd ps (jM K (prF cl key))
 ini:∀key C d f fd ps,Lk K G key (some C) d f fd ps->aw P w K mg base (CXA P w) k f fd ps (jH K C (prI cl C key))
 insI:∀key C d f fd ps,Lk K G key (some C) d f fd ps->∀ds r,cl key ds=some r->(∃fs,r=.ok (.ins C fs))∨∃d,r=.xc d
structure XE (ca:Bool) (P:Program) (wd:World) (K:Frag) (mg:Str->Option Value) (base:Heap) (X:Cx) (sc:Scope) (N:List Str) (w k:Nat):Prop where
 p_:X.prog=P
 w_:X.w=wd
 K_:X.K=K
 mg_:X.mg=mg
 fY:X.base=base
 sc_:X.env.scope=sc
 N_:X.N=N
 nd:N.Nodup
 kU:ca=true->X.calm=true
 k7:ca=true->ay k X.A
 units:X.A.units+64<cLine
 nox:∀e s,¬X.xe e s
 fn:∀(i:Nat) (x:Str),i<w->N[i]?=some x->X.fn x=true
section
variable {ca:Bool} {P:Program} {wd:World} {K:Frag} {mg:Str->Option Value} {base:Heap} {X:Cx} {sc:Scope} {N:List Str} {w k:Nat} {G:Prg} {cl:Str->List D->Option Rs} {ρ:Rho} {e:Expr} {ce:CE} {d:D}
theorem XE.calm (x:XE true P wd K mg base X sc N w k):X.calm=true:=x.kU rfl
theorem XE.room (x:XE true P wd K mg base X sc N w k):ay k X.A:=x.k7 rfl
theorem XE.gl (x:XE ca P wd K mg base X sc N w k) {n:Str} (h:glB sc n=true):Gl X n:=by
 show X.env.scope.names.lookup n=_
 rw [x.sc_]
 unfold glB at h
 split at h
 ·assumption
 ·cases h
theorem XE.vis (x:XE ca P wd K mg base X sc N w k) {n:Str} (h:ic sc n=true):Vis X.env.scope n:=by
 rw [x.sc_]
 unfold ic at h
 split at h
 ·exact .inl (by assumption)
 ·exact .inr (.inl (by assumption))
 ·exact .inr (.inr (by assumption))
 ·cases h
theorem XE.loc (x:XE ca P wd K mg base X sc N w k) {n:Str} (h:lL sc n=true):L2.Loc X.env.scope n:=by
 rw [x.sc_]
 unfold lL at h
 split at h
 ·exact .inl (by assumption)
 ·exact .inr (by assumption)
 ·cases h
theorem XE.at (x:XE ca P wd K mg base X sc N w k) {n:Str} {i:Nat} (h:idx N n=some i):X.N[i]?=some n:=by
 rw [x.N_]
 unfold idx at h
 obtain ⟨hi,h1,_⟩:=List.findIdx?_eq_some_iff_getElem.mp h
 rw [List.getElem?_eq_getElem hi]
 exact congrArg some (by simpa using h1)
theorem dq {n:Str} (h:bP n=true):(n==("__debug__":Str))=false∧(n==("__classdict__":Str))=false∧n≠"__name__":=by
 unfold bP at h
 simp only [Bool.and_eq_true,Bool.not_eq_true'] at h
 exact ⟨h.1.1,h.1.2,fun z=>by rw [z] at h;exact absurd h.2 (by decide)⟩
structure OkE (G:Prg) (cl:Str->List D->Option Rs) (X:Cx) (e:Expr) (ce:CE):Prop where
 v:∀{ρ ρ' d},Le ρ ρ'->ev G cl ce ρ=some d->DE X ρ' e d
 t:∀{ρ ρ' b},Le ρ ρ'->evT G cl ce ρ=some b->DT X ρ' e b
 i:∀{ρ ρ' its tg},Le ρ ρ'->gi tg e=true->evI G cl ce ρ=some its->DI X tg ρ' e its
 c:∀{ρ ρ' r},cq e=true->Le ρ ρ'->evV G cl ce ρ=some r->∃c,r=.fr c∧DCx X ρ' e c
 vr:∀i,ce=.var i->∃y q,e=.Name y q∧X.N[i]?=some y∧Vis X.env.scope y∧(y==("__debug__":Str))=false∧(y==("__classdict__":Str))=false
 ro:∀i,ce=.var i->∀ρ c pos,ρ[i]?=some (.owx c)->DS X ρ (.Return (some e) pos) (.rfx c)
 w:∀{ρ ρ' r},Le ρ ρ'->evV G cl ce ρ=some r->(∀d,r.val=some d->DE X ρ' e d)∧(∀c,r=.fr c->DFx X ρ' e c)∧(∀d,r=.xc d->DEX X ρ' e d)
theorem OkE.of (hv:∀{ρ ρ' d},Le ρ ρ'->ev G cl ce ρ=some d->DE X ρ' e d) (ht:∀{ρ ρ' b},Le ρ ρ'->evT G cl ce ρ=some b->DT X ρ' e b)
  (hi:∀{ρ ρ' its tg},Le ρ ρ'->gi tg e=true->evI G cl ce ρ=some its->DI X tg ρ' e its) (hc:cq e=false)
  (hw:∀ρ,evV G cl ce ρ=match ev G cl ce ρ with|some d=>some (.ok d)|none=>none) (hro:∀i,ce=.var i->∀ρ c pos,ρ[i]?=some (.owx c)->DS X ρ (.Return (some e) pos) (.rfx c):=by intro i z;cases z) (hvr:∀i,ce=.var i->∃y q,e=.Name y q∧X.N[i]?=some y∧Vis X.env.scope y∧(y==("__debug__":Str))=false∧(y==("__classdict__":Str))=false:=by intro i z;cases z):OkE G cl X e ce:=by
 refine ⟨hv,ht,hi,fun z=>(by rw [hc] at z;cases z),hvr,hro,fun {ρ ρ' r} le h=>?_⟩
 rw [hw] at h
 split at h
 ·rename_i d0 q
  cases h
  exact ⟨fun d hd=>by cases hd;exact hv le q,(by intro c z;cases z),by intro d z;cases z⟩
 ·cases h
theorem eU {d:D} {its:List D} {tg:Expr} (h:DE X ρ e d) (hi:itD d=some its):DI X tg ρ e its:=by
 cases d<;>first|(cases hi;done)|(cases hi;exact qU h)|(cases hi;exact pQ h)|(cases hi;exact di_dct h)
theorem pS {a b:Expr} {x y:D} {op:Operator} {o:BO} {pos:Pos} (ho:opC op=some o) (ha:DE X ρ a x) (hb:DE X ρ b y) (h:d6 o x y=some d):DE X ρ (.BinOp a op b pos) d:=by
 unfold d6 at h
 split at h
 ·cases h;cases op<;>first|(cases ho;done)|(cases ho;exact zT ha hb)
 ·split at h
  ·cases h;cases op<;>first|(cases ho;done)|(cases ho;exact xx ha hb (by assumption))
  ·cases h
 ·split at h
  ·cases h;cases op<;>first|(cases ho;done)|(cases ho;exact w4 ha hb (by assumption))
  ·cases h
 ·cases h;cases op<;>first|(cases ho;done)|(cases ho;exact yO ha hb)
 ·split at h
  ·rename_i hm
   cases h
   cases op<;>first|(cases ho;done)|(cases ho;exact (xF hm).elim (fun z=>zj z ha hb) fun z=>vz z ha hb)
  ·cases h
 ·split at h
  ·split at h
   ·rename_i hz
    cases h
    cases op<;>first|(cases ho;done)|(cases ho;exact vm ha hb hz.1 (by omega))
   ·cases h
  ·cases h
 ·split at h
  ·cases h;cases op<;>first|(cases ho;done)|(cases ho;exact zE (by assumption) ha hb)
  ·cases h
 ·split at h
  ·cases h;cases op<;>first|(cases ho;done)|(cases ho;exact xB (show 0<_∧_<_ by omega) ha hb)
  ·cases h
 ·split at h
  ·rename_i hj
   cases h;cases op<;>first|(cases ho;done)|(cases ho;exact dw yx (fun x y H S Q rx ry dm k=>⟨_,_,rx.aX,ry.aX,hj,k _ H Ext.refl (.int _)⟩) ha hb)
  ·cases h
 ·cases h
theorem i4 {x y:D} (h:eI x y=true):aU x=true∧aU y=true∧min (toPy x).depth (toPy y).depth<=64:=by
 unfold eI at h
 simp only [Bool.and_eq_true,decide_eq_true_eq] at h
 exact ⟨h.1.1,h.1.2,h.2⟩
theorem Ao {a b:Expr} {x y:D} {op:CmpOp} {o:CO} {pos:Pos} {q:Bool} (hns:fT b=true) (hr:X.A.units+64<cLine) (ho:coC op=some o) (ha:DE X ρ a x) (hb:DE X ρ b y) (h:bF o x y=some q):DE X ρ (.Compare a [op] [b] pos) (.bl q):=by
 unfold bF at h
 split at h
 ·cases h;cases op<;>first|(cases ho;done)|(cases ho;exact A6 ha hb)
 ·cases h;cases op<;>first|(cases ho;done)|(cases ho;exact Bz ha hb)
 ·cases h;cases op<;>first|(cases ho;done)|(cases ho;exact Br ha hb)
 ·cases h;cases op<;>first|(cases ho;done)|(cases ho;exact BF ha hb)
 ·cases h;cases op<;>first|(cases ho;done)|(cases ho;exact y4 ha hb)
 ·cases h;cases op<;>first|(cases ho;done)|(cases ho;exact zi ha hb)
 ·cases h;cases op<;>first|(cases ho;done)|(cases ho;exact Ab ha hb)
 ·cases h;cases op<;>first|(cases ho;done)|(cases ho;exact qB ha hb)
 ·split at h
  ·rename_i hq
   obtain ⟨h1,h2,h3⟩:=i4 hq
   cases h;cases op<;>first|(cases ho;done)|(cases ho;exact zv hr h1 h2 h3 ha hb)
  ·cases h
 ·split at h
  ·rename_i hq
   obtain ⟨h1,h2,h3⟩:=i4 hq
   cases h;cases op<;>first|(cases ho;done)|(cases ho;exact ya hr h1 h2 h3 ha hb)
  ·cases h
 ·cases h
theorem wZ {a b:Expr} {x y:D} {op:CmpOp} {o:CO} {pos:Pos} {q:Bool} (hns:fT b=true) (hr:X.A.units+64<cLine) (ho:coC op=some o) (ha:DE X ρ a x) (hb:DE X ρ b y) (h:bF o x y=some q):DT X ρ (.Compare a [op] [b] pos) q:=by
 unfold bF at h
 split at h
 ·cases h;cases op<;>first|(cases ho;done)|(cases ho;exact Bk ha hb)
 ·cases h;cases op<;>first|(cases ho;done)|(cases ho;exact Bs ha hb)
 ·cases h;cases op<;>first|(cases ho;done)|(cases ho;exact Bc ha hb)
 ·cases h;cases op<;>first|(cases ho;done)|(cases ho;exact AS ha hb)
 ·cases h;cases op<;>first|(cases ho;done)|(cases ho;exact xM ha hb)
 ·cases h;cases op<;>first|(cases ho;done)|(cases ho;exact zV ha hb)
 ·cases h;cases op<;>first|(cases ho;done)|(cases ho;exact Aw ha hb)
 ·cases h;cases op<;>first|(cases ho;done)|(cases ho;exact qz ha hb)
 ·split at h
  ·rename_i hq
   obtain ⟨h1,h2,h3⟩:=i4 hq
   cases h;cases op<;>first|(cases ho;done)|(cases ho;exact zH hr h1 h2 h3 ha hb)
  ·cases h
 ·split at h
  ·rename_i hq
   obtain ⟨h1,h2,h3⟩:=i4 hq
   cases h;cases op<;>first|(cases ho;done)|(cases ho;exact zZ hr h1 h2 h3 ha hb)
  ·cases h
 ·cases h
theorem AJ {a b:Expr} {x y:D} {pos:Pos} (hr:X.A.units+64<cLine) (hs:pP b=true) (ha:DE X ρ a x) (hb:DE X ρ b y) (h:ixD x y=some d):DE X ρ (.Subscript a b pos) d:=by
 unfold ixD at h
 split at h
 ·exact xP ha hb h (ng hs)
 ·exact Au ha hb h (ng hs)
 ·cases h
theorem BC (R:Row P wd K mg base G) {t u:Tag} {q:Bool} (hd:zJ d=some t) (hq:G.kit t u=some q):TyD K d (tv t):=by
 obtain ⟨_,h1,h2⟩:=R.kit t u q hq
 cases d with
 |ins C fs=>cases hd;exact .ins fs (h1 C rfl)
 |exc C fs=>cases hd;exact .exc fs (h2 C rfl)
 |non=>cases hd;exact .non
 |bl b=>cases hd;exact .bl b
 |int i=>cases hd;exact .int i
 |str x=>cases hd;exact .str x
 |tup xs=>cases hd;exact .tup xs
 |lst xs=>cases hd;exact .lst xs
 |dct kvs=>cases hd;exact .dct kvs
 |pdc es=>cases hd;exact .pdc es
 |ty n=>cases hd
 |cl C=>cases hd
theorem yj (R:Row P wd X.K mg base G) {a b:Expr} {p pos:Pos} {c:D} {q:Bool} (hg:Gl X "isinstance") (hm:X.mg "isinstance"=none) (ha:DA X ρ [a,b] [d,c]) (n1:bx a=true) (n2:bx b=true) (h:cj G d c=some q):DE X ρ (.Call (.Name "isinstance" p) [a,b] [] pos) (.bl q):=by
 have he:=bD (es:=[b]) (env:=X.env) (aK n1)
 have hpl:=c8 (es:=[b]) (env:=X.env) (pos:=pos) (fun e he=>by rw [List.mem_singleton.mp he];exact n2)
 unfold cj at h
 split at h
 ·split at h
  ·rename_i hab
   obtain ⟨rfl,rfl⟩:=hab
   split at h
   ·rename_i n hn
    cases h
    obtain ⟨n',t1,t2⟩:=Cn (K:=X.K) (x:=d) (by rw [hn];exact fun z=>nomatch z)
    exact vB hg hm t1 (.cons (.ty _) (.cons (.ty _) .nil)) t2 ha he hpl
   ·cases h
  ·cases h
 ·split at h
  ·rename_i t u ht hu
   have hk:=(R.kit t u q h).1
   have cl:ClD c (tv u):=by
    cases c<;>first|(cases hu;done)|(cases hu;constructor)
   exact xO hg hm (BC R ht h) cl hk ha he hpl
  ·cases h
end
end IN
namespace IN
open PySem PySem.Spec PySem.W L2 CT
open PyProof.Rows hiding St
section
variable {X:Cx} {ρ:Rho} {k:Nat} {f C:Addr} {fd:FuncData} {ps:List Str} {x m:Str} {p pos apos:Pos} {e o:Expr} {es:List Expr} {ds:List D} {d:D}
theorem sW {Pr:List D->Ow->Prop} {cw:Ow} {fs:List (Str×D)} {pl:Sem Bool} (ho:DE X ρ o (.ins C fs)) (hl:fs.lookup m=none) (c:Cls X.K C) (hm:Meth X.K C m f) (F:aw X.prog X.w X.K X.mg X.base CX0 k f fd ps (jM X.K Pr)) (hr:ay k X.A) (hb:Binds X.K fd ps [])
  (ha:DA X ρ (e::es) ds) (hp:Pr (.ins C fs::ds) cw) (hst:starEach (e::es) X.env=(false,eval e X.env)::starEach es X.env) (hpl:(backTo pos (starEach es X.env)).any (·.1)=false)
  (ht:eval (.Call (.Attribute o m apos) (e::es) [] pos) X.env=(do
   let ov←eval o X.env
   standAt apos.atName
   let (f,first)←holding [ov] (getMethod ov m pl)
   callWith pos f first (backTo pos (starEach (e::es) X.env)) (backToKw pos (keywordEach [] X.env)))):
  DFx X ρ (.Call (.Attribute o m apos) (e::es) [] pos) cw:=PE.weak (nE ho c hm F hr hb .nil d9 ha hst hpl ht) fun σ H Q ⟨S,ve,kk⟩=>⟨S,ve,fun v H1 ex1 r1=>by
   obtain ⟨a,dx,gs,rfl,hh,rf⟩:=r1.gJ
   exact ⟨a,dx,gs,rfl,hh,rf.none hl,S,ve.ext ex1,fun vs H' ex r=>⟨S,_,cw,((ve.ext ex1).ext ex).dom,.cons (r1.ext (ex.to S)) (fC r),hp,fun a o H'' ex' hn ha r'=>kk a o H'' (ex1.trans (ex.trans ex')) (ex1.back (ex.back hn)) ha r'⟩⟩⟩
theorem rR {Pr:List D->Ow->Prop} {cw:Ow} {fs:List (Str×D)} {pl:Sem Bool} (ho:DE X ρ o (.ins C fs)) (hl:fs.lookup m=none) (c:Cls X.K C) (hm:Meth X.K C m f) (F:aw X.prog X.w X.K X.mg X.base CX0 k f fd ps (jM X.K Pr)) (hr:ay k X.A) (hb:Binds X.K fd ps [])
  (hp:Pr [.ins C fs] cw)
  (ht:eval (.Call (.Attribute o m apos) [] [] pos) X.env=(do
   let ov←eval o X.env
   standAt apos.atName
   let (f,first)←holding [ov] (getMethod ov m pl)
   callWith pos f first (backTo pos (starEach [] X.env)) (backToKw pos (keywordEach [] X.env)))):
  DFx X ρ (.Call (.Attribute o m apos) [] [] pos) cw:=PE.weak (lO ho c hm F hr hb .nil d9 ht) fun σ H Q ⟨S,ve,kk⟩=>⟨S,ve,fun v H1 ex1 r1=>by
   obtain ⟨a,dx,gs,rfl,hh,rf⟩:=r1.gJ
   exact ⟨a,dx,gs,rfl,hh,rf.none hl,S,_,cw,(ve.ext ex1).dom,.cons r1 .nil,hp,fun a us H'' ex' hn ha r'=>kk a us H'' (ex1.trans ex') (ex1.back hn) ha r'⟩⟩
end
noncomputable def nmB:BN->Str
 |.len=>"len"|.sum=>"sum"|.all=>"all"|.any=>"any"|.abs=>"abs"|.int=>"int"|.tuple=>"tuple"|.list=>"list"|.dict=>"dict"|.min=>"min"|.max=>"max"|.isin=>"isinstance"|.range=>"range"|.zip=>"zip"|.enum=>"enumerate"|.str=>"str"|.sorted=>"sorted"
theorem mn {c:Prop} [Decidable c] {α:Type} {a b:α} {o:Option α} (h:(if c then some a else o)=some b):(c∧a=b)∨o=some b:=by
 by_cases hc:c
 ·rw [if_pos hc] at h;exact .inl ⟨hc,Option.some.inj h⟩
 ·rw [if_neg hc] at h;exact .inr h
theorem iC {x:Str} {b:BN} (h:bnC x=some b):x=nmB b:=by
 unfold bnC at h
 repeat (rcases mn h with ⟨hx,hb⟩|h;(subst hb;exact hx))
 cases h
section
variable {P:Program} {wd:World} {K:Frag} {mg:Str->Option Value} {base:Heap} {X:Cx} {sc:Scope} {N:List Str} {w k kc:Nat} {G:Prg} {cl:Str->List D->Option Rs} {ρ:Rho} {e:Expr} {ce:CE} {d:D} {args:List Expr} {ds:List D} {p pos:Pos} {x:Str} {b:BN}
theorem qE (R:Row P wd K mg base G) (xe:XE true P wd K mg base X sc N w k) (hx:bnC x=some b) (hg:glB sc x=true) (ha:DA X ρ args ds) (hl:args.length=ds.length) (hs:∀e∈args,bx e=true) (h:cJ G b ds=some d):DE X ρ (.Call (.Name x p) args [] pos) d:=by
 have hm:=R.blt x b hx
 rw [←xe.mg_] at hm
 have g:=xe.gl hg
 have hn:=iC hx
 have hK:=xe.K_
 subst hK
 have one:∀{e:Expr},args=[e]->starEach [e] X.env=(false,eval e X.env)::starEach [] X.env:=fun {e} q=>bD (aK (hs e (by rw [q];simp)))
 cases b with
 |len=>
  dsimp only [nmB] at hn
  subst hn
  match ds,args,hl,h with
  |[d0],[e0],_,h=>
   unfold cJ at h
   dsimp only at h
   split at h
   ·rename_i xs hq;cases h;exact yk (bV hq) g hm ha (one rfl) rfl
   ·cases h
  |[],_,_,h=>cases h
  |_::_::_,_,_,h=>cases h
 |sum=>cases h
 |all=>
  dsimp only [nmB] at hn
  subst hn
  match ds,args,hl,h with
  |[d0],[e0],_,h=>
   unfold cJ at h
   dsimp only at h
   split at h
   ·rename_i xs hq
    split at h
    ·rename_i bs hb;cases h;exact zS xe.calm (by rw [←iP hb];exact bV hq) g hm ha (one rfl) rfl
    ·cases h
   ·cases h
  |[],_,_,h=>cases h
  |_::_::_,_,_,h=>cases h
 |any=>cases h
 |abs=>
  dsimp only [nmB] at hn
  subst hn
  match ds,args,hl,h with
  |[.int i],[e0],_,h=>cases h;exact yG g hm ha (one rfl) rfl
 |int=>
  dsimp only [nmB] at hn
  subst hn
  match ds,args,hl,h with
  |[.bl q],[e0],_,h=>cases h;exact wB g hm ha (one rfl) rfl
 |tuple=>
  dsimp only [nmB] at hn
  subst hn
  match ds,args,hl,h with
  |[d0],[e0],_,h=>
   unfold cJ at h
   dsimp only at h
   split at h
   ·rename_i xs hq;cases h;exact sA (bV hq) g hm ha (one rfl) rfl
   ·cases h
  |[],_,_,h=>cases h
  |_::_::_,_,_,h=>cases h
 |min=>cases h
 |max=>
  dsimp only [nmB] at hn
  subst hn
  match ds,args,hl,h with
  |[.int i,.int j],[e0,e1],_,h=>cases h;exact wG xe.calm g hm ha (bD (aK (hs e0 (by simp)))) (c8 fun e he=>hs e (List.mem_cons_of_mem _ he))
 |isin=>
  dsimp only [nmB] at hn
  subst hn
  match ds,args,hl,h with
  |[d0,c0],[e0,e1],_,h=>
   unfold cJ at h
   dsimp only at h
   split at h
   ·rename_i q hq;cases h;exact yj R g hm ha (hs e0 (by simp)) (hs e1 (by simp)) hq
   ·cases h
  |[],_,_,h=>cases h
  |[_],_,_,h=>cases h
  |_::_::_::_,_,_,h=>cases h
 |list=>cases h
 |dict=>cases h
 |range=>cases h
 |zip=>cases h
 |enum=>cases h
 |str=>cases h
 |sorted=>cases h
theorem nU (R:Row P wd K mg base G) (xe:XE true P wd K mg base X sc N w k) (hx:bnC x=some .list) (hg:glB sc x=true) {e0:Expr} {xs:List D} (ha:DA X ρ [e0] [d]) (hs:bx e0=true) (h:aL d=some xs):DF X ρ (.Call (.Name x p) [e0] [] pos) xs:=by
 have hm:=R.blt x _ hx
 rw [←xe.mg_] at hm
 have hn:=iC hx
 dsimp only [nmB] at hn
 subst hn
 exact wO (bV h) (xe.gl hg) hm ha (bD (aK hs)) rfl
theorem zR (R:Row P wd K mg base G) (xe:XE true P wd K mg base X sc N w k) {its:List D} {tg:Expr} (ht:gi tg (.Call (.Name x p) args [] pos)=true) (hx:bnC x=some b) (hg:glB sc x=true) (ha:DA X ρ args ds) (hl:args.length=ds.length) (hs:∀e∈args,bx e=true) (h:bz b ds=some its):
  DI X tg ρ (.Call (.Name x p) args [] pos) its:=by
 have hm:=R.blt x b hx
 rw [←xe.mg_] at hm
 have g:=xe.gl hg
 have hn:=iC hx
 have s1:∀{e:Expr},e∈args->starEach [e] X.env=[(false,eval e X.env)]:=fun {e} q=>bD (es:=[]) (aK (hs e q))
 have s2:∀{e f:Expr},e∈args->f∈args->starEach [e,f] X.env=[(false,eval e X.env),(false,eval f X.env)]:=fun {e f} q r=>by rw [bD (aK (hs e q)),s1 r]
 have s3:∀{e f g:Expr},e∈args->f∈args->g∈args->starEach [e,f,g] X.env=[(false,eval e X.env),(false,eval f X.env),(false,eval g X.env)]:=fun {e f g} q r t=>by rw [bD (aK (hs e q)),s2 r t]
 have tup:(x="zip"∨x="enumerate")->∃elts j tp,tg=.Tuple elts j tp:=fun z=>by
  unfold gi at ht
  dsimp only at ht
  have:(!(x==("zip":Str))&&!(x==("enumerate":Str)))=false:=by rcases z with z|z<;>(subst z;decide)
  rw [this,Bool.false_or] at ht
  cases tg<;>first|(cases ht;done)|exact ⟨_,_,_,rfl⟩
 unfold bz at h
 split at h
 ·dsimp only [nmB] at hn
  subst hn
  split at h
  ·rename_i hj
   cases h
   match args,hl with
   |[e0],_=>exact r6 g hm ha (gU hj).1 (gU hj).2 (s1 (by simp))
  ·cases h
 ·dsimp only [nmB] at hn
  subst hn
  split at h
  ·rename_i hj
   cases h
   match args,hl with
   |[e0,e1],_=>exact p8 g hm ha ⟨(gU (Bool.and_eq_true_iff.mp hj).1).1,(gU (Bool.and_eq_true_iff.mp hj).1).2,(gU (Bool.and_eq_true_iff.mp hj).2).1,(gU (Bool.and_eq_true_iff.mp hj).2).2⟩ (s2 (by simp) (by simp)) (s1 (by simp))
  ·cases h
 ·dsimp only [nmB] at hn
  subst hn
  obtain ⟨elts,j,tp,rfl⟩:=tup (.inl rfl)
  split at h
  ·rename_i xs ys h1 h2
   cases h
   match args,hl with
   |[e0,e1],_=>exact wI g hm (bV h1) (bV h2) ha (s2 (by simp) (by simp)) (s1 (by simp))
  ·cases h
 ·dsimp only [nmB] at hn
  subst hn
  obtain ⟨elts,j,tp,rfl⟩:=tup (.inl rfl)
  split at h
  ·rename_i xs ys zs h1 h2 h3
   cases h
   match args,hl with
   |[e0,e1,e2],_=>exact vy g hm (bV h1) (bV h2) (bV h3) ha (s3 (by simp) (by simp) (by simp)) (s2 (by simp) (by simp))
  ·cases h
 ·dsimp only [nmB] at hn
  subst hn
  obtain ⟨elts,j,tp,rfl⟩:=tup (.inr rfl)
  split at h
  ·rename_i xs h1
   cases h
   match args,hl with
   |[e0],_=>exact vi g hm (bV h1) ha (s1 (by simp))
  ·cases h
 ·cases h
theorem Bf (R:Row P wd K mg base G) (C:Calls P wd K mg base G kc cl) (hk:kc+2<=k) (xe:XE true P wd K mg base X sc N w k) (hn:bP x=true) (hg:glB sc x=true) (ha:DA X ρ args ds) (hl:args.length=ds.length) (hs:∀e∈args,bx e=true) {r:Rs} (h:fnR G cl x ds=some r):
  (∀d,r.val=some d->DE X ρ (.Call (.Name x p) args [] pos) d)∧(∀c,r=.fr c->DFx X ρ (.Call (.Name x p) args [] pos) c)∧(∀d,r=.xc d->DEX X ρ (.Call (.Name x p) args [] pos) d):=by
 obtain ⟨hd1,hd2,hd3⟩:=dq hn
 have g:=xe.gl hg
 obtain ⟨rfl,rfl,rfl,rfl,rfl⟩:=And.intro xe.p_ (And.intro xe.w_ (And.intro xe.K_ (And.intro xe.mg_ xe.fY)))
 unfold fnR at h
 match ds,args,hl with
 |[],[],_=>
  dsimp only at h
  split at h
  ·rename_i C0 hq
   cases h
   have z:=R.exc x C0 [] hq
   obtain ⟨z1,z2⟩:=z.zero rfl
   refine ⟨fun d hd=>by cases hd;exact Bb z1 z2 g z.mg_ hd1,(by intro c hc;cases hc),(by intro d hd;cases hd)⟩
  ·cases h
 |d0::dr,e0::er,hl=>
  have he:=bD (es:=er) (env:=X.env) (aK (hs e0 (by simp)))
  have hpl:=c8 (es:=er) (env:=X.env) (pos:=pos) fun e he=>hs e (List.mem_cons_of_mem _ he)
  dsimp only at h
  split at h
  ·rename_i key hq
   obtain ⟨df,f,fd,ps,hm,L⟩:=R.fn x key hq
   have F:=C.fn key df f fd ps L
   have rm:=xe.room.mono (show kc<=k by omega)
   refine ⟨fun d hd=>?_,fun c hc=>?_,fun d hd=>?_⟩
   ·exact wQ (CT.aw.okD F) rm g hm L.kp L.bind ha ⟨r,h,hd⟩ hd1 he hpl
   ·subst hc
    exact sC (C.fr key df f fd ps L) rm g hm L.kp L.bind ha h hd1 he hpl
   ·subst hd
    exact s_ F rm g hm L.kp L.bind ha h xe.nox hd1 he hpl
  ·split at h
   ·rename_i C0 key hq
    obtain ⟨df,f,fd,ps,hm,M,L⟩:=R.ini x C0 key hq
    have F:=C.ini key C0 df f fd ps L
    have rm:=xe.room.mono (show kc+1<=k by omega)
    rcases C.insI key C0 df f fd ps L _ r h with ⟨fs,rfl⟩|⟨dx,rfl⟩
    ·refine ⟨fun d hd=>?_,(by intro c hc;cases hc),(by intro d hd;cases hd)⟩
     cases hd
     exact wg M (CT.aw.okI F) rm g hm L.bind ha h hd1 he hpl
    ·refine ⟨(by intro d hd;cases hd),(by intro c hc;cases hc),fun d hd=>?_⟩
     cases hd
     exact ug M F rm g hm L.bind ha h xe.nox hd1 he hpl
   ·split at h
    ·rename_i C0 fs hq
     split at h
     ·rename_i hlen
      cases h
      have z:=R.exc x C0 fs hq
      obtain ⟨f,fd,ps,M,F,B⟩:=z.some (by intro q;subst q;simp at hlen)
      refine ⟨fun d hd=>by cases hd;exact zx M F (xe.room.mono (by omega)) g z.mg_ B ha hlen.1 hlen.2 hd1 he hpl,(by intro c hc;cases hc),(by intro d hd;cases hd)⟩
     ·cases h
    ·cases h
theorem yb (R:Row P wd K mg base G) (C:Calls P wd K mg base G kc cl) (hk:kc+2<=k) (xe:XE true P wd K mg base X sc N w k) {o:Expr} {m:Str} {ap:Pos} (hb:gy o=true) (h30:args.length<30) (hp:(ap.endLine==pos.line)=true) {od:D} (ho:DE X ρ o od) (ha:DA X ρ args ds) (hone:∀e0 d0,args=[e0]->ds=[d0]->DE X ρ e0 d0) (hl:args.length=ds.length)
  (hs:∀e∈args,bx e=true) {r:Rs} (h:bw G cl od m ds=some r):
  (∀d,r.val=some d->DE X ρ (.Call (.Attribute o m ap) args [] pos) d)∧(∀c,r=.fr c->DFx X ρ (.Call (.Attribute o m ap) args [] pos) c)∧(∀d,r=.xc d->DEX X ρ (.Call (.Attribute o m ap) args [] pos) d):=by
 have ht:=rM (o:=o) (m:=m) (args:=args) (ap:=ap) (cp:=pos) (env:=X.env) hb hs h30 hp
 obtain ⟨rfl,rfl,rfl,rfl,rfl⟩:=And.intro xe.p_ (And.intro xe.w_ (And.intro xe.K_ (And.intro xe.mg_ xe.fY)))
 have rm:=xe.room.mono (show kc<=k by omega)
 unfold bw at h
 split at h
 ·rename_i C0 fs
  split at h
  ·rename_i key h1 h2
   obtain ⟨df,f,fd,ps,M,c,L⟩:=R.mth C0 m key h2
   have F:=C.fn key df f fd ps L
   match ds,args,hl with
   |[],[],_=>
    refine ⟨fun d hd=>?_,fun c hc=>?_,fun d hd=>?_⟩
    ·exact tx ho h1 c M (CT.aw.okD F) rm L.bind ⟨r,h,hd⟩ ht
    ·subst hc;exact rR ho h1 (by assumption) M (C.fr key df f fd ps L) rm L.bind h ht
    ·subst hd;exact rN ho h1 c M F rm L.bind h xe.nox ht
   |d0::dr,e0::er,hl=>
    have he:=bD (es:=er) (env:=X.env) (aK (hs e0 (by simp)))
    have hpl:=c8 (es:=er) (env:=X.env) (pos:=pos) fun e he=>hs e (List.mem_cons_of_mem _ he)
    refine ⟨fun d hd=>?_,fun c hc=>?_,fun d hd=>?_⟩
    ·exact xE ho h1 c M (CT.aw.okD F) rm L.bind ha ⟨r,h,hd⟩ he hpl ht
    ·subst hc;exact sW ho h1 (by assumption) M (C.fr key df f fd ps L) rm L.bind ha h he hpl ht
    ·subst hd;exact uj ho h1 c M F rm L.bind ha h xe.nox he hpl ht
  ·cases h
 ·cases h
end
end IN
namespace IN
open PySem PySem.Spec PySem.W L2 CT
open PyProof.Rows hiding St
mutual
theorem iD:∀{t:Tg} {d:D} {ρ ρ' ρ1:Rho},Le ρ ρ'->ai t d ρ=some ρ1->∃ρ1',ai t d ρ'=some ρ1'∧Le ρ1 ρ1'
 |.nm k,d,ρ,ρ',ρ1,le,h=>by
  unfold ai at h ⊢
  split at h
  ·rename_i hk
   cases h
   rw [if_pos (by rw [←le.len];exact hk)]
   exact ⟨_,rfl,le.set k _⟩
  ·cases h
 |.tp ts,.tup ds,ρ,ρ',ρ1,le,h=>by
  unfold ai at h ⊢
  exact jZ le h
 |.tp _,.non,_,_,_,_,h=>by unfold ai at h;cases h
 |.tp _,.bl _,_,_,_,_,h=>by unfold ai at h;cases h
 |.tp _,.int _,_,_,_,_,h=>by unfold ai at h;cases h
 |.tp _,.str _,_,_,_,_,h=>by unfold ai at h;cases h
 |.tp _,.lst _,_,_,_,_,h=>by unfold ai at h;cases h
 |.tp _,.ins _ _,_,_,_,_,h=>by unfold ai at h;cases h
 |.tp _,.exc _ _,_,_,_,_,h=>by unfold ai at h;cases h
 |.tp _,.ty _,_,_,_,_,h=>by unfold ai at h;cases h
 |.tp _,.cl _,_,_,_,_,h=>by unfold ai at h;cases h
 |.tp _,.dct _,_,_,_,_,h=>by unfold ai at h;cases h
 |.tp _,.pdc _,_,_,_,_,h=>by unfold ai at h;cases h
theorem jZ:∀{ts:List Tg} {ds:List D} {ρ ρ' ρ1:Rho},Le ρ ρ'->aQ ts ds ρ=some ρ1->∃ρ1',aQ ts ds ρ'=some ρ1'∧Le ρ1 ρ1'
 |[],[],ρ,ρ',ρ1,le,h=>by unfold aQ at h ⊢;cases h;exact ⟨_,rfl,le⟩
 |t::ts,d::ds,ρ,ρ',ρ1,le,h=>by
  unfold aQ at h ⊢
  split at h
  ·rename_i ρ2 h2
   obtain ⟨ρ2',e2,le2⟩:=iD le h2
   rw [e2]
   exact jZ le2 h
  ·cases h
 |[],_::_,_,_,_,_,h=>by unfold aQ at h;cases h
 |_::_,[],_,_,_,_,h=>by unfold aQ at h;cases h
end
theorem v_ {es:List Expr} {env:Env}:(assignEach es env).length=es.length:=by
 induction es with
 |nil=>rfl
 |cons e es ih=>cases e<;>(simp only [assignEach,List.length_cons];rw [ih])
theorem iw {e:Expr} {es:List Expr} {env:Env} (h:bx e=true):assignEach (e::es) env=(false,assign e env)::assignEach es env:=by
 cases e<;>first|rfl|cases h
theorem sY {es:List Expr} {env:Env} (h:∀e∈es,bx e=true):(assignEach es env).findIdx? (·.1)=none:=by
 rw [List.findIdx?_eq_none_iff]
 induction es with
 |nil=>intro x hx;cases hx
 |cons e es ih=>
  intro x hx
  rw [iw (h e List.mem_cons_self)] at hx
  rcases List.mem_cons.mp hx with z|z
  ·rw [z]
  ·exact ih (fun e he=>h e (List.mem_cons_of_mem _ he)) x z
section
variable {P:Program} {wd:World} {K:Frag} {mg:Str->Option Value} {base:Heap} {X:Cx} {sc:Scope} {N:List Str} {w k kc:Nat} {G:Prg} {cl:Str->List D->Option Rs}
theorem kS (xe:XE true P wd K mg base X sc N w k):∀n,(∀tg t,cTg sc N n tg=some t->bx tg=true∧∀ρ d ρ1,ai t d ρ=some ρ1->(∀k∈tks t,k<w)->DG X tg ρ d ρ1 (tks t)∧cz ρ ρ1 (tks t))∧
  (∀tgs ts,eG sc N n tgs=some ts->(∀e∈tgs,bx e=true)∧∀ρ ds ρ1,aQ ts ds ρ=some ρ1->(∀k∈dH ts,k<w)->DGs X tgs ρ ds ρ1 (dH ts)∧cz ρ ρ1 (dH ts)∧ds.length=tgs.length):=by
 intro n
 induction n with
 |zero=>exact ⟨fun tg t h=>(by unfold cTg at h;cases h),fun tg t h=>(by unfold eG at h;cases h)⟩
 |succ n ih=>
  refine ⟨fun tg t h=>?_,fun tgs ts h=>?_⟩
  ·unfold cTg at h
   split at h
   ·rename_i x p
    split at h
    ·rename_i hx
     simp only [Bool.and_eq_true] at hx
     cases hi:idx N x with
     |none=>rw [hi] at h;cases h
     |some i=>
      rw [hi] at h
      cases h
      refine ⟨rfl,fun ρ d ρ1 hb hw=>?_⟩
      unfold ai at hb
      split at hb
      ·cases hb
       have hat:=xe.at hi
       have hN:X.N.Nodup:=by rw [xe.N_];exact xe.nd
       refine ⟨wz hN hat (xe.loc hx.2) (.inl (xe.fn i x (hw i (by simp [tks])) (by rw [←xe.N_];exact hat))),zk⟩
      ·cases hb
    ·cases h
   ·rename_i es j p
    split at h
    ·rename_i hst
     cases hts:eG sc N n es with
     |none=>rw [hts] at h;cases h
     |some ts=>
      rw [hts] at h
      cases h
      obtain ⟨hs,ht⟩:=ih.2 es ts hts
      refine ⟨rfl,fun ρ d ρ1 hb hw=>?_⟩
      cases d with
      |tup ds=>
       unfold ai at hb
       obtain ⟨h1,h2,h3⟩:=ht ρ ds ρ1 hb (fun k hk=>hw k hk)
       exact ⟨zw xe.calm h1 h3 (by rw [v_]) (sY hs),h2⟩
      |_=>unfold ai at hb;cases hb
    ·cases h
   ·cases h
  ·unfold eG at h
   split at h
   ·cases h
    refine ⟨fun e he=>(nomatch he),fun ρ ds ρ1 hb hw=>?_⟩
    cases ds with
    |nil=>unfold aQ at hb;cases hb;exact ⟨vC,yM,rfl⟩
    |cons=>unfold aQ at hb;cases hb
   ·rename_i e r
    split at h
    ·rename_i t ts h1 h2
     cases h
     obtain ⟨s1,g1⟩:=ih.1 e t h1
     obtain ⟨s2,g2⟩:=ih.2 r ts h2
     refine ⟨fun e' he=>?_,fun ρ ds ρ1 hb hw=>?_⟩
     ·rcases List.mem_cons.mp he with z|z
      ·rw [z];exact s1
      ·exact s2 e' z
     ·cases ds with
      |nil=>unfold aQ at hb;cases hb
      |cons d ds=>
       unfold aQ at hb
       split at hb
       ·rename_i ρ2 hb1
        obtain ⟨a1,a2⟩:=g1 ρ d ρ2 hb1 fun k hk=>hw k (by show k∈tks t++dH ts;exact List.mem_append_left _ hk)
        obtain ⟨b1,b2,b3⟩:=g2 ρ2 ds ρ1 hb fun k hk=>hw k (by show k∈tks t++dH ts;exact List.mem_append_right _ hk)
        exact ⟨sd a1 b1 (by rw [iw s1];rfl),a2.trans b2,by simp [b3]⟩
       ·cases hb
    ·cases h
theorem XE.cX (xe:XE true P wd K mg base X sc N w k) {scope:Scope} {own:List Str} {cap:List (Str×Nat)} (cs:CS X scope own cap) {p:List (Addr×Obj)} {s:Shared} {h:Hp} {fp:List Addr}:
  XE true P wd K mg base (CT.cX X scope own cap p s h fp) (iJ scope sc) (own++cap.map (·.1)) own.length k where
 p_:=xe.p_
 w_:=xe.w_
 K_:=xe.K_
 mg_:=xe.mg_
 fY:=xe.fY
 sc_:=by rw [←xe.sc_];rfl
 N_:=rfl
 nd:=cs.nN
 kU:=xe.kU
 k7:=xe.k7
 units:=xe.units
 nox:=fun _ _ z=>z
 fn:=fun i x hi hx=>by
  show decide (x∈own)=true
  rw [List.getElem?_append_left hi] at hx
  exact decide_eq_true (List.mem_of_getElem? hx)
theorem tf {w:Nat} {cap:List Nat} {ρ:Rho} {i:Nat} (h:i<w):(eR w cap ρ)[i]?=some .nil:=by
 unfold eR
 rw [List.getElem?_append_left (by simpa using h),List.getElem?_replicate,if_pos h]
end
end IN
namespace IN
open PySem PySem.Spec PySem.W L2 CT
open PyProof.Rows hiding St
structure All (P:Program) (wd:World) (K:Frag) (mg:Str->Option Value) (base:Heap) (G:Prg) (cl:Str->List D->Option Rs) (k n:Nat):Prop where
 e:∀X sc N w,XE true P wd K mg base X sc N w k->∀e ce,cE n sc N e=some ce->bx e=true∧ce≠.nop∧OkE G cl X e ce
 a:∀X sc N w,XE true P wd K mg base X sc N w k->∀es ces,cA n sc N es=some ces->(∀e∈es,bx e=true)∧∀ρ ρ' ds,Le ρ ρ'->evA G cl ces ρ=some ds->DA X ρ' es ds∧es.length=ds.length∧(∀e0 d0,es=[e0]->ds=[d0]->DE X ρ' e0 d0)
 b:∀X sc N w,XE true P wd K mg base X sc N w k->∀op es ce,cB n sc N op es=some ce->(∀ρ ρ' d pos,Le ρ ρ'->ev G cl ce ρ=some d->DE X ρ' (.BoolOp op es pos) d)∧∀ρ ρ' b pos,Le ρ ρ'->evT G cl ce ρ=some b->DW X ρ' (.BoolOp op es pos) b
 o:∀X sc N w,XE true P wd K mg base X sc N w k->∀oe ce,cO n sc N oe=some ce->∀ρ ρ' l,Le ρ ρ'->asI ce (ev G cl ce ρ)=some l->DO X ρ' oe l
 f:∀X sc N w,XE true P wd K mg base X sc N w k->∀ifs ce,cIf n sc N ifs=some ce->∀ρ ρ' b,Le ρ ρ'->evT G cl ce ρ=some b->DTs X ρ' ifs b
 g:∀X sc N w,XE true P wd K mg base X sc N w k->∀gens elt ce,cG n sc N gens elt=some ce->∀(full:List Comprehension) (m:Nat),full.drop (m+1)=gens->∀scope pos ρ ρ' out acc,Le ρ ρ'->evB G cl w ce ρ=some out->DB X acc (aV elt full scope pos m (.ref acc) X.env) ρ' out
section
variable {P:Program} {wd:World} {K:Frag} {mg:Str->Option Value} {base:Heap} {G:Prg} {cl:Str->List D->Option Rs} {k kc n:Nat} {X:Cx} {sc:Scope} {N:List Str} {w:Nat}
theorem Bi (ih:All P wd K mg base G cl k n) (xe:XE true P wd K mg base X sc N w k) {es:List Expr} {ces:List CE} (h:cA (n+1) sc N es=some ces):
  (∀e∈es,bx e=true)∧∀ρ ρ' ds,Le ρ ρ'->evA G cl ces ρ=some ds->DA X ρ' es ds∧es.length=ds.length∧(∀e0 d0,es=[e0]->ds=[d0]->DE X ρ' e0 d0):=by
 unfold cA at h
 split at h
 ·cases h
  refine ⟨fun e he=>(nomatch he),fun ρ ρ' ds le h=>?_⟩
  unfold evA at h
  cases h
  exact ⟨lK,rfl,fun e0 d0 z=>nomatch z⟩
 ·rename_i e r
  split at h
  ·rename_i x xs h1 h2
   cases h
   obtain ⟨s1,_,o1⟩:=ih.e X sc N w xe e x h1
   obtain ⟨s2,o2⟩:=ih.a X sc N w xe r xs h2
   refine ⟨fun e' he=>?_,fun ρ ρ' ds le h=>?_⟩
   ·rcases List.mem_cons.mp he with z|z
    ·rw [z];exact s1
    ·exact s2 e' z
   ·unfold evA at h
    split at h
    ·rename_i d hd
     split at h
     ·rename_i ds' hds
      cases h
      obtain ⟨a1,a2,_⟩:=o2 ρ ρ' ds' le hds
      refine ⟨fz (o1.v le hd) a1 (bD (aK s1)),by simp [a2],fun e0 d0 z1 z2=>?_⟩
      cases z1;cases z2
      exact o1.v le hd
     ·cases h
    ·cases h
  ·cases h
theorem A_ (ih:All P wd K mg base G cl k n) (xe:XE true P wd K mg base X sc N w k) {op:BoolOp} {es:List Expr} {ce:CE} (h:cB (n+1) sc N op es=some ce):
  (∀ρ ρ' d pos,Le ρ ρ'->ev G cl ce ρ=some d->DE X ρ' (.BoolOp op es pos) d)∧∀ρ ρ' b pos,Le ρ ρ'->evT G cl ce ρ=some b->DW X ρ' (.BoolOp op es pos) b:=by
 unfold cB at h
 split at h
 ·cases h
 ·rename_i e
  obtain ⟨_,_,o1⟩:=ih.e X sc N w xe e ce h
  refine ⟨fun ρ ρ' d pos le h=>zF (o1.v le h),fun ρ ρ' b pos le h=>?_⟩
  cases op with
  |And=>exact wo (o1.t le h)
  |Or=>exact yR (o1.t le h)
 ·rename_i e f r
  split at h
  ·rename_i x y h1 h2
   cases h
   obtain ⟨_,_,o1⟩:=ih.e X sc N w xe e x h1
   obtain ⟨o2,o3⟩:=ih.b X sc N w xe .And (f::r) y h2
   refine ⟨fun ρ ρ' d pos le h=>?_,fun ρ ρ' b pos le h=>?_⟩
   ·rw [ev] at h
    split at h
    ·rename_i hx
     split at h
     ·rename_i q hq
      cases h
      have:=q_ (pos:=pos) (o1.v le hx) fun _=>o2 ρ ρ' _ pos le hq
      rw [Bool.true_and] at this;exact this
     ·cases h
    ·rename_i hx
     cases h
     exact q_ (q:=false) (o1.v le hx) fun z=>nomatch z
    ·cases h
   ·unfold evT at h
    split at h
    ·rename_i hx
     have:=qY (pos:=pos) (o1.t le hx) fun _=>o3 ρ ρ' _ pos le h
     rw [Bool.true_and] at this;exact this
    ·rename_i hx
     cases h
     exact qY (q:=false) (o1.t le hx) fun z=>nomatch z
    ·cases h
  ·rename_i x y h1 h2
   cases h
   obtain ⟨_,_,o1⟩:=ih.e X sc N w xe e x h1
   obtain ⟨o2,o3⟩:=ih.b X sc N w xe .Or (f::r) y h2
   refine ⟨fun ρ ρ' d pos le h=>?_,fun ρ ρ' b pos le h=>?_⟩
   ·rw [ev] at h
    split at h
    ·rename_i hx
     cases h
     exact uL (q:=false) (o1.v le hx) fun z=>nomatch z
    ·rename_i hx
     split at h
     ·rename_i q hq
      cases h
      have:=uL (pos:=pos) (o1.v le hx) fun _=>o2 ρ ρ' _ pos le hq
      rw [Bool.false_or] at this;exact this
     ·cases h
    ·cases h
   ·unfold evT at h
    split at h
    ·rename_i hx
     cases h
     exact uv (q:=false) (o1.t le hx) fun z=>nomatch z
    ·rename_i hx
     have:=uv (pos:=pos) (o1.t le hx) fun _=>o3 ρ ρ' _ pos le h
     rw [Bool.false_or] at this;exact this
    ·cases h
  ·cases h
theorem Bq (ih:All P wd K mg base G cl k n) (xe:XE true P wd K mg base X sc N w k) {oe:Option Expr} {ce:CE} (h:cO (n+1) sc N oe=some ce) {ρ ρ':Rho} {l:Option Int} (le:Le ρ ρ') (hl:asI ce (ev G cl ce ρ)=some l):DO X ρ' oe l:=by
 unfold cO at h
 split at h
 ·cases h
  cases hl
  exact v7
 ·rename_i e
  obtain ⟨_,hn,o1⟩:=ih.e X sc N w xe e ce h
  unfold asI at hl
  split at hl
  ·exact absurd rfl hn
  ·rename_i i hv
   cases hl
   exact wm (o1.v le hv)
  ·cases hl
theorem BD (ih:All P wd K mg base G cl k n) (xe:XE true P wd K mg base X sc N w k) {ifs:List Expr} {ce:CE} (h:cIf (n+1) sc N ifs=some ce) {ρ ρ':Rho} {b:Bool} (le:Le ρ ρ') (hl:evT G cl ce ρ=some b):DTs X ρ' ifs b:=by
 unfold cIf at h
 split at h
 ·cases h
  unfold evT at hl
  cases hl
  exact vG
 ·rename_i e
  obtain ⟨_,hn,o1⟩:=ih.e X sc N w xe e ce h
  exact vY (o1.t le hl)
 ·cases h
theorem ny {tgt:Tg} {test body:CE} {d:D} {ρ:Rho} {out:List D} {wb:Nat}
  (h:(match ai tgt d ρ with
     |some ρ'=>match evT G cl test ρ' with
      |some true=>evB G cl wb body ρ'
      |some false=>some []
      |none=>none
     |none=>none)=some out):∃ρ1 b,ai tgt d ρ=some ρ1∧evT G cl test ρ1=some b∧(b=true->evB G cl wb body ρ1=some out)∧(b=false->out=[]):=by
 split at h
 ·rename_i ρ1 h1
  split at h
  ·rename_i h2;exact ⟨ρ1,true,h1,h2,fun _=>h,fun z=>nomatch z⟩
  ·rename_i h2;cases h;exact ⟨ρ1,false,h1,h2,(fun z=>nomatch z),fun _=>rfl⟩
  ·cases h
 ·cases h
theorem AY (ih:All P wd K mg base G cl k n) (xe:XE true P wd K mg base X sc N w k) {gens:List Comprehension} {elt:Expr} {ce:CE} (h:cG (n+1) sc N gens elt=some ce) {full:List Comprehension} {m:Nat} (hf:full.drop (m+1)=gens)
  {scope:Scope} {pos:Pos} {ρ ρ':Rho} {out:List D} {acc:Addr} (le:Le ρ ρ') (ho:evB G cl w ce ρ=some out):DB X acc (aV elt full scope pos m (.ref acc) X.env) ρ' out:=by
 unfold cG at h
 split at h
 ·cases hq:cE n sc N elt with
  |none=>rw [hq] at h;cases h
  |some x=>
   rw [hq] at h
   cases h
   obtain ⟨_,_,o1⟩:=ih.e X sc N w xe elt x hq
   unfold evB at ho
   split at ho
   ·rename_i d hd
    cases ho
    have hn:full[m+1]?=none:=by
     have z:(full.drop (m+1))[0]?=full[m+1]?:=by rw [List.getElem?_drop]
     rw [←z,hf];rfl
    unfold aV
    rw [hn]
    exact xq (o1.v le hd)
   ·cases ho
 ·rename_i tg it ifs r
  split at h
  ·rename_i hit
   split at h
   ·rename_i t i c b h1 h2 h3 h4
    cases h
    have hg:full[m+1]?=some ⟨tg,it,ifs,0⟩:=by
     have z:(full.drop (m+1))[0]?=full[m+1]?:=by rw [List.getElem?_drop]
     rw [←z,hf];rfl
    have hf2:full.drop (m+1+1)=r:=by
     have:full.drop (m+1+1)=(full.drop (m+1)).drop 1:=by rw [List.drop_drop]
     rw [this,hf];rfl
    obtain ⟨_,_,oi⟩:=ih.e X sc N w xe it i h2
    unfold evB at ho
    split at ho
    ·rename_i its hi
     split at ho
     ·rename_i hk
      obtain ⟨outs,l1,l2,l3⟩:=gD ho
      subst l2
      rw [List.all_eq_true] at hk
      have hk':∀j∈tks t,j<w∧ρ[j]?=some .nil:=fun j hj=>by
       have:=hk j hj
       simp only [Bool.and_eq_true,decide_eq_true_eq] at this
       exact ⟨this.1,qI this.2⟩
      refine vh (ks:=tks t) hg xe.calm (fun e s z=>xe.nox e s z) (oi.i le hit hi).dI0 (fun j hj=>le.nil j (hk' j hj).2) l1 (fun q d o hd ho'=>?_) (fD hit _)
      obtain ⟨ρ1,bb,z1,z2,z3,z4⟩:=ny (l3 q d o hd ho')
      obtain ⟨ρ1',e1,le1⟩:=iD le z1
      obtain ⟨_,tg1⟩:=(kS xe n).1 tg t h1
      obtain ⟨dg,_⟩:=tg1 ρ' d ρ1' e1 fun j hj=>(hk' j hj).1
      exact ⟨ρ1',bb,dg,ih.f X sc N w xe ifs c h3 ρ1 ρ1' bb le1 z2,fun hb=>ih.g X sc N w xe r elt b h4 full (m+1) hf2 scope pos ρ1 ρ1' o acc le1 (z3 hb),z4⟩
     ·cases ho
    ·cases ho
   ·cases h
  ·cases h
 ·cases h
theorem vO (ih:All P wd K mg base G cl k n) (xe:XE true P wd K mg base X sc N w k) {elt tg it:Expr} {ifs:List Expr} {gens:List Comprehension} {scope:Scope} {pos:Pos} {t:Tg} {i c b:CE}
  (hcs:oJ scope (ownOf scope) (b5 scope N) sc N=true) (hit:gi tg it=true)
  (h1:cTg (iJ scope sc) (ownOf scope++(b5 scope N).map (·.1)) n tg=some t) (h2:cE n sc N it=some i) (h3:cIf n (iJ scope sc) (ownOf scope++(b5 scope N).map (·.1)) ifs=some c)
  (h4:cG n (iJ scope sc) (ownOf scope++(b5 scope N).map (·.1)) gens elt=some b) {ρ ρ':Rho} {d:D} (le:Le ρ ρ') (h:ev G cl (.comp (ownOf scope).length ((b5 scope N).map (·.2)) t i c b) ρ=some d):
  ∃xs,d=.lst xs∧DC X ρ' (.ListComp elt (⟨tg,it,ifs,0⟩::gens) scope pos) xs:=by
 have cs:CS X scope (ownOf scope) (b5 scope N):=CS.of sc N xe.sc_ xe.N_ hcs
 obtain ⟨_,_,oi⟩:=ih.e X sc N w xe it i h2
 rw [ev] at h
 split at h
 ·rename_i its hi
  split at h
  ·rename_i hk
   split at h
   ·rename_i out hc
    split at h
    ·rename_i hz
     cases h
     obtain ⟨outs,l1,l2,l3⟩:=gD hc
     subst l2
     rw [List.all_eq_true] at hk
     have hk':∀j∈tks t,j<(ownOf scope).length:=fun j hj=>by simpa using hk j hj
     have lec:=le.cap (ownOf scope) (b5 scope N)
     refine ⟨_,rfl,vt (ks:=tks t) cs xe.calm (oi.i le hit hi).dI0 (fun j hj=>lec.nil j (tf (hk' j hj))) l1 hz (fun q dd o hd ho'=>?_) (fD hit _)⟩
     obtain ⟨ρ1,bb,z1,z2,z3,z4⟩:=ny (l3 q dd o hd ho')
     obtain ⟨ρ1',e1,le1⟩:=iD lec z1
     refine ⟨ρ1',bb,fun p s H f=>?_,fun p s H f=>?_,fun hb p s H f acc=>?_,z4⟩
     ·obtain ⟨_,tg1⟩:=(kS (xe.cX cs (p:=p) (s:=s) (h:=H) (fp:=f)) n).1 tg t h1
      exact (tg1 _ dd ρ1' e1 hk').1
     ·exact ih.f _ _ _ _ (xe.cX cs) ifs c h3 ρ1 ρ1' bb le1 z2
     ·exact ih.g _ _ _ _ (xe.cX cs) gens elt b h4 (⟨tg,it,ifs,0⟩::gens) 0 rfl scope pos ρ1 ρ1' o acc le1 (z3 hb)
    ·cases h
   ·cases h
  ·cases h
 ·cases h
end
end IN
namespace IN
open PySem PySem.Spec PySem.W L2 CT
open PyProof.Rows hiding St
section
variable {P:Program} {wd:World} {K:Frag} {mg:Str->Option Value} {base:Heap} {G:Prg} {cl:Str->List D->Option Rs} {k kc n:Nat} {X:Cx} {sc:Scope} {N:List Str} {w:Nat} {ce:CE} {pos:Pos}
theorem vk {c:Const} {j:Nat} (h:qw c=some ce):ce≠.nop∧OkE G cl X (.Constant c j pos) ce:=by
 cases c with
 |int i=>
  cases h
  refine ⟨(fun z=>nomatch z),OkE.of (fun le h=>by rw [ev] at h;cases h;exact zt) (fun le h=>by unfold evT at h;cases h) (fun le _ h=>by unfold evI at h;cases h) rfl fun ρ=>rfl⟩
 |bool b=>
  cases h
  refine ⟨(fun z=>nomatch z),OkE.of (fun le h=>by rw [ev] at h;cases h;exact uS) (fun le h=>by unfold evT at h;cases h;exact gI uS) (fun le _ h=>by unfold evI at h;cases h) rfl fun ρ=>rfl⟩
 |none=>
  cases h
  refine ⟨(fun z=>nomatch z),OkE.of (fun le h=>by rw [ev] at h;cases h;exact gK) (fun le h=>by unfold evT at h;cases h) (fun le _ h=>by unfold evI at h;cases h) rfl fun ρ=>rfl⟩
 |str s=>
  cases h
  refine ⟨(fun z=>nomatch z),OkE.of (fun le h=>by rw [ev] at h;cases h;exact zU) (fun le h=>by unfold evT at h;cases h) (fun le _ h=>by unfold evI at h;cases h) rfl fun ρ=>rfl⟩
 |float _=>cases h
 |complex _ _=>cases h
 |bytes _=>cases h
 |ellipsis=>cases h
theorem Az {ca:Bool} (R:Row P wd K mg base G) (xe:XE ca P wd K mg base X sc N w k) {x:Str} (h:oh sc N x=some ce):ce≠.nop∧OkE G cl X (.Name x pos) ce:=by
 unfold oh at h
 split at h
 ·rename_i hn
  obtain ⟨h1,h2,_⟩:=dq hn
  split at h
  ·rename_i i hi
   split at h
   ·rename_i hv
    cases h
    have go:∀{ρ ρ':Rho} {d:D},Le ρ ρ'->aO ρ[i]?=some d->DE X ρ' (.Name x pos) d:=fun le hq=>lQ (xe.at hi) (xe.vis hv) (le.val i _ (uq hq)) h1 h2
    refine ⟨(fun z=>nomatch z),OkE.of (fun le h=>by rw [ev] at h;exact go le h) (fun le h=>?_) (fun le _ h=>?_) rfl (fun ρ=>rfl) (fun i' z ρ c pos hr=>(by cases z;exact v3 (xe.at hi) (xe.vis hv) hr h1 h2)) fun i' z=>(by cases z;exact ⟨x,pos,rfl,xe.at hi,xe.vis hv,h1,h2⟩)⟩
    ·unfold evT at h
     split at h
     ·rename_i b hb;cases h;exact gI (go le hb)
     ·cases h
    ·unfold evI at h
     split at h
     ·rename_i d hd;exact eU (go le hd) h
     ·cases h
   ·cases h
  ·split at h
   ·rename_i hg
    cases h
    refine ⟨(fun z=>nomatch z),OkE.of (fun le h=>by rw [ev] at h;exact R.glob X xe.K_ xe.mg_ x _ h hn (xe.gl hg) _ _) (fun le h=>by unfold evT at h;cases h) (fun le _ h=>by unfold evI at h;cases h) rfl fun ρ=>rfl⟩
   ·cases h
 ·cases h
theorem Ar {op:CmpOp} {b:Expr} (h:lB op b=some true):∃j p,b=.Constant .none j p∧op=.Is:=by
 unfold lB at h
 split at h
 ·split at h
  ·split at h
   ·exact ⟨_,_,rfl,rfl⟩
   ·cases h
   ·cases h
  ·cases h
 ·cases h
theorem zX {op:CmpOp} {b:Expr} (h:lB op b=some false):∃j p,b=.Constant .none j p∧op=.IsNot:=by
 unfold lB at h
 split at h
 ·split at h
  ·split at h
   ·cases h
   ·exact ⟨_,_,rfl,rfl⟩
   ·cases h
  ·cases h
 ·cases h
theorem zy {ops:List CmpOp} (h:lel ops=true):ops=[.LtE,.Lt]:=by
 unfold lel at h
 split at h
 ·split at h
  ·split at h
   ·rfl
   ·cases h
  ·cases h
 ·cases h
theorem AE (R:Row P wd K mg base G) (C:Calls P wd K mg base G kc cl) (hk:kc+2<=k) (ih:All P wd K mg base G cl k n) (xe:XE true P wd K mg base X sc N w k) {e:Expr} (h:cE (n+1) sc N e=some ce):bx e=true∧ce≠.nop∧OkE G cl X e ce:=by
 unfold cE at h
 split at h
 ·
  exact ⟨rfl,vk h⟩
 ·
  exact ⟨rfl,Az R xe h⟩
 ·
  rename_i a op b _
  split at h
  ·rename_i o x y h0 h1 h2
   cases h
   obtain ⟨_,_,oa⟩:=ih.e X sc N w xe a x h1
   obtain ⟨_,_,ob⟩:=ih.e X sc N w xe b y h2
   refine ⟨rfl,(fun z=>nomatch z),OkE.of (fun le h=>?_) (fun le h=>by unfold evT at h;cases h) (fun le _ h=>?_) rfl fun ρ=>rfl⟩
   ·rw [ev] at h
    split at h
    ·rename_i u hu
     split at h
     ·rename_i v hv;exact pS h0 (oa.v le hu) (ob.v le hv) h
     ·cases h
    ·cases h
   ·unfold evI at h
    split at h
    ·rename_i u hu
     split at h
     ·rename_i v hv
      split at h
      ·rename_i d hd;exact eU (pS h0 (oa.v le hu) (ob.v le hv) hd) h
      ·cases h
     ·cases h
    ·cases h
  ·cases h
 ·
  rename_i op a _
  split at h
  ·
   cases hq:cE n sc N a with
   |none=>rw [hq] at h;cases h
   |some x=>
    rw [hq] at h;cases h
    obtain ⟨_,_,oa⟩:=ih.e X sc N w xe a x hq
    refine ⟨rfl,(fun z=>nomatch z),OkE.of (fun le h=>?_) (fun le h=>by unfold evT at h;cases h) (fun le _ h=>by unfold evI at h;cases h) rfl fun ρ=>rfl⟩
    rw [ev] at h
    split at h
    ·rename_i i hi;cases h;exact Ak (oa.v le hi)
    ·cases h
  ·
   cases hq:cE n sc N a with
   |none=>rw [hq] at h;cases h
   |some x=>
    rw [hq] at h;cases h
    obtain ⟨_,_,oa⟩:=ih.e X sc N w xe a x hq
    refine ⟨rfl,(fun z=>nomatch z),OkE.of (fun le h=>?_) (fun le h=>?_) (fun le _ h=>by unfold evI at h;cases h) rfl fun ρ=>rfl⟩
    ·rw [ev] at h
     split at h
     ·rename_i i hi;cases h;exact yi (oa.v le hi)
     ·cases h
    ·unfold evT at h
     split at h
     ·rename_i i hi;cases h;exact zh (oa.t le hi)
     ·cases h
  ·cases h
 ·
  rename_i op es _
  split at h
  ·rename_i a b r
   obtain ⟨b1,b2⟩:=ih.b X sc N w xe op (a::b::r) ce h
   have hce:(∃x y,ce=.and x y)∨∃x y,ce=.or x y:=by
    cases n with
    |zero=>unfold cB at h;cases h
    |succ n=>
     unfold cB at h
     dsimp only at h
     split at h
     ·cases h;exact .inl ⟨_,_,rfl⟩
     ·cases h;exact .inr ⟨_,_,rfl⟩
     ·cases h
   refine ⟨rfl,?_,OkE.of (fun le h=>b1 _ _ _ _ le h) (fun le h=>(b2 _ _ _ _ le h).dt) ?_ rfl ?_ ?_ ?_⟩
   ·rcases hce with ⟨_,_,rfl⟩|⟨_,_,rfl⟩<;>exact fun z=>nomatch z
   ·intro ρ ρ' its tg le _ h
    rcases hce with ⟨_,_,rfl⟩|⟨_,_,rfl⟩<;>(unfold evI at h;cases h)
   ·intro ρ
    rcases hce with ⟨_,_,rfl⟩|⟨_,_,rfl⟩<;>rfl
   ·intro i z
    rcases hce with ⟨_,_,rfl⟩|⟨_,_,rfl⟩<;>cases z
   ·intro i z
    rcases hce with ⟨_,_,rfl⟩|⟨_,_,rfl⟩<;>cases z
  ·cases h
 ·
  rename_i a ops bs _
  split at h
  ·rename_i b
   split at h
   ·rename_i op
    split at h
    ·rename_i hc
     obtain ⟨j,p',rfl,rfl⟩:=Ar hc
     cases hq:cE n sc N a with
     |none=>rw [hq] at h;cases h
     |some x=>
      rw [hq] at h;cases h
      obtain ⟨_,_,oa⟩:=ih.e X sc N w xe a x hq
      refine ⟨rfl,(fun z=>nomatch z),OkE.of (fun le h=>?_) (fun le h=>?_) (fun le _ h=>by unfold evI at h;cases h) rfl fun ρ=>rfl⟩
      ·rw [ev] at h
       split at h
       ·rename_i d hd;cases h;exact Ag (oa.v le hd)
       ·cases h
      ·unfold evT at h
       split at h
       ·rename_i d hd;cases h;exact yI (oa.v le hd)
       ·cases h
    ·rename_i hc
     obtain ⟨j,p',rfl,rfl⟩:=zX hc
     cases hq:cE n sc N a with
     |none=>rw [hq] at h;cases h
     |some x=>
      rw [hq] at h;cases h
      obtain ⟨_,_,oa⟩:=ih.e X sc N w xe a x hq
      refine ⟨rfl,(fun z=>nomatch z),OkE.of (fun le h=>?_) (fun le h=>?_) (fun le _ h=>by unfold evI at h;cases h) rfl fun ρ=>rfl⟩
      ·rw [ev] at h
       split at h
       ·rename_i d hd;cases h;exact wN (oa.v le hd)
       ·cases h
      ·unfold evT at h
       split at h
       ·rename_i d hd;cases h;exact vU (oa.v le hd)
       ·cases h
    ·split at h
     ·rename_i o x y h0 h1 h2
      split at h
      ·rename_i hns
       cases h
       obtain ⟨_,_,oa⟩:=ih.e X sc N w xe a x h1
       obtain ⟨_,_,ob⟩:=ih.e X sc N w xe b y h2
       refine ⟨rfl,(fun z=>nomatch z),OkE.of (fun le h=>?_) (fun le h=>?_) (fun le _ h=>by unfold evI at h;cases h) rfl fun ρ=>rfl⟩
       ·rw [ev] at h
        split at h
        ·rename_i u hu
         split at h
         ·rename_i v hv
          split at h
          ·rename_i q hq;cases h;exact Ao hns xe.units h0 (oa.v le hu) (ob.v le hv) hq
          ·cases h
         ·cases h
        ·cases h
       ·unfold evT at h
        split at h
        ·rename_i u hu
         split at h
         ·rename_i v hv;exact wZ hns xe.units h0 (oa.v le hu) (ob.v le hv) h
         ·cases h
        ·cases h
      ·cases h
     ·cases h
   ·cases h
  ·
   rename_i b c
   split at h
   ·rename_i hl
    obtain rfl:=zy hl
    split at h
    ·rename_i x y z h1 h2 h3
     split at h
     ·rename_i hs
      simp only [Bool.and_eq_true] at hs
      cases h
      obtain ⟨_,_,oa⟩:=ih.e X sc N w xe a x h1
      obtain ⟨_,_,ob⟩:=ih.e X sc N w xe b y h2
      obtain ⟨_,_,oc⟩:=ih.e X sc N w xe c z h3
      refine ⟨rfl,(fun z=>nomatch z),OkE.of (fun le h=>?_) (fun le h=>by unfold evT at h;cases h) (fun le _ h=>by unfold evI at h;cases h) rfl fun ρ=>rfl⟩
      rw [ev] at h
      split at h
      ·rename_i i hi
       split at h
       ·rename_i j hj
        split at h
        ·rename_i l hl;cases h;exact sP (oa.v le hi) (ob.v le hj) (oc.v le hl) (t_ hs.2)
        ·cases h
       ·cases h
      ·cases h
     ·cases h
    ·cases h
   ·cases h
  ·cases h
 ·
  rename_i c a b _
  split at h
  ·rename_i z x y h0 h1 h2
   cases h
   obtain ⟨_,_,oc⟩:=ih.e X sc N w xe c z h0
   obtain ⟨_,_,oa⟩:=ih.e X sc N w xe a x h1
   obtain ⟨_,_,ob⟩:=ih.e X sc N w xe b y h2
   refine ⟨rfl,(fun z=>nomatch z),OkE.of (fun le h=>?_) (fun le h=>by unfold evT at h;cases h) (fun le _ h=>by unfold evI at h;cases h) rfl fun ρ=>rfl⟩
   rw [ev] at h
   split at h
   ·rename_i hq;exact uO (oc.t le hq) (fun _=>oa.v le h) fun z=>nomatch z
   ·rename_i hq;exact uO (oc.t le hq) (fun z=>nomatch z) fun _=>ob.v le h
   ·cases h
  ·cases h
 ·
  rename_i es j _
  cases hq:cA n sc N es with
  |none=>rw [hq] at h;cases h
  |some ces=>
   rw [hq] at h;cases h
   obtain ⟨_,oa⟩:=ih.a X sc N w xe es ces hq
   refine ⟨rfl,(fun z=>nomatch z),OkE.of (fun le h=>?_) (fun le h=>by unfold evT at h;cases h) (fun le _ h=>?_) rfl fun ρ=>rfl⟩
   ·rw [ev] at h
    split at h
    ·rename_i ds hd
     split at h
     ·rename_i hl;cases h;exact qp (oa _ _ ds le hd).1 hl
     ·cases h
    ·cases h
   ·unfold evI at h
    split at h
    ·rename_i ds hd
     split at h
     ·rename_i hl;cases h;exact pQ (qp (oa _ _ _ le hd).1 hl)
     ·cases h
    ·cases h
 ·
  rename_i es _
  cases hq:cA n sc N es with
  |none=>rw [hq] at h;cases h
  |some ces=>
   rw [hq] at h;cases h
   obtain ⟨_,oa⟩:=ih.a X sc N w xe es ces hq
   refine ⟨rfl,(fun z=>nomatch z),⟨fun le h=>?_,fun le h=>(by unfold evT at h;cases h),fun le _ h=>?_,fun z=>(nomatch z),fun i z=>(nomatch z),fun i z=>(nomatch z),fun le h=>?_⟩⟩
   ·rw [ev] at h
    split at h
    ·rename_i ds hd
     split at h
     ·rename_i hl;cases h;exact qf (oa _ _ ds le hd).1 hl
     ·cases h
    ·cases h
   ·unfold evI at h
    split at h
    ·rename_i ds hd
     split at h
     ·rename_i hl;cases h;exact qU (qf (oa _ _ _ le hd).1 hl)
     ·cases h
    ·cases h
   ·unfold evV at h
    dsimp only at h
    split at h
    ·rename_i ds hd
     split at h
     ·rename_i hl
      cases h
      have:=yK (pos:=‹Pos›) (oa _ _ ds le hd).1 hl
      exact ⟨fun d hd=>by cases hd;exact this.de,fun c hc=>by cases hc;exact this.x,by intro d z;cases z⟩
     ·cases h
    ·cases h
 ·
  split at h
  ·split at h
   ·skip
    cases h
    refine ⟨rfl,(fun z=>nomatch z),⟨fun le h=>?_,fun le h=>(by unfold evT at h;cases h),fun le _ h=>(by unfold evI at h;cases h),fun z=>(nomatch z),fun i z=>(nomatch z),fun i z=>(nomatch z),fun le h=>?_⟩⟩
    ·rw [ev] at h;cases h;exact jl.de
    ·unfold evV at h
     cases h
     exact ⟨fun d hd=>by cases hd;exact jl.de,fun c hc=>by cases hc;exact jl,by intro d z;cases z⟩
   ·cases h
  ·cases h
 ·
  rename_i a b _
  split at h
  ·rename_i lo hi st _
   split at h
   ·
    split at h
    ·rename_i x y z h1 h2 h3
     cases h
     obtain ⟨_,_,oa⟩:=ih.e X sc N w xe a x h1
     refine ⟨rfl,(fun z=>nomatch z),OkE.of (fun le h=>?_) (fun le h=>by unfold evT at h;cases h) (fun le _ h=>?_) rfl fun ρ=>rfl⟩
     ·rw [ev] at h
      split at h
      ·rename_i u hu
       split at h
       ·rename_i l hl
        split at h
        ·rename_i v hv
         have d1:=ih.o X sc N w xe lo y h2 _ _ l le hl
         have d2:=ih.o X sc N w xe hi z h3 _ _ v le hv
         unfold slD at h
         split at h
         ·cases h;exact qX (oa.v le hu) d1 d2
         ·cases h;exact qN (oa.v le hu) d1 d2
         ·cases h
        ·cases h
       ·cases h
      ·cases h
     ·unfold evI at h
      split at h
      ·rename_i u hu
       split at h
       ·rename_i l hl
        split at h
        ·rename_i v hv
         have d1:=ih.o X sc N w xe lo y h2 _ _ l le hl
         have d2:=ih.o X sc N w xe hi z h3 _ _ v le hv
         split at h
         ·rename_i d hd
          unfold slD at hd
          split at hd
          ·cases hd;exact eU (qX (oa.v le hu) d1 d2) h
          ·cases hd;exact eU (qN (oa.v le hu) d1 d2) h
          ·cases hd
         ·cases h
        ·cases h
       ·cases h
      ·cases h
    ·cases h
   ·cases h
  ·
   split at h
   ·rename_i x y h1 h2
    split at h
    ·rename_i hs
     cases h
     obtain ⟨_,_,oa⟩:=ih.e X sc N w xe a x h1
     obtain ⟨_,_,ob⟩:=ih.e X sc N w xe b y h2
     have go:∀{ρ ρ':Rho} {u v d:D},Le ρ ρ'->ev G cl x ρ=some u->ev G cl y ρ=some v->ixD u v=some d->DE X ρ' (.Subscript a b ‹Pos›) d:=fun le hu hv hd=>AJ xe.units hs (oa.v le hu) (ob.v le hv) hd
     refine ⟨rfl,(fun z=>nomatch z),OkE.of (fun le h=>?_) (fun le h=>by unfold evT at h;cases h) (fun le _ h=>?_) rfl fun ρ=>rfl⟩
     ·rw [ev] at h
      split at h
      ·rename_i u hu
       split at h
       ·rename_i v hv;exact go le hu hv h
       ·cases h
      ·cases h
     ·unfold evI at h
      split at h
      ·rename_i u hu
       split at h
       ·rename_i v hv
        split at h
        ·rename_i d hd;exact eU (go le hu hv hd) h
        ·cases h
       ·cases h
      ·cases h
    ·cases h
   ·cases h
 ·
  rename_i a f _
  split at h
  ·rename_i hb
   cases hq:cE n sc N a with
   |none=>rw [hq] at h;cases h
   |some x=>
    rw [hq] at h;cases h
    obtain ⟨_,_,oa⟩:=ih.e X sc N w xe a x hq
    have go:∀{ρ ρ':Rho} {u d:D},Le ρ ρ'->ev G cl x ρ=some u->b_ G u f=some d->DE X ρ' (.Attribute a f ‹Pos›) d:=fun {ρ ρ' u d} le hu hd=>by
     have hK:=xe.K_
     subst hK
     unfold b_ at hd
     split at hd
     ·split at hd
      ·rename_i hf;exact yS (oa.v le hu) (R.fok _ _ hf).1 (R.fok _ _ hf).2 hd (jh hb)
      ·cases hd
     ·split at hd
      ·rename_i hf;exact vR (oa.v le hu) (R.xok _ _ hf).1 (R.xok _ _ hf).2 hd (jh hb)
      ·cases hd
     ·cases hd
    refine ⟨rfl,(fun z=>nomatch z),OkE.of (fun le h=>?_) (fun le h=>by unfold evT at h;cases h) (fun le _ h=>?_) rfl fun ρ=>rfl⟩
    ·rw [ev] at h
     split at h
     ·rename_i u hu;exact go le hu h
     ·cases h
    ·unfold evI at h
     split at h
     ·rename_i u hu
      split at h
      ·rename_i d hd;exact eU (go le hu hd) h
      ·cases h
     ·cases h
  ·cases h
 ·
  rename_i f args ks cp
  split at h
  ·split at h
   ·rename_i x p'
    split at h
    ·rename_i hn
     simp only [Bool.and_eq_true] at hn
     obtain ⟨⟨hn1,hg⟩,_⟩:=hn
     split at h
     ·rename_i ces hq
      obtain ⟨ss,oa⟩:=ih.a X sc N w xe args ces hq
      split at h
      ·rename_i b hb
       cases h
       have vb:∀{ρ ρ':Rho} {d:D},Le ρ ρ'->ev G cl (.blt b ces) ρ=some d->DE X ρ' (.Call (.Name x p') args [] cp) d:=by
        intro ρ ρ' d le h
        rw [ev] at h
        split at h
        ·rename_i ds hd
         obtain ⟨a1,a2,a3⟩:=oa _ _ ds le hd
         split at h
         ·split at h
          ·split at h
           ·rename_i d0 xs hs
            cases h
            match args,a2,a1,ss with
            |[e0],_,a1,ss=>exact (nU R xe hb hg a1 (ss e0 (by simp)) hs).de
           ·cases h
          ·cases h
         ·cases h
         ·exact qE R xe hb hg a1 a2 ss h
        ·cases h
       refine ⟨rfl,(fun z=>nomatch z),⟨vb,fun le h=>?_,fun le ht h=>?_,fun z=>(nomatch z),fun i z=>(nomatch z),fun i z=>(nomatch z),fun {ρ ρ' r} le h=>?_⟩⟩
       ·unfold evT at h
        split at h
        ·rename_i ds hd
         split at h
         ·rename_i q hq
          cases h
          obtain ⟨a1,a2,a3⟩:=oa _ _ ds le hd
          exact gI (qE R xe hb hg a1 a2 ss hq)
         ·cases h
        ·cases h
       ·unfold evI at h
        split at h
        ·rename_i ds hd
         split at h
         ·rename_i its hi
          cases h
          obtain ⟨a1,a2,a3⟩:=oa _ _ ds le hd
          exact zR R xe ht hb hg a1 a2 ss hi
         ·cases h
        ·cases h
       ·have dflt:(evV G cl (.blt b ces) ρ=match ev G cl (.blt b ces) ρ with|some d=>some (.ok d)|none=>none)->(∀d,r.val=some d->DE X ρ' (.Call (.Name x p') args [] cp) d)∧(∀c,r=.fr c->DFx X ρ' (.Call (.Name x p') args [] cp) c)∧(∀d,r=.xc d->DEX X ρ' (.Call (.Name x p') args [] cp) d):=by
         intro q
         rw [q] at h
         split at h
         ·rename_i d hd;cases h;exact ⟨fun d' hd'=>by cases hd';exact vb le hd,(by intro c z;cases z),by intro d z;cases z⟩
         ·cases h
        cases b with
        |list=>
         unfold evV at h
         dsimp only at h
         split at h
         ·rename_i xs hx
          cases h
          refine ⟨fun d' hd'=>by cases hd';exact vb le hx,fun c hc=>?_,by intro d z;cases z⟩
          cases hc
          rw [ev] at hx
          split at hx
          ·rename_i ds hd
           obtain ⟨a1,a2,a3⟩:=oa _ _ ds le hd
           dsimp only at hx
           split at hx
           ·split at hx
            ·rename_i d0 ys hs
             cases hx
             match args,a2,a1,ss with
             |[e0],_,a1,ss=>exact (nU R xe hb hg a1 (ss e0 (by simp)) hs).x
            ·cases hx
           ·cases hx
          ·cases hx
         ·cases h
        |dict=>
         unfold evV at h
         dsimp only at h
         split at h
         ·rename_i xs hx
          rw [ev] at hx
          dsimp only at hx
          split at hx<;>cases hx
         ·cases h
        |len=>exact dflt rfl
        |sum=>exact dflt rfl
        |all=>exact dflt rfl
        |any=>exact dflt rfl
        |abs=>exact dflt rfl
        |int=>exact dflt rfl
        |tuple=>exact dflt rfl
        |min=>exact dflt rfl
        |max=>exact dflt rfl
        |isin=>exact dflt rfl
        |range=>exact dflt rfl
        |zip=>exact dflt rfl
        |enum=>exact dflt rfl
        |str=>exact dflt rfl
        |sorted=>exact dflt rfl
      ·cases h
       have go:∀{ρ ρ':Rho} {ds:List D} {r:Rs},Le ρ ρ'->evA G cl ces ρ=some ds->fnR G cl x ds=some r->(∀d,r.val=some d->DE X ρ' (.Call (.Name x p') args [] cp) d)∧(∀c,r=.fr c->DFx X ρ' (.Call (.Name x p') args [] cp) c)∧(∀d,r=.xc d->DEX X ρ' (.Call (.Name x p') args [] cp) d):=fun le hd hr=>by
        obtain ⟨a1,a2,a3⟩:=oa _ _ _ le hd
        exact Bf R C hk xe hn1 hg a1 a2 ss hr
       refine ⟨rfl,(fun z=>nomatch z),⟨fun le h=>?_,fun le h=>?_,fun le ht h=>?_,fun z=>(nomatch z),fun i z=>(nomatch z),fun i z=>(nomatch z),fun {ρ ρ' r} le h=>?_⟩⟩
       ·rw [ev] at h
        split at h
        ·rename_i ds hd
         split at h
         ·rename_i r hr;exact (go le hd hr).1 _ h
         ·cases h
        ·cases h
       ·unfold evT at h
        split at h
        ·rename_i ds hd
         split at h
         ·rename_i q hr;cases h;exact gI ((go le hd hr).1 _ rfl)
         ·cases h
        ·cases h
       ·unfold evI at h
        split at h
        ·rename_i ds hd
         split at h
         ·rename_i r hr
          split at h
          ·rename_i d hv;exact eU ((go le hd hr).1 _ hv) h
          ·cases h
         ·cases h
        ·cases h
       ·unfold evV at h
        dsimp only at h
        split at h
        ·rename_i ds hd;exact go le hd h
        ·cases h
     ·cases h
    ·cases h
   ·rename_i o m ap
    split at h
    ·rename_i hn
     simp only [Bool.and_eq_true,decide_eq_true_eq] at hn
     obtain ⟨⟨hb,h30⟩,hp⟩:=hn
     split at h
     ·rename_i x ces h1 h2
      cases h
      obtain ⟨_,_,oo⟩:=ih.e X sc N w xe o x h1
      obtain ⟨ss,oa⟩:=ih.a X sc N w xe args ces h2
      have go:∀{ρ ρ':Rho} {u:D} {ds:List D} {r:Rs},Le ρ ρ'->ev G cl x ρ=some u->evA G cl ces ρ=some ds->bw G cl u m ds=some r->(∀d,r.val=some d->DE X ρ' (.Call (.Attribute o m ap) args [] cp) d)∧(∀c,r=.fr c->DFx X ρ' (.Call (.Attribute o m ap) args [] cp) c)∧(∀d,r=.xc d->DEX X ρ' (.Call (.Attribute o m ap) args [] cp) d):=fun le hu hd hr=>by
       obtain ⟨a1,a2,a3⟩:=oa _ _ _ le hd
       exact yb R C hk xe hb h30 hp (oo.v le hu) a1 a3 a2 ss hr
      refine ⟨rfl,(fun z=>nomatch z),⟨fun le h=>?_,fun le h=>?_,fun le ht h=>?_,fun z=>(nomatch z),fun i z=>(nomatch z),fun i z=>(nomatch z),fun {ρ ρ' r} le h=>?_⟩⟩
      ·rw [ev] at h
       split at h
       ·rename_i u hu
        split at h
        ·rename_i ds hd
         split at h
         ·rename_i r hr;exact (go le hu hd hr).1 _ h
         ·cases h
        ·cases h
       ·cases h
      ·unfold evT at h
       split at h
       ·rename_i u hu
        split at h
        ·rename_i ds hd
         split at h
         ·rename_i q hr;cases h;exact gI ((go le hu hd hr).1 _ rfl)
         ·cases h
        ·cases h
       ·cases h
      ·unfold evI at h
       split at h
       ·rename_i u hu
        split at h
        ·rename_i ds hd
         split at h
         ·rename_i r hr
          split at h
          ·rename_i d hv;exact eU ((go le hu hd hr).1 _ hv) h
          ·cases h
         ·cases h
        ·cases h
       ·cases h
      ·unfold evV at h
       dsimp only at h
       split at h
       ·rename_i u hu
        split at h
        ·rename_i ds hd;exact go le hu hd h
        ·cases h
       ·cases h
     ·cases h
    ·cases h
   ·cases h
  ·cases h
 ·
  rename_i elt gs scope _
  split at h
  ·rename_i tg it ifs gens
   split at h
   ·rename_i hn
    simp only [Bool.and_eq_true] at hn
    split at h
    ·rename_i t i c b h1 h2 h3 h4
     cases h
     have go:=fun {ρ ρ':Rho} {d:D} (le:Le ρ ρ') (h:ev G cl (.comp (ownOf scope).length ((b5 scope N).map (·.2)) t i c b) ρ=some d)=>vO (pos:=‹Pos›) ih xe hn.1 hn.2 h1 h2 h3 h4 le h
     have hcx:∀{ρ ρ':Rho} {r:Rs},Le ρ ρ'->evV G cl (.comp (ownOf scope).length ((b5 scope N).map (·.2)) t i c b) ρ=some r->∃c,r=.fr c∧DCx X ρ' (.ListComp elt (⟨tg,it,ifs,0⟩::gens) scope ‹Pos›) c:=fun {ρ ρ' r} le h=>by
      unfold evV at h
      dsimp only at h
      split at h
      ·rename_i xs hx
       cases h
       obtain ⟨ys,e,dc⟩:=go le hx
       cases e
       exact ⟨_,rfl,dc.cx⟩
      ·cases h
     refine ⟨rfl,(fun z=>nomatch z),⟨fun le h=>?_,fun le h=>(by unfold evT at h;cases h),fun le ht h=>(by unfold evI at h;cases h),fun _ le h=>hcx le h,fun i z=>(nomatch z),fun i z=>(nomatch z),fun {ρ ρ' r} le h=>?_⟩⟩
     ·obtain ⟨xs,rfl,dc⟩:=go le h
      exact dc.de
     ·obtain ⟨c',rfl,dc⟩:=hcx le h
      exact ⟨fun d hd=>by cases hd;exact dc.pe.de,fun c hc=>by cases hc;exact dc.pe,by intro d z;cases z⟩
    ·cases h
   ·cases h
  ·cases h
 ·cases h
theorem zK (R:Row P wd K mg base G) (C:Calls P wd K mg base G kc cl) (hk:kc+2<=k):∀n,All P wd K mg base G cl k n:=by
 intro n
 induction n with
 |zero=>exact ⟨fun X sc N w xe e ce h=>(by unfold cE at h;cases h),fun X sc N w xe es ces h=>(by unfold cA at h;cases h),fun X sc N w xe op es ce h=>(by unfold cB at h;cases h),fun X sc N w xe oe ce h=>(by unfold cO at h;cases h),fun X sc N w xe ifs ce h=>(by unfold cIf at h;cases h),fun X sc N w xe gens elt ce h=>(by unfold cG at h;cases h)⟩
 |succ n ih=>
  exact ⟨fun X sc N w xe e ce h=>AE R C hk ih xe h,fun X sc N w xe es ces h=>Bi ih xe h,fun X sc N w xe op es ce h=>A_ ih xe h,fun X sc N w xe oe ce h ρ ρ' l le hl=>Bq ih xe h le hl,fun X sc N w xe ifs ce h ρ ρ' b le hl=>BD ih xe h le hl,
   fun X sc N w xe gens elt ce h full m hf scope pos ρ ρ' out acc le ho=>AY ih xe h hf le ho⟩
end
end IN
namespace IN
open PySem PySem.Spec PySem.W L2 CT
open PyProof.Rows hiding St
noncomputable def tr (z dx:Addr):Sl->Sl
 |.new C _ _ fs=>.new C z dx fs
 |s=>s
noncomputable abbrev trR (z dx:Addr) (ρ:Rho):Rho:=ρ.map (tr z dx)
section
variable {z dx:Addr} {ρ:Rho}
theorem l6 {i:Nat} {d:D} (h:ρ[i]?=some (.val d)):(trR z dx ρ)[i]?=some (.val d):=by rw [List.getElem?_map,h];rfl
theorem bU {i:Nat} {c:Ow} (h:ρ[i]?=some (.owx c)):(trR z dx ρ)[i]?=some (.owx c):=by rw [List.getElem?_map,h];rfl
theorem bE:Le ρ (trR z dx ρ):=⟨by simp,fun i d h=>l6 h,fun i h=>by rw [List.getElem?_map,h];rfl⟩
theorem bh {i:Nat} {s:Sl}:trR z dx (ρ.set i s)=(trR z dx ρ).set i (tr z dx s):=by unfold trR;rw [List.map_set]
theorem eh {i:Nat}:trR z dx (ρ.modify i aI)=trR z dx ρ∨∃c,ρ[i]?=some (.owx c)∧trR z dx (ρ.modify i aI)=(trR z dx ρ).set i (.val c.D):=by
 cases h:ρ[i]? with
 |none=>
  left
  rw [List.modify_eq_self (by simpa using h)]
 |some s=>
  have hi:=(List.getElem?_eq_some_iff.mp h).1
  have e:ρ.modify i aI=ρ.set i (aI s):=by
   refine List.ext_getElem? fun j=>?_
   rw [List.getElem?_modify]
   by_cases hj:i=j
   ·subst hj;rw [List.getElem?_set_self hi,h];simp
   ·rw [List.getElem?_set_ne hj];simp [hj]
  cases s with
  |owx c=>right;exact ⟨c,rfl,by rw [e,bh];rfl⟩
  |_=>
   left
   rw [e]
   congr 1
   refine List.ext_getElem? fun j=>?_
   by_cases hj:i=j
   ·subst hj;rw [List.getElem?_set_self hi,h];rfl
   ·rw [List.getElem?_set_ne hj]
end
section
variable {X:Cx} {ρ:Rho} {e:Expr} {d:D} {i:Nat} {c c':Ow} {xs:List D} {st:Stmt} {o:Out}
theorem bI.cZ {K:Frag} {H:Hp} {S:Ad} {a:Addr} {ob:HO} (cc:fM a ob) (ha:H a=some ob):∀(es:List (CT.PK×D)) {kvs:List (CT.PK×Addr×V)},(es.all fun p=>ak p.2)=true->bI K H S es kvs->bI K H (S.and a) es kvs
 |[],_,_,r=>by cases r;exact .nil
 |(k,d)::es,_,h,r=>by
  have h':ak d=true∧(es.all fun p=>ak p.2)=true:=by simpa using h
  have nk:∀k:CT.PK,ak (CT.PK.d k)=true:=by
   intro k
   exact CT.PK.rec (motive_1:=fun k=>ak (CT.PK.d k)=true) (motive_2:=fun l=>bg (CT.PK.dL l)=true) (fun n=>rfl) (fun l ih=>ih) rfl (fun k l h1 h2=>by show (ak (CT.PK.d k)&&bg (CT.PK.dL l))=true;rw [h1,h2];rfl) k
  cases r with
  |cons hd kk r t=>exact .cons hd (Rds.cZ cc ha _ (nk k) kk) (Rds.cZ cc ha d h'.1 r) (bI.cZ cc ha es h'.2 t)
theorem je {K:Frag} {σ:L2.St} {H:Hp} {Q:VK} (hr:ρ[i]?=some (.owx c)) (hf:b6 c'=true):oV K ρ c' σ H Q->oV K (ρ.set i (.val c.D)) c' σ H Q:=fun ⟨S,ve,k⟩=>by
 obtain ⟨S',a,us,ha,cc,hS,ve'⟩:=ve.u5 hr
 refine ⟨S',ve',fun a' ob H' ex hn ha' r=>k a' ob H' ex hn ha' ?_⟩
 have hb:∀b,(S.and a') b->((S'.and a').and a) b:=fun b hb=>by
  rcases hb with hb|hb
  ·rcases hS b hb with z|z
   ·exact .inl (.inl z)
   ·exact .inr z
  ·exact .inl (.inr hb)
 have ha2:=ex _ _ (fun z=>z) ha
 cases c' with
 |l xs=>obtain ⟨vs,q,r⟩:=r;exact ⟨vs,q,(ae.cZ cc ha2 xs hf r).av fun b h=>.inl (hb b h)⟩
 |d es=>obtain ⟨ep,vs,q,r⟩:=r;exact ⟨ep,vs,q,(bI.cZ cc ha2 es hf r).av fun b h=>.inl (hb b h)⟩
theorem kC (hr:ρ[i]?=some (.owx c)) (hf:b6 c'=true) (h:DFx X (ρ.set i (.val c.D)) e c'):DFx X ρ e c':=PE.weak h fun σ H Q=>je hr hf
theorem rC (hr:ρ[i]?=some (.owx c)) (hf:b6 c'=true) (h:DCx X (ρ.set i (.val c.D)) e c'):DCx X ρ e c':=
 ⟨kC hr hf h.pe,fun j x pos' spos hN hix hx hl hsw=>PS.weak (h.ps j x pos' spos hN hix hx hl hsw) fun D σ H q=>je (Q:=fun x H1=>fU j x σ H1 D.nx) hr hf q⟩
theorem xh (hr:ρ[i]?=some (.owx c)) (h:DS X (ρ.set i (.val c.D)) st o):DS X ρ st o:=PS.weak h fun E σ H ⟨H₀,S₀,S,f,k⟩=>by
 obtain ⟨S',_,f'⟩:=f.give hr
 exact ⟨H₀,S₀,S',f',k⟩
variable {z dx:Addr}
theorem aW:∀{L:List Nat} {ρ:Rho},DS X (trR z dx (af L ρ)) st o->DS X (trR z dx ρ) st o
 |[],_,h=>h
 |i::L,ρ,h=>by
  have h':=aW (L:=L) (ρ:=ρ.modify i aI) h
  rcases eh (z:=z) (dx:=dx) (ρ:=ρ) (i:=i) with e|⟨c,hc,e⟩
  ·rw [e] at h';exact h'
  ·rw [e] at h';exact xh (bU hc) h'
theorem c6 {ρ':Rho}:∀{L:List Nat} {ρ:Rho},DSX X (trR z dx (af L ρ)) st ρ' d->DSX X (trR z dx ρ) st ρ' d
 |[],_,h=>h
 |i::L,ρ,h=>by
  have h':=c6 (L:=L) (ρ:=ρ.modify i aI) h
  rcases eh (z:=z) (dx:=dx) (ρ:=ρ) (i:=i) with e|⟨c,hc,e⟩
  ·rw [e] at h';exact h'
  ·rw [e] at h';exact tJ (bU hc) h'
theorem bN (hn:ak d=true):∀{L:List Nat} {ρ:Rho},DE X (trR z dx (af L ρ)) e d->DE X (trR z dx ρ) e d
 |[],_,h=>h
 |i::L,ρ,h=>by
  have h':=bN hn (L:=L) (ρ:=ρ.modify i aI) h
  rcases eh (z:=z) (dx:=dx) (ρ:=ρ) (i:=i) with e|⟨c,hc,e⟩
  ·rw [e] at h';exact h'
  ·rw [e] at h';exact tI (bU hc) hn h'
theorem gG (hn:b6 c'=true):∀{L:List Nat} {ρ:Rho},DFx X (trR z dx (af L ρ)) e c'->DFx X (trR z dx ρ) e c'
 |[],_,h=>h
 |i::L,ρ,h=>by
  have h':=gG hn (L:=L) (ρ:=ρ.modify i aI) h
  rcases eh (z:=z) (dx:=dx) (ρ:=ρ) (i:=i) with e|⟨c,hc,e⟩
  ·rw [e] at h';exact h'
  ·rw [e] at h';exact kC (bU hc) hn h'
theorem ke (hn:b6 c'=true):∀{L:List Nat} {ρ:Rho},DCx X (trR z dx (af L ρ)) e c'->DCx X (trR z dx ρ) e c'
 |[],_,h=>h
 |i::L,ρ,h=>by
  have h':=ke hn (L:=L) (ρ:=ρ.modify i aI) h
  rcases eh (z:=z) (dx:=dx) (ρ:=ρ) (i:=i) with e|⟨c,hc,e⟩
  ·rw [e] at h';exact h'
  ·rw [e] at h';exact rC (bU hc) hn h'
theorem gc {q:Bool}:∀{L:List Nat} {ρ:Rho},DT X (trR z dx (af L ρ)) e q->DT X (trR z dx ρ) e q
 |[],_,h=>h
 |i::L,ρ,h=>by
  have h':=gc (L:=L) (ρ:=ρ.modify i aI) h
  rcases eh (z:=z) (dx:=dx) (ρ:=ρ) (i:=i) with e|⟨c,hc,e⟩
  ·rw [e] at h';exact h'
  ·rw [e] at h';exact vx (bU hc) h'
theorem jR {C a b:Addr} {fs:List (Str×D)}:∀{L:List Nat} {ρ:Rho} {j:Nat},ρ[j]?=some (.new C a b fs)->(af L ρ)[j]?=some (.new C a b fs)
 |[],_,_,h=>h
 |i::L,ρ,j,h=>by
  refine jR (L:=L) (ρ:=ρ.modify i aI) ?_
  rw [List.getElem?_modify,h]
  split<;>rfl
end
end IN
namespace IN
open PySem PySem.Spec PySem.W L2 CT
open PyProof.Rows hiding St
section
variable {X:Cx} {ρ ρ':Rho} {e tg:Expr} {d:D} {pos:Pos} {ks:List Nat}
theorem nY (he:DE X ρ e d) (hg:DG X tg ρ d ρ' ks) (ht:cz ρ ρ' ks) (hs:swapsWithSole [tg] e pos.line X.env=pure false) (hw:swappedStores [tg] e X.env=pure none) (h1:(assignEach [tg] X.env).map (·.2)=[assign tg X.env]):
  DS X ρ (.Assign [tg] e pos) (.nx ρ'):=PS.weak (pT he hg hs hw h1) fun E σ H ⟨H₀,S₀,S,f,k⟩=>⟨S,f.ve,fun v H' ex r=>⟨S,(f.grow ex).ve,r,fun σ' ve' c=>k σ' H' S ((f.grow ex).tgt ve' c ht)⟩⟩
theorem rT {i j:Nat} {x y:Str} {a b:Expr} {da db:D} {px py pt:Pos} {kt k2 pt2} (hc:X.calm=true) (hN:X.N.Nodup) (hi:X.N[i]?=some x) (hj:X.N[j]?=some y) (hij:i≠j)
  (hx:X.env.scope.names.lookup x=some .local) (hy:X.env.scope.names.lookup y=some .local) (ha:DA X ρ [a,b] [da,db])
  (hw:swappedStores [.Tuple [.Name x px,.Name y py] kt pt] (.Tuple [a,b] k2 pt2) X.env=pure (some [x,y])):
  DS X ρ (.Assign [.Tuple [.Name x px,.Name y py] kt pt] (.Tuple [a,b] k2 pt2) pos) (.nx ((ρ.set i (.val da)).set j (.val db))):=
 PS.weak (xK hc hN hi hj hij hx hy ha hw) fun E σ H ⟨H₀,S₀,S,f,k⟩=>⟨S,f.ve,fun vs H' ex rs=>by
  obtain ⟨v,u,rfl,r1,r2⟩:=rs.two
  exact ⟨v,u,rfl,k _ H' S (((f.grow ex).set r1).set r2)⟩⟩
theorem ae.put {K:Frag} {H:Hp} {S:Ad}:∀{xs:List D} {vs:List V} {d:D} {v:V} (j:Nat),ae K H S xs vs->Rds K H S d v->ae K H S (xs.set j d) (vs.set j v)
 |_,_,_,_,_,.nil,_=>.nil
 |_,_,_,_,0,.cons _ t,r=>.cons r t
 |_,_,_,_,j+1,.cons h t,r=>.cons h (ae.put j t r)
theorem vA {o i value:Expr} {td ty tv:TE} {pos':Pos} (ho:PE X o td) (hi:PE X i ty) (hv:PE X value tv) (hs:swapsWith value (some (.Subscript o i pos')) pos.line X.env=pure false):
  PS X (.Assign [.Subscript o i pos'] value pos) (fun D σ H=>tv σ H fun v H1=>td σ H1 fun x H2=>ty σ H2 fun y H3=>u_ x y v H3 fun H4=>D.nx σ H4):=by
 intro pins s σ H D I h
 refine wpAny_Assign_Subscript (thn (hv pins s σ H _ I h) fun r s1 ⟨v,H1,I1,rv,q1⟩=>thn (ho pins s1 σ H1 _ I1 q1) fun u s2 ⟨x,H2,I2,rx,q2⟩=>thn (hi pins s2 σ H2 _ I2 q2) fun iv s3 ⟨y,H3,I3,ry,q3⟩=>?_) hs
 exact thn (set_list pins s3 σ H3 x y v u iv r _ I3 rx ry rv q3) fun _ s4 ⟨H4,I4,q4⟩=>⟨σ,H4,I4,q4⟩
theorem n8 {n:Nat} {x:Str} {i value:Expr} {xs:List D} {j:Int} {p pos':Pos} (hN:X.N[n]?=some x) (hv:Vis X.env.scope x) (hr:ρ[n]?=some (.owx (.l xs))) (hi:DE X ρ i (.int j)) (he:DE X ρ value d) (hj:0<=j∧j.toNat<xs.length)
  (hs:swapsWith value (some (.Subscript (.Name x p) i pos')) pos.line X.env=pure false) (hd:(x==("__debug__":Str))=false) (hcd:(x==("__classdict__":Str))=false):
  DS X ρ (.Assign [.Subscript (.Name x p) i pos'] value pos) (.nx (ρ.set n (.owx (.l (xs.set j.toNat d))))):=
 PS.weak (vA (dM hN hv hd hcd) hi he hs) fun E σ H ⟨H₀,S₀,S,f,k⟩=>⟨S,f.ve,fun v H1 ex r=>by
  have f1:=f.grow ex
  obtain ⟨w,h1,a,_,rfl,sa,ha,vs,rfl,rp⟩:=f1.ve.rel n _ hr
  refine ⟨_,h1,S,f1.ve,fun y H2 e2 r2=>?_⟩
  cases r2
  refine ⟨a,vs,j,j.toNat,rfl,rfl,e2 _ _ (fun z=>z) ha,?_,k _ _ S ((f1.grow e2).qk hr h1 (ae.put _ (rp.ext (e2.to S)) (r.ext (e2.to S))))⟩
  have hl:=rp.length
  unfold ixN
  simp only [hj.1,if_true]
  rw [if_pos (by omega)]⟩
theorem Fm.move {K:Frag} {H₀ H:Hp} {S₀ S:Ad} {σ:L2.St} {i j:Nat} {c:Ow} {a:Addr} (f:Fm K H₀ S₀ H S ρ σ) (hij:i≠j) (hr:ρ[i]?=some (.owx c)) (hs:σ[i]?=some (some (.ref a))):Fm K H₀ S₀ H S ((ρ.set i .any).set j (.owx c)) (σ.set j (some (.ref a))):=by
 have key:∀(m:Nat) (x:Sl),((ρ.set i .any).set j (.owx c))[m]?=some x->(j=m∧x=.owx c∧j<ρ.length)∨(j≠m∧i=m∧x=.any)∨(j≠m∧i≠m∧ρ[m]?=some x):=fun m x h=>by
  by_cases hm:j=m
  ·subst hm
   have hj:j<ρ.length:=by have:=(List.getElem?_eq_some_iff.mp h).1;simpa using this
   rw [List.getElem?_set_self (by simpa using hj)] at h
   exact .inl ⟨rfl,(Option.some.inj h).symm,hj⟩
  ·rw [List.getElem?_set_ne hm] at h
   by_cases hi:i=m
   ·subst hi
    have hi':i<ρ.length:=(List.getElem?_eq_some_iff.mp hr).1
    rw [List.getElem?_set_self hi'] at h
    exact .inr (.inl ⟨hm,rfl,(Option.some.inj h).symm⟩)
   ·rw [List.getElem?_set_ne hi] at h
    exact .inr (.inr ⟨hm,hi,h⟩)
 obtain ⟨v,q1,q2⟩:=f.ve.rel i _ hr
 refine ⟨⟨by simpa using f.ve.len,fun m x h=>?_,fun m k x y b hmk h1 h2 o1 o2 h3 h4=>?_,f.ve.dom⟩,f.ext,f.sub,f.new,f.dm,fun m x b h o h2=>?_⟩
 ·rcases key m x h with ⟨rfl,rfl,hj⟩|⟨hm,rfl,rfl⟩|⟨hm,hi,h'⟩
  ·rw [hs] at q1;cases q1
   exact ⟨_,List.getElem?_set_self (f.ve.len▸hj),q2⟩
  ·rw [List.getElem?_set_ne hm];exact ⟨_,hs,trivial⟩
  ·rw [List.getElem?_set_ne hm];exact f.ve.rel m x h'
 ·rcases key m x h1 with ⟨rfl,rfl,hj⟩|⟨hm,rfl,rfl⟩|⟨hm,hi,h1'⟩
  ·rw [List.getElem?_set_self (f.ve.len▸hj)] at h3
   cases h3
   rcases key k y h2 with ⟨rfl,_,_⟩|⟨hk,rfl,rfl⟩|⟨hk,hi,h2'⟩
   ·exact hmk rfl
   ·exact o2
   ·rw [List.getElem?_set_ne hk] at h4
    exact f.ve.dist i k _ y a hi hr h2' trivial o2 hs h4
  ·exact o1
  ·rw [List.getElem?_set_ne hm] at h3
   rcases key k y h2 with ⟨rfl,rfl,hj⟩|⟨hk,rfl,rfl⟩|⟨hk,hi2,h2'⟩
   ·rw [List.getElem?_set_self (f.ve.len▸hj)] at h4
    cases h4
    exact f.ve.dist m i x _ a (Ne.symm hi) h1' hr o1 trivial h3 hs
   ·exact o2
   ·rw [List.getElem?_set_ne hk] at h4
    exact f.ve.dist m k x y b hmk h1' h2' o1 o2 h3 h4
 ·rcases key m x h with ⟨rfl,rfl,hj⟩|⟨hm,rfl,rfl⟩|⟨hm,hi,h'⟩
  ·rw [List.getElem?_set_self (f.ve.len▸hj)] at h2
   cases h2
   exact f.own i _ a hr trivial hs
  ·exact o.elim
  ·rw [List.getElem?_set_ne hm] at h2
   exact f.own m x b h' o h2
theorem we {i j:Nat} {x y:Str} {p q:Pos} {c:Ow} (hN:X.N.Nodup) (hi:X.N[i]?=some y) (hj:X.N[j]?=some x) (hij:i≠j) (hv:Vis X.env.scope y) (hx:L2.Loc X.env.scope x) (hf:X.fn x=true∨X.env.scope.names.lookup x=some .local) (hr:ρ[i]?=some (.owx c))
  (hd:(y==("__debug__":Str))=false) (hcd:(y==("__classdict__":Str))=false):DS X ρ (.Assign [.Name x p] (.Name y q) pos) (.nx ((ρ.set i .any).set j (.owx c))):=
 PS.weak (mV hN hj hx (dM hi hv hd hcd) rfl hf) fun E σ H ⟨H₀,S₀,S,f,k⟩=>by
  obtain ⟨v,h1,a,o,rfl,sa,ha,r⟩:=f.ve.rel i _ hr
  exact ⟨_,h1,k _ H S (Fm.move f hij hr h1)⟩
theorem cN {t:Option Expr} {l:Nat} {env:Env} (h:cq e=false):swapsWith e t l env=pure false:=by
 cases e<;>first|rfl|cases h
theorem CP {env:Env} (h:bx tg=true):(assignEach [tg] env).map (·.2)=[assign tg env]:=by rw [iw h];rfl
theorem zl {sc:Scope} {env:Env} (hsc:env.scope=sc) (h:gV sc tg e=true):swappedStores [tg] e env=pure none:=by
 unfold gV at h
 split at h
 ·rename_i ts _ _ vs _ _
  have h1:=(Bool.and_eq_true_iff.mp (Bool.and_eq_true_iff.mp (Bool.and_eq_true_iff.mp h).1).1).1
  unfold swappedStores
  dsimp only
  split
  ·rfl
  ·split
   ·rfl
   ·have e:∀id:Str,env.kindOf id=sc.names.lookup id:=fun id=>by rw [←hsc];rfl
    simp only [e]
    rw [if_pos]
    exact Bool.or_eq_true_iff.mpr (.inl h1)
 ·rename_i ts _ _ hne
  unfold swappedStores
  cases e<;>first|rfl|exact absurd rfl (hne _ _ _)
 ·unfold swappedStores
  cases e<;>rfl
 ·cases h
end
mutual
theorem fO {z dx:Addr}:∀{t:Tg} {d:D} {ρ ρ1:Rho},ai t d ρ=some ρ1->ai t d (trR z dx ρ)=some (trR z dx ρ1)
 |.nm k,d,ρ,ρ1,h=>by
  unfold ai at h ⊢
  split at h
  ·rename_i hk
   cases h
   rw [if_pos (by simpa using hk),bh];rfl
  ·cases h
 |.tp ts,.tup ds,ρ,ρ1,h=>by
  unfold ai at h ⊢
  exact ka h
 |.tp _,.non,_,_,h=>by unfold ai at h;cases h
 |.tp _,.bl _,_,_,h=>by unfold ai at h;cases h
 |.tp _,.int _,_,_,h=>by unfold ai at h;cases h
 |.tp _,.str _,_,_,h=>by unfold ai at h;cases h
 |.tp _,.lst _,_,_,h=>by unfold ai at h;cases h
 |.tp _,.ins _ _,_,_,h=>by unfold ai at h;cases h
 |.tp _,.exc _ _,_,_,h=>by unfold ai at h;cases h
 |.tp _,.ty _,_,_,h=>by unfold ai at h;cases h
 |.tp _,.cl _,_,_,h=>by unfold ai at h;cases h
 |.tp _,.dct _,_,_,h=>by unfold ai at h;cases h
 |.tp _,.pdc _,_,_,h=>by unfold ai at h;cases h
theorem ka {z dx:Addr}:∀{ts:List Tg} {ds:List D} {ρ ρ1:Rho},aQ ts ds ρ=some ρ1->aQ ts ds (trR z dx ρ)=some (trR z dx ρ1)
 |[],[],ρ,ρ1,h=>by unfold aQ at h ⊢;cases h;rfl
 |t::ts,d::ds,ρ,ρ1,h=>by
  unfold aQ at h ⊢
  split at h
  ·rename_i ρ2 h2
   rw [fO h2]
   exact ka h
  ·cases h
 |[],_::_,_,_,h=>by unfold aQ at h;cases h
 |_::_,[],_,_,h=>by unfold aQ at h;cases h
end
end IN
namespace IN
open PySem PySem.Spec PySem.W L2 CT
open PyProof.Rows hiding St
noncomputable def S1 (X:Cx) (z dx:Addr) (st:Stmt) (ρ:Rho):Oc->Prop
 |.nx ρ'=>DS X (trR z dx ρ) st (.nx (trR z dx ρ'))
 |.rt d=>DS X (trR z dx ρ) st (.rt d)
 |.fr c=>DS X (trR z dx ρ) st (.rfx c)
 |.xc ρ' d=>DSX X (trR z dx ρ) st (trR z dx ρ') d
noncomputable def SS (X:Cx) (z dx:Addr) (sts:List Stmt) (ρ:Rho):Oc->Prop
 |.nx ρ'=>DSs X (trR z dx ρ) sts (.nx (trR z dx ρ'))
 |.rt d=>DSs X (trR z dx ρ) sts (.rt d)
 |.fr c=>DSs X (trR z dx ρ) sts (.rfx c)
 |.xc ρ' d=>b4 X (trR z dx ρ) sts (trR z dx ρ') d
section
variable {X:Cx} {z dx:Addr} {st:Stmt} {sts:List Stmt} {ρ ρ1:Rho} {o:Oc} {L:List Nat}
theorem S1.cons (hx:∀e s,¬X.xe e s) (h1:S1 X z dx st ρ (.nx ρ1)) (h2:SS X z dx sts ρ1 o):SS X z dx (st::sts) ρ o:=by
 cases o with
 |nx ρ'=>exact fS h1 h2
 |rt d=>exact fS h1 h2
 |fr c=>exact fS h1 h2
 |xc ρ' d=>exact qd h1 h2 hx
theorem S1.last (h1:S1 X z dx st ρ o) (hn:∀ρ',o≠.nx ρ'):SS X z dx (st::sts) ρ o:=by
 cases o with
 |nx ρ'=>exact absurd rfl (hn ρ')
 |rt d=>exact nJ h1 trivial
 |fr c=>exact nJ h1 trivial
 |xc ρ' d=>exact qR h1
theorem S1.give (h:S1 X z dx st (af L ρ) o):S1 X z dx st ρ o:=by
 cases o with
 |nx ρ'=>exact aW h
 |rt d=>exact aW h
 |fr c=>exact aW h
 |xc ρ' d=>exact c6 h
end
section
variable {ca:Bool} {P:Program} {wd:World} {K:Frag} {mg:Str->Option Value} {base:Heap} {G:Prg} {cl:Str->List D->Option Rs} {k kc n:Nat} {X:Cx} {sc:Scope} {N:List Str} {w:Nat} {ce:CE} {z dx:Addr} {ρ:Rho} {pos:Pos}
theorem mW {tg:Expr} {i:Nat} (h:cTg sc N n tg=some (.nm i)):∃x p,tg=.Name x p∧idx N x=some i∧bP x=true∧lL sc x=true:=by
 cases n with
 |zero=>unfold cTg at h;cases h
 |succ n=>
  unfold cTg at h
  split at h
  ·rename_i x p
   split at h
   ·rename_i hx
    simp only [Bool.and_eq_true] at hx
    cases hi:idx N x with
    |none=>rw [hi] at h;cases h
    |some j=>rw [hi] at h;cases h;exact ⟨x,p,rfl,hi,hx.1,hx.2⟩
   ·cases h
  ·split at h
   ·cases hq:eG sc N n ‹_› with
    |none=>rw [hq] at h;cases h
    |some ts=>rw [hq] at h;cases h
   ·cases h
  ·cases h
theorem XE.lt (xe:XE ca P wd K mg base X sc N w k) {x:Str} {i:Nat} (h:idx N x=some i):i<N.length:=by
 have:=xe.at h
 rw [xe.N_] at this
 exact (List.getElem?_eq_some_iff.mp this).1
theorem XE.fnx (xe:XE ca P wd K mg base X sc N N.length k) {x:Str} {i:Nat} (h:idx N x=some i):X.fn x=true:=by
 have:=xe.at h
 rw [xe.N_] at this
 exact xe.fn i x (xe.lt h) this
theorem XE.ndX (xe:XE ca P wd K mg base X sc N w k):X.N.Nodup:=by rw [xe.N_];exact xe.nd
mutual
theorem mq:∀{n:Nat} {tg:Expr} {t:Tg},(∀x i,idx N x=some i->i<N.length)->cTg sc N n tg=some t->∀j∈tks t,j<N.length
 |0,_,_,_,h=>by unfold cTg at h;cases h
 |n+1,tg,t,lt,h=>by
  unfold cTg at h
  split at h
  ·rename_i x p
   split at h
   ·cases hi:idx N x with
    |none=>rw [hi] at h;cases h
    |some i=>rw [hi] at h;cases h;intro j hj;rw [List.mem_singleton.mp (show j∈[i] from hj)];exact lt x i hi
   ·cases h
  ·rename_i es _ _
   split at h
   ·cases hq:eG sc N n es with
    |none=>rw [hq] at h;cases h
    |some ts=>rw [hq] at h;cases h;exact fun j hj=>nZ lt hq j hj
   ·cases h
  ·cases h
theorem nZ:∀{n:Nat} {tgs:List Expr} {ts:List Tg},(∀x i,idx N x=some i->i<N.length)->eG sc N n tgs=some ts->∀j∈dH ts,j<N.length
 |0,_,_,_,h=>by unfold eG at h;cases h
 |n+1,tgs,ts,lt,h=>by
  unfold eG at h
  split at h
  ·cases h;intro j hj;cases hj
  ·split at h
   ·rename_i t ts' h1 h2
    cases h
    intro j hj
    rcases List.mem_append.mp (show j∈tks t++dH ts' from hj) with q|q
    ·exact mq lt h1 j q
    ·exact nZ lt h2 j q
   ·cases h
end
theorem z_ (xe:XE true P wd K mg base X sc N N.length k) {tg e:Expr} {t:Tg} {L:List Nat} (hm:∃n,cTg sc N n tg=some t) (oe:OkE G cl X e ce) (hsw:gV sc tg e=true) (hcm:(!cq e||!qo tg)=true) {o:Oc} (h:aa G cl (.asg t ce L) ρ=some o):
  S1 X z dx (.Assign [tg] e pos) ρ o:=by
 obtain ⟨m,hm⟩:=hm
 obtain ⟨ns,tok⟩:=(kS xe m).1 tg t hm
 have lt:=mq (N:=N) (fun x i h=>xe.lt h) hm
 have hw:=zl xe.sc_ hsw
 have h1:=CP (env:=X.env) ns
 rw [aa] at h
 cases hv:evV G cl ce (af L ρ) with
 |none=>rw [hv] at h;cases h
 |some r=>
  rw [hv] at h
  obtain ⟨w1,w2,w3⟩:=oe.w (ρ':=trR z dx (af L ρ)) bE hv
  cases hc:cq e with
  |false=>
   have hs:swapsWithSole [tg] e pos.line X.env=pure false:=cN hc
   cases r with
   |ok d=>
    dsimp only at h
    split at h
    ·rename_i ρ' hb
     cases h
     cases hn:ak d with
     |true=>
      rw [hn] at hb
      obtain ⟨g1,g2⟩:=tok _ d _ (fO (z:=z) (dx:=dx) hb) lt
      exact nY (bN hn (w1 d rfl)) g1 g2 hs hw h1
     |false=>
      rw [hn] at hb
      obtain ⟨g1,g2⟩:=tok _ d _ (fO (z:=z) (dx:=dx) hb) lt
      exact aW (nY (w1 d rfl) g1 g2 hs hw h1)
    ·cases h
   |fr c=>
    dsimp only at h
    split at h
    ·rename_i i
     split at h
     ·cases h
      obtain ⟨x,p,rfl,hi,hok,hl⟩:=mW hm
      show DS X _ _ (.nx (trR z dx _))
      rw [bh]
      cases hn:b6 c with
      |true=>exact ir xe.ndX (xe.at hi) (xe.loc hl) (gG hn (w2 c rfl)) (cN hc) (.inl (xe.fnx hi))
      |false=>exact aW (ir xe.ndX (xe.at hi) (xe.loc hl) (w2 c rfl) (cN hc) (.inl (xe.fnx hi)))
     ·cases h
    ·cases h
   |xc d=>
    cases h
    exact c6 (s9 (w3 d rfl) hs hw h1)
  |true=>
   obtain ⟨c,rfl,dc⟩:=oe.c (ρ':=trR z dx (af L ρ)) hc bE hv
   dsimp only at h
   split at h
   ·rename_i i
    split at h
    ·cases h
     obtain ⟨x,p,rfl,hi,hok,hl⟩:=mW hm
     show DS X _ _ (.nx (trR z dx _))
     rw [bh]
     obtain ⟨bb,hbb⟩:∃bb,swapsWith e (some (.Name x p)) pos.line X.env=pure bb:=by
      cases e<;>first|(cases hc;done)|exact ⟨_,rfl⟩
     have key:∀{ρ0:Rho},DCx X (trR z dx ρ0) e c->DS X (trR z dx ρ0) (.Assign [.Name x p] e pos) (.nx ((trR z dx ρ0).set i (.owx c))):=fun {ρ0} dc=>by
      cases bb with
      |true=>exact tW xe.ndX (xe.at hi) (xe.loc hl) dc hbb (.inl (xe.fnx hi))
      |false=>exact ir xe.ndX (xe.at hi) (xe.loc hl) dc.pe hbb (.inl (xe.fnx hi))
     cases hn:b6 c with
     |true=>exact key (ke hn dc)
     |false=>exact aW (key dc)
    ·cases h
   ·cases h
end
end IN
namespace IN
open PySem PySem.Spec PySem.W L2 CT
open PyProof.Rows hiding St
structure XF (P:Program) (wd:World) (K:Frag) (mg:Str->Option Value) (base:Heap) (X:Cx) (sc:Scope) (N:List Str) (k:Nat):Prop where
 xe:XE true P wd K mg base X sc N N.length k
 pass:PassesOwn (model X.prog X.w) X.A X.env X.xe
 hst:X.stack=X.env::X.outer
 hfr:X.env.frame=some X.env.locals
 blk:X.env.blockKind=.function
noncomputable def AU:CS'->Bool
 |.asg _ _ _=>false|.ife _ _ _ _=>false|.for _ _ _ _=>false|.whl _ _ _=>false|.try _ _ _ _=>false
 |_=>true
theorem bC {s s':CS'} (h:s'=er1 s) (hf:AU s'=true):s=s':=by
 subst h
 cases s<;>first|(unfold er1;rfl)|(unfold er1 at hf;cases hf)
theorem yA {s:CS'} {t e L} (h:CS'.asg t e L=er1 s):s=.asg t e L∨∃j i,s=.mov j i∧t=.nm j∧e=.var i:=by
 cases s<;>first|(unfold er1 at h;cases h;done)|(unfold er1 at h;cases h;exact .inl rfl)|(unfold er1 at h;cases h;exact .inr ⟨_,_,rfl,rfl,rfl⟩)
theorem By {s:CS'} {c L a b} (h:CS'.ife c L a b=er1 s):∃a' b',s=.ife c L a' b'∧erL a'=a∧erL b'=b:=by
 cases s<;>first|(unfold er1 at h;cases h;done)|(unfold er1 at h;cases h;exact ⟨_,_,rfl,rfl,rfl⟩)
theorem zp {s:CS'} {t it L b} (h:CS'.for t it L b=er1 s):∃b',s=.for t it L b'∧erL b'=b:=by
 cases s<;>first|(unfold er1 at h;cases h;done)|(unfold er1 at h;cases h;exact ⟨_,rfl,rfl⟩)
theorem yr {s:CS'} {c L b} (h:CS'.whl c L b=er1 s):∃b',s=.whl c L b'∧erL b'=b:=by
 cases s<;>first|(unfold er1 at h;cases h;done)|(unfold er1 at h;cases h;exact ⟨_,rfl,rfl⟩)
theorem y8 {s:CS'} {b x i hh} (h:CS'.try b x i hh=er1 s):∃b',s=.try b' x i hh∧erL b'=b:=by
 cases s<;>first|(unfold er1 at h;cases h;done)|(unfold er1 at h;cases h;exact ⟨_,rfl,rfl⟩)
theorem dO {e:Expr} {x:Str} {p:Pos} (h:nmV e=some (x,p)):e=.Name x p:=by
 unfold nmV at h
 split at h
 ·cases h;rfl
 ·cases h
theorem vW {e a b:Expr} (h:om e=some (a,b)):∃k p,e=.Tuple [a,b] k p:=by
 unfold om at h
 split at h
 ·split at h
  ·cases h;exact ⟨_,_,rfl⟩
  ·cases h
 ·cases h
theorem xb {es:List Expr} {e a b:Expr} {x y:Str} {px py:Pos} (h:um es e=some ((x,px),(y,py),a,b)):es=[.Name x px,.Name y py]∧∃k p,e=.Tuple [a,b] k p:=by
 unfold um at h
 split at h
 ·split at h
  ·rename_i h1 h2 h3
   cases h
   rw [dO h1,dO h2]
   exact ⟨rfl,vW h3⟩
  ·cases h
 ·cases h
theorem wt {o:Option Expr} {x:Str} {args:List Expr} (h:tw o=some (x,args)):∃p1 p2,o=some (.Call (.Name x p1) args [] p2):=by
 unfold tw at h
 split at h
 ·split at h
  ·split at h
   ·split at h
    ·rename_i h1;cases h;rw [dO h1];exact ⟨_,_,rfl⟩
    ·cases h
   ·cases h
  ·cases h
 ·cases h
theorem vL {hs:List ExceptHandler} {c x:Str} {b:List Stmt} (h:tR hs=some (c,x,b)):∃p1 p2,hs=[.ExceptHandler (some (.Name c p1)) (some x) b p2]:=by
 unfold tR at h
 split at h
 ·split at h
  split at h
  ·split at h
   ·rename_i h1;cases h;rw [dO h1];exact ⟨_,_,rfl⟩
   ·cases h
  ·cases h
 ·cases h
theorem yp {b:List Stmt} {y x:Str} (h:stV b=some (y,x)):∃p1 p2 p3,b=[.Assign [.Name y p1] (.Name x p2) p3]:=by
 unfold stV at h
 split at h
 ·split at h
  ·split at h
   ·split at h
    ·rename_i h1 h2;cases h;rw [dO h1,dO h2];exact ⟨_,_,_,rfl⟩
    ·cases h
   ·cases h
  ·cases h
 ·cases h
structure xN (G:Prg) (cl:Str->List D->Option Rs) (X:Cx) (sc:Scope) (N:List Str) (z dx:Addr) (n:Nat):Prop where
 s:∀st s,cS1 n sc N st=some (er1 s)->∀ρ o,aa G cl s ρ=some o->S1 X z dx st ρ o
 b:∀sts b,cS n sc N sts=some (erL b)->∀ρ o,run G cl b ρ=some o->SS X z dx sts ρ o
section
variable {ca:Bool} {P:Program} {wd:World} {K:Frag} {mg:Str->Option Value} {base:Heap} {G:Prg} {cl:Str->List D->Option Rs} {k kc n:Nat} {X:Cx} {sc:Scope} {N:List Str} {w:Nat} {ce:CE} {z dx:Addr} {ρ:Rho} {pos:Pos}
theorem tS {s:CS'} {r:List CS'} {o:Oc} (h:run G cl (s::r) ρ=some o):(∃ρ1,aa G cl s ρ=some (.nx ρ1)∧run G cl r ρ1=some o)∨(aa G cl s ρ=some o∧∀ρ',o≠.nx ρ'):=by
 unfold run at h
 split at h
 ·rename_i ρ1 h1;exact .inl ⟨ρ1,h1,h⟩
 ·rename_i hne
  exact .inr ⟨h,fun ρ' q=>by subst q;exact hne ρ' h⟩
theorem Bl (hx:∀e s,¬X.xe e s) {st:Stmt} {sts:List Stmt} {s:CS'} {r:List CS'} (h1:∀ρ o,aa G cl s ρ=some o->S1 X z dx st ρ o) (h2:∀ρ o,run G cl r ρ=some o->SS X z dx sts ρ o) {o:Oc} (h:run G cl (s::r) ρ=some o):SS X z dx (st::sts) ρ o:=by
 rcases tS h with ⟨ρ1,a,b⟩|⟨a,b⟩
 ·exact S1.cons hx (h1 _ _ a) (h2 _ _ b)
 ·exact S1.last (h1 _ _ a) b
theorem S1.if (hx:∀e s,¬X.xe e s) {c:Expr} {q:Bool} {a b:List Stmt} {o:Oc} (hc:DT X (trR z dx ρ) c q) (ha:q=true->SS X z dx a ρ o) (hb:q=false->SS X z dx b ρ o):S1 X z dx (.If c a b pos) ρ o:=by
 cases o with
 |nx ρ'=>exact oj hc ha hb
 |rt d=>exact oj hc ha hb
 |fr c=>exact oj hc ha hb
 |xc ρ' d=>exact xT hc ha hb hx
theorem ud {e:CE} {L:List Nat} {o:Oc} (h:aa G cl (.ret e L) ρ=some o):(∃i c,e=.var i∧ρ[i]?=some (.owx c)∧o=.fr c)∨∃r,evV G cl e (af L ρ)=some r∧o=(match r with|.ok d=>.rt d|.fr c=>.fr c|.xc d=>.xc (af L ρ) d):=by
 unfold aa at h
 split at h
 ·rename_i c hc
  cases h
  split at hc
  ·rename_i i
   split at hc
   ·rename_i c' hq;cases hc;exact .inl ⟨i,_,rfl,hq,rfl⟩
   ·cases hc
  ·cases hc
 ·right
  split at h
  ·rename_i d hd;cases h;exact ⟨_,hd,rfl⟩
  ·rename_i d hd;cases h;exact ⟨_,hd,rfl⟩
  ·rename_i d hd;cases h;exact ⟨_,hd,rfl⟩
  ·cases h
theorem l4 {X:Cx} {ρ:Rho} {e:Expr} {c:Ow} {pos:Pos} (h:DFx X ρ e c) (hs:swapsWith e none pos.line X.env=pure false):DS X ρ (.Expr e pos) (.nx ρ):=PS.weak (gO h hs) fun E σ H ⟨H₀,S₀,S,f,k⟩=>⟨S,f.ve,fun a o H' ex hn ha r=>k σ H' S (f.grow ex)⟩
theorem p9 {e:Expr} {L:List Nat} (oe:OkE G cl X e ce) (hc:cq e=false) {o:Oc} (hr:aa G cl (.exp ce L) ρ=some o):S1 X z dx (.Expr e pos) ρ o:=by
 rw [aa] at hr
 cases hv:evV G cl ce (af L ρ) with
 |none=>rw [hv] at hr;cases hr
 |some r=>
  rw [hv] at hr
  obtain ⟨w1,w2,w3⟩:=oe.w (ρ':=trR z dx (af L ρ)) bE hv
  cases r with
  |ok d=>
   cases hr
   cases hn:ak d with
   |true=>exact nC (bN hn (w1 d rfl)) (cN hc)
   |false=>exact aW (nC (w1 d rfl) (cN hc))
  |fr c=>
   cases hr
   cases hn:b6 c with
   |true=>exact l4 (gG hn (w2 c rfl)) (cN hc)
   |false=>exact aW (l4 (w2 c rfl) (cN hc))
  |xc d=>
   cases hr
   exact c6 (tT (w3 d rfl) (cN hc))
noncomputable def uH (z dx:Addr):Oc->Out
 |.nx ρ=>.nx (trR z dx ρ)|.rt d=>.rt d|.fr c=>.rfx c|.xc _ _=>.rt .non
theorem qT {tg:Expr} {t:Tg} {body:List Stmt} {b:List CS'} (tok:∀ρ d ρ1,ai t d ρ=some ρ1->DG X tg ρ d ρ1 (tks t)∧cz ρ ρ1 (tks t)) (hb:∀ρ o,run G cl b ρ=some o->SS X z dx body ρ o):
  ∀(its:List D) (ρ:Rho) (o:Oc),forL t (run G cl b) its ρ=some o->((∀ρ' d,o≠.xc ρ' d)->hU X tg body its (trR z dx ρ) (uH z dx o))∧∀ρe d,o=.xc ρe d->jL X tg body (trR z dx ρe) d its (trR z dx ρ)
 |[],ρ,o,h=>by
  unfold forL at h
  cases h
  exact ⟨fun _=>.nil _,fun _ _ z=>nomatch z⟩
 |d::ds,ρ,o,h=>by
  unfold forL at h
  split at h
  ·rename_i ρ1 h1
   obtain ⟨g1,g2⟩:=tok _ d _ (fO (z:=z) (dx:=dx) h1)
   split at h
   ·rename_i ρ2 h2
    obtain ⟨r1,r2⟩:=qT tok hb ds ρ2 o h
    have s1:DSs X (trR z dx ρ1) body (.nx (trR z dx ρ2)):=hb _ _ h2
    exact ⟨fun hx=>.cons g1 g2 s1 (r1 hx),fun ρe d' z=>.cons g1 g2 s1 (r2 ρe d' z)⟩
   ·rename_i hne
    have s1:=hb _ _ h
    cases o with
    |nx ρ'=>exact absurd h (hne ρ')
    |rt d'=>exact ⟨fun _=>.ret g1 g2 s1 trivial,fun _ _ z=>nomatch z⟩
    |fr c=>exact ⟨fun _=>.ret g1 g2 s1 trivial,fun _ _ z=>nomatch z⟩
    |xc ρe d'=>exact ⟨fun hx=>absurd rfl (hx ρe d'),fun ρe' d'' z=>by cases z;exact .here g1 g2 s1⟩
  ·cases h
theorem qV {c:Expr} {body:List Stmt} {b:List CS'} {L:List Nat} (hc:∀ρ q,evT G cl ce (af L ρ)=some q->DT X (trR z dx ρ) c q) (hb:∀ρ o,run G cl b ρ=some o->SS X z dx body ρ o):
  ∀(m:Nat) (ρ:Rho) (o:Oc),fN (fun ρ=>evT G cl ce (af L ρ)) (run G cl b) m ρ=some o->(∀ρ' d,o≠.xc ρ' d)∧WhO X c body m (trR z dx ρ) (uH z dx o)
 |0,_,_,h=>by unfold fN at h;cases h
 |m+1,ρ,o,h=>by
  unfold fN at h
  split at h
  ·rename_i hq
   split at h
   ·rename_i ρ2 h2
    obtain ⟨n1,w1⟩:=qV hc hb m ρ2 o h
    exact ⟨n1,.turn (hc _ _ hq) (hb _ _ h2) w1⟩
   ·cases h
   ·rename_i hne hnx
    have s1:=hb _ _ h
    cases o with
    |nx ρ'=>exact absurd h (hne ρ')
    |rt d'=>exact ⟨(fun _ _ z=>nomatch z),.ret (hc _ _ hq) s1 trivial⟩
    |fr c=>exact ⟨(fun _ _ z=>nomatch z),.ret (hc _ _ hq) s1 trivial⟩
    |xc ρe d'=>exact absurd h (hnx ρe d')
  ·rename_i hq
   cases h
   exact ⟨(fun _ _ z=>nomatch z),.stop (hc _ _ hq)⟩
  ·cases h
theorem xH (xe:XE ca P wd K mg base X sc N N.length k) {tg e:Expr} {i j:Nat} (h1:cTg sc N n tg=some (.nm j)) (hv:∀i',CE.var i=.var i'->∃y q,e=.Name y q∧X.N[i']?=some y∧Vis X.env.scope y∧(y==("__debug__":Str))=false∧(y==("__classdict__":Str))=false) {o:Oc} (hr:aa G cl (.mov j i) ρ=some o):S1 X z dx (.Assign [tg] e pos) ρ o:=by
 obtain ⟨y,q,rfl,hy,hvis,d1,d2⟩:=hv i rfl
 obtain ⟨x,p,rfl,hi,hok,hl⟩:=mW h1
 rw [aa] at hr
 split at hr
 ·rename_i c hc
  split at hr
  ·rename_i hij
   cases hr
   show DS X _ _ (.nx (trR z dx _))
   rw [bh,bh]
   exact we xe.ndX hy (xe.at hi) hij.1 hvis (xe.loc hl) (.inl (xe.fnx hi)) (bU hc) d1 d2
  ·cases hr
 ·rename_i d hd
  split at hr
  ·cases hr
   show DS X _ _ (.nx (trR z dx _))
   rw [bh]
   exact qJ xe.ndX (xe.at hi) (xe.loc hl) (lQ hy hvis (l6 hd) d1 d2) rfl (.inl (xe.fnx hi))
  ·cases hr
 ·cases hr
theorem xt {i j:Nat} {d:D} {o:Oc} (hi:ρ[i]?=some (.val d)) (h:run G cl [.asg (.nm j) (.var i) [i]] ρ=some o):o=.nx (ρ.set j (.val d)):=by
 have e:af [i] ρ=ρ:=by
  show ρ.modify i aI=ρ
  apply List.ext_getElem?
  intro m
  rw [List.getElem?_modify]
  split
  ·rename_i q;subst q;rw [hi];rfl
  ·simp
 rw [run,aa] at h
 simp only [e,evV,ev.eq_1,hi,aO,kp,ite_self,ai] at h
 by_cases hj:j<ρ.length
 ·simp only [if_pos hj] at h
  unfold run at h;cases h;rfl
 ·simp only [if_neg hj] at h
  cases h
theorem xV (R:Row P wd K mg base G) (C:Calls P wd K mg base G kc cl) (hk:kc+2<=k) (xf:XF P wd K mg base X sc N k) (ih:xN G cl X sc N z dx n) {st:Stmt} {s:CS'} (h:cS1 (n+1) sc N st=some (er1 s)) {o:Oc} (hr:aa G cl s ρ=some o):S1 X z dx st ρ o:=by
 have xe:=xf.xe
 have A:=zK (cl:=cl) R C hk n
 have getE:∀{e:Expr} {ce:CE},cE n sc N e=some ce->OkE G cl X e ce:=fun he=>(A.e X sc N N.length xe _ _ he).2.2
 unfold cS1 at h
 split at h
 ·
  obtain rfl:=bC (Option.some.inj h) rfl;rw [aa] at hr;cases hr;exact v9
 ·
  rename_i o _
  split at h
  ·obtain rfl:=bC (Option.some.inj h) rfl;rw [aa] at hr;cases hr;exact xa
  ·
   rename_i e
   cases hq:cE n sc N e with
   |none=>rw [hq] at h;cases h
   |some x=>
    rw [hq] at h;obtain rfl:=bC (Option.some.inj h) rfl
    have oe:=getE hq
    rcases ud hr with ⟨i,c,rfl,hi,rfl⟩|⟨r,hv,rfl⟩
    ·exact oe.ro i rfl _ c _ (bU hi)
    ·obtain ⟨w1,w2,w3⟩:=oe.w (ρ':=trR z dx (af (fvU x) ρ)) bE hv
     cases r with
     |ok d=>exact aW (ye (w1 d rfl))
     |fr c=>exact aW (sj (w2 c rfl))
     |xc d=>exact c6 (wX (w3 d rfl))
 ·
  rename_i ts e pos
  have gen:∀{tg e:Expr},kW n sc N tg e=some (er1 s)->S1 X z dx (.Assign [tg] e pos) ρ o:=fun {tg e} h=>by
   unfold kW at h
   split at h
   ·rename_i t ce h1 h2
    split at h
    ·rename_i hc
     simp only [Bool.and_eq_true] at hc
     rcases yA (Option.some.inj h) with rfl|⟨j,i,rfl,rfl,rfl⟩
     ·exact z_ xe ⟨n,h1⟩ (getE h2) hc.1 hc.2 hr
     ·exact xH xe h1 (getE h2).vr hr
    ·cases h
   ·cases h
  unfold yu at h
  split at h
  ·rename_i tg
   unfold uW at h
   split at h
   ·split at h
    ·
     rename_i x px y py a b hp
     obtain ⟨rfl,k2,p2,rfl⟩:=xb hp
     split at h
     ·rename_i i j ca cb h1 h2 h3 h4
      split at h
      ·rename_i hc
       obtain rfl:=bC (Option.some.inj h) rfl
       have oa:=getE h3
       have ob:=getE h4
       rw [aa] at hr
       split at hr
       ·rename_i u hu
        split at hr
        ·rename_i v hv
         split at hr
         ·rename_i hij
          cases hr
          simp only [Bool.and_eq_true,beq_iff_eq,Bool.not_eq_true'] at hc
          obtain ⟨⟨⟨⟨⟨⟨o1,o2⟩,lx⟩,ly⟩,hl⟩,hf⟩,hca⟩:=hc
          have na:=(A.e X sc N N.length xe _ _ h3).1
          have nb:=(A.e X sc N N.length xe _ _ h4).1
          have hxy:x≠y:=fun q=>hij.1 (by rw [q,h2] at h1;exact (Option.some.inj h1).symm)
          have lx':X.env.scope.names.lookup x=some .local:=by rw [xe.sc_];exact lx
          have ly':X.env.scope.names.lookup y=some .local:=by rw [xe.sc_];exact ly
          have hw:∀kt pt k2 pt2,swappedStores [.Tuple [.Name x px,.Name y py] kt pt] (.Tuple [a,b] k2 pt2) X.env=pure (some [x,y]):=by
           intro kt pt k2 pt2
           have k1:X.env.kindOf x=some .local:=lx'
           have k2:X.env.kindOf y=some .local:=ly'
           have ed:([x,y]:List Str).eraseDups=[x,y]:=by
            simp [List.eraseDups_cons,Ne.symm hxy]
           have e1:(px.line==px.line)=true:=beq_self_eq_true _
           have e2:(py.line==px.line)=true:=by rw [hl];exact beq_self_eq_true _
           unfold swappedStores
           dsimp only
           rw [if_neg (by rw [xf.blk];simp)]
           rw [if_neg (by
            intro q
            simp only [List.any_cons,List.any_nil,Bool.or_false] at q
            rcases Bool.or_eq_true_iff.mp q with q|q
            ·cases a<;>first|(cases q;done)|(cases na;done)
            ·cases b<;>first|(cases q;done)|(cases nb;done))]
           simp only [List.filterMap_cons,List.filterMap_nil,List.head?_cons,Option.map_some,Option.getD_some,(show ∀(x:Str) (p:Pos),Expr.pos (.Name x p)=p from fun _ _=>rfl),k1,k2,e1,e2,beq_self_eq_true,Bool.and_true,if_true,ed]
           rw [if_neg (by simp),if_neg (by rw [hf];decide),if_neg (by rw [hca];decide)]
          have da:DA X (trR z dx (af (uniq (fvE ca++fvE cb)) ρ)) [a,b] [u,v]:=fz (oa.v bE hu) (fz (ob.v bE hv) lK (bD (aK nb))) (bD (aK na))
          show DS X _ _ (.nx (trR z dx _))
          rw [bh,bh]
          cases hn:ak u&&ak v with
          |true=>
           simp only [Bool.and_eq_true] at hn
           have da':DA X (trR z dx ρ) [a,b] [u,v]:=fz (bN hn.1 (oa.v bE hu)) (fz (bN hn.2 (ob.v bE hv)) lK (bD (aK nb))) (bD (aK na))
           exact rT xe.calm xe.ndX (xe.at h1) (xe.at h2) hij.1 lx' ly' da' (hw _ _ _ _)
          |false=>exact aW (rT xe.calm xe.ndX (xe.at h1) (xe.at h2) hij.1 lx' ly' da (hw _ _ _ _))
         ·cases hr
        ·cases hr
       ·cases hr
      ·cases h
     ·cases h
    ·exact gen h
   ·rename_i b kx _
    split at h
    ·
     rename_i x _ hp
     obtain rfl:=dO hp
     split at h
     ·rename_i i ck ce h1 h2 h3
      split at h
      ·rename_i hc
       simp only [Bool.and_eq_true,Bool.not_eq_true'] at hc
       obtain ⟨⟨o1,hv⟩,hcm⟩:=hc
       obtain rfl:=bC (Option.some.inj h) rfl
       obtain ⟨d1,d2,_⟩:=dq o1
       have ok':=getE h2
       have oe:=getE h3
       rw [aa] at hr
       split at hr
       ·rename_i v hve
        split at hr
        ·rename_i j hkd
         split at hr
         ·rename_i xs hs
          split at hr
          ·rename_i hz
           cases hr
           have dk:=ok'.v (ρ':=trR z dx (af (uniq (fvE ck++fvE ce)) ρ)) bE hkd
           have de:=oe.v (ρ':=trR z dx (af (uniq (fvE ck++fvE ce)) ρ)) bE hve
           show DS X _ _ (.nx (trR z dx _))
           rw [bh]
           cases hn:ak v with
           |true=>
            rw [hn] at hs
            exact n8 (xe.at h1) (xe.vis hv) (bU hs) (bN rfl dk) (bN hn de) hz (cN hcm) d1 d2
           |false=>
            rw [hn] at hs
            exact aW (n8 (xe.at h1) (xe.vis hv) (bU hs) dk de hz (cN hcm) d1 d2)
          ·cases hr
         ·cases hr
        ·cases hr
       ·cases hr
      ·cases h
     ·cases h
    ·cases h
   ·rename_i b f _
    split at h
    ·
     rename_i x _ hp
     obtain rfl:=dO hp
     split at h
     ·rename_i ce h1 h3
      split at h
      ·rename_i hc
       simp only [Bool.and_eq_true,Bool.not_eq_true'] at hc
       obtain ⟨⟨o1,hv⟩,hcm⟩:=hc
       obtain rfl:=bC (Option.some.inj h) rfl
       obtain ⟨d1,d2,_⟩:=dq o1
       have oe:=getE h3
       rw [aa] at hr
       split at hr
       ·rename_i d hd
        split at hr
        ·rename_i C0 a0 b0 fs h0
         split at hr
         ·rename_i hf
          cases hr
          have de:=oe.v (ρ':=trR z dx (af (fvU ce) ρ)) bE hd
          have hK:=xe.K_
          subst hK
          obtain ⟨c1,c2⟩:=R.fok C0 f hf.2
          show DS X _ _ (.nx (trR z dx _))
          rw [bh]
          have t0:∀{ρ0:Rho},ρ0[0]?=some (.new C0 a0 b0 fs)->(trR z dx ρ0)[0]?=some (.new C0 z dx fs):=fun h=>by rw [List.getElem?_map,h];rfl
          cases hn:ak d with
          |true=>exact pW (i:=0) (xe.at h1) (xe.vis hv) (t0 h0) c1 c2 hf.1 (bN hn de) (cN hcm) d1 d2
          |false=>exact aW (pW (i:=0) (xe.at h1) (xe.vis hv) (t0 (jR h0)) c1 c2 hf.1 de (cN hcm) d1 d2)
         ·cases hr
        ·cases hr
       ·cases hr
      ·cases h
     ·cases h
    ·cases h
   ·exact gen h
  ·cases h
 ·
  unfold cExp at h
  split at h
  ·
   obtain rfl:=bC (Option.some.inj h) rfl;rw [aa] at hr;cases hr
   exact PS.weak yF fun E σ H ⟨H₀,S₀,S,f,k⟩=>k σ H S f
  ·
   rename_i x xp m ap args cp
   split at h
   ·rename_i hm
    subst hm
    split at h
    ·rename_i i a h1
     split at h
     ·rename_i hc
      simp only [Bool.and_eq_true] at hc
      obtain ⟨⟨o1,hv⟩,hl⟩:=hc
      cases hq:cE n sc N a with
      |none=>rw [hq] at h;cases h
      |some x'=>
       rw [hq] at h;obtain rfl:=bC (Option.some.inj h) rfl
       obtain ⟨d1,d2,_⟩:=dq o1
       have oe:=getE hq
       have na:=(A.e X sc N N.length xe _ _ hq).1
       have s0:=bD (es:=[]) (env:=X.env) (aK na)
       rw [aa] at hr
       split at hr
       ·rename_i v hve
        split at hr
        ·rename_i xs hs
         split at hr
         ·rename_i hz
          cases hr
          have de:=oe.v (ρ':=trR z dx (af (fvU x') ρ)) bE hve
          show DS X _ _ (.nx (trR z dx _))
          rw [bh]
          have few:((backTo cp (starEach [a] X.env)).all (fun x=>!x.1)&&(backToKw cp (keywordEach [] X.env)).all (fun x=>x.1.isSome)&&decide (([a]:List Expr).length+([]:List Keyword).length+(if ([]:List Keyword).isEmpty then 0 else 1)<30))=true:=by
           rw [j6 (fun e he=>by rw [List.mem_singleton.mp he];exact na)];rfl
          cases hn:ak v with
          |true=>
           rw [hn] at hs
           exact km (xe.at h1) (xe.vis hv) (bU hs) (bN hn de) hz d1 d2 rfl rfl few hl s0 rfl
          |false=>
           rw [hn] at hs
           exact aW (km (xe.at h1) (xe.vis hv) (bU hs) de hz d1 d2 rfl rfl few hl s0 rfl)
         ·cases hr
        ·cases hr
       ·cases hr
     ·cases h
    ·cases h
   ·split at h
    ·rename_i hm
     subst hm
     split at h
     ·rename_i i h1
      split at h
      ·rename_i hc
       simp only [Bool.and_eq_true] at hc
       obtain ⟨⟨o1,hv⟩,hl⟩:=hc
       obtain rfl:=bC (Option.some.inj h) rfl
       obtain ⟨d1,d2,_⟩:=dq o1
       rw [aa] at hr
       cases hr
      ·cases h
     ·cases h
    ·cases hq:cE n sc N (.Call (.Attribute (.Name x xp) m ap) args [] cp) with
     |none=>rw [hq] at h;cases h
     |some ce=>
      rw [hq] at h;obtain rfl:=bC (Option.some.inj h) rfl
      exact p9 (getE hq) rfl hr
  ·
   rename_i e _ _ _ _
   split at h
   ·rename_i hc
    have hc:cq e=false:=by simpa using hc
    cases hq:cE n sc N e with
    |none=>rw [hq] at h;cases h
    |some ce=>
     rw [hq] at h;obtain rfl:=bC (Option.some.inj h) rfl
     exact p9 (getE hq) hc hr
   ·cases h
 ·
  rename_i c a b _
  split at h
  ·rename_i x y zz h1 h2 h3
   obtain ⟨y',zz',rfl,rfl,rfl⟩:=By (Option.some.inj h)
   have oc:=getE h1
   rw [aa] at hr
   split at hr
   ·rename_i hq;exact S1.if xe.nox (gc (oc.t bE hq)) (fun _=>ih.b a y' h2 _ _ hr) fun z=>nomatch z
   ·rename_i hq;exact S1.if xe.nox (gc (oc.t bE hq)) (fun z=>nomatch z) fun _=>ih.b b zz' h3 _ _ hr
   ·cases hr
  ·cases h
 ·
  rename_i tg it b els _
  split at h
  ·rename_i hit0
   obtain ⟨hit,hel⟩:=Bool.and_eq_true_iff.mp hit0
   obtain rfl:=List.isEmpty_iff.mp hel
   split at h
   ·rename_i t x y h1 h2 h3
    obtain ⟨y',rfl,rfl⟩:=zp (Option.some.inj h)
    have oi:=getE h2
    rw [aa] at hr
    split at hr
    ·rename_i its hi
     have lt:=mq (N:=N) (fun x i h=>xe.lt h) h1
     obtain ⟨f1,f2⟩:=qT (z:=z) (dx:=dx) (fun ρ d ρ1 hb=>((kS xe n).1 tg t h1).2 ρ d ρ1 hb lt) (fun ρ o h=>ih.b b y' h3 ρ o h) its _ o hr
     have di:=oi.i (ρ':=trR z dx (af (fvU x) ρ)) (tg:=tg) bE hit hi
     refine S1.give (L:=fvU x) ?_
     cases o with
     |nx ρ'=>exact lP xf.pass xe.calm di (f1 fun _ _ z=>nomatch z) (fD hit _)
     |rt d=>exact lP xf.pass xe.calm di (f1 fun _ _ z=>nomatch z) (fD hit _)
     |fr c=>exact lP xf.pass xe.calm di (f1 fun _ _ z=>nomatch z) (fD hit _)
     |xc ρe d=>exact vw xf.hst xf.hfr xe.calm di (f2 ρe d rfl) xe.nox (fD hit _)
    ·cases hr
   ·cases h
  ·cases h
 ·
  rename_i c b els _
  split at h
  ·rename_i x y h1 h2
   by_cases hel:els.isEmpty=true
   case neg=>rw [if_neg hel] at h;cases h
   rw [if_pos hel] at h
   obtain rfl:=List.isEmpty_iff.mp hel
   obtain ⟨y',rfl,rfl⟩:=yr (Option.some.inj h)
   have oc:=getE h1
   rw [aa] at hr
   obtain ⟨n1,w1⟩:=qV (z:=z) (dx:=dx) (fun ρ q hq=>gc (oc.t bE hq)) (fun ρ o h=>ih.b b y' h2 ρ o h) _ ρ o hr
   have:=sQ (pos:=‹Pos›) xf.pass w1
   cases o with
   |nx ρ'=>exact this
   |rt d=>exact this
   |fr c=>exact this
   |xc ρe d=>exact absurd rfl (n1 ρe d)
  ·cases h
 ·
  split at h
  ·
   rename_i x args hp
   obtain ⟨p1,p2,rfl⟩:=wt hp
   split at h
   ·rename_i hc
    simp only [Bool.and_eq_true] at hc
    obtain ⟨⟨o1,hg⟩,_⟩:=hc
    cases hq:cA n sc N args with
    |none=>rw [hq] at h;cases h
    |some ces=>
     rw [hq] at h;obtain rfl:=bC (Option.some.inj h) rfl
     obtain ⟨ss,oa⟩:=A.a X sc N N.length xe args ces hq
     obtain ⟨d1,d2,_⟩:=dq o1
     rw [aa] at hr
     split at hr
     ·rename_i ds hd
      split at hr
      ·rename_i C0 fs hx
       split at hr
       ·rename_i hl
        cases hr
        obtain ⟨a1,a2,_⟩:=oa _ (trR z dx (af (uniq (fvA ces)) ρ)) ds bE hd
        obtain ⟨rfl,rfl,rfl,rfl,rfl⟩:=And.intro xe.p_ (And.intro xe.w_ (And.intro xe.K_ (And.intro xe.mg_ xe.fY)))
        have xc:=R.exc x C0 fs hx
        refine c6 (L:=uniq (fvA ces)) ?_
        match args,ds,a2,a1,ss with
        |[],[],_,_,_=>
         have:fs=[]:=List.length_eq_zero_iff.mp hl.1.symm
         subst this
         obtain ⟨z1,z2⟩:=xc.zero rfl
         exact pH z1 z2 (xe.gl hg) xc.mg_ xc.cl xc.ty xe.room.hd d1
        |e0::er,d0::dr,_,a1,ss=>
         obtain ⟨f,fd,ps,M,F,B⟩:=xc.some (by intro q;subst q;have:=hl.1;simp at this)
         exact qs M F (xe.room.mono (by omega)) (xe.gl hg) xc.mg_ B a1 hl.1 hl.2 xc.cl xc.ty xe.nox d1 (bD (aK (ss e0 (by simp)))) (c8 fun e he=>ss e (List.mem_cons_of_mem _ he))
       ·cases hr
      ·cases hr
     ·cases hr
   ·cases h
  ·cases h
 ·
  rename_i b hds els fin _
  split at h
  ·
   rename_i c x hbd hp
   obtain ⟨q1,q2,rfl⟩:=vL hp
   obtain ⟨⟨y,x'⟩,hq⟩:∃q,stV hbd=some q:=by
    cases hq:stV hbd with
    |none=>rw [hq] at h;cases h
    |some q=>exact ⟨q,rfl⟩
   rw [hq] at h
   dsimp only at h
   obtain ⟨q3,q4,q5,rfl⟩:=yp hq
   split at h
   ·rename_i cb i j h1 h2 h3
    split at h
    ·rename_i hc
     simp only [Bool.and_eq_true,beq_iff_eq] at hc
     obtain ⟨⟨⟨⟨⟨⟨⟨⟨⟨o1,hg⟩,_⟩,hl⟩,rfl⟩,ox⟩,oy⟩,ly⟩,he1⟩,he2⟩:=hc
     obtain rfl:=List.isEmpty_iff.mp he1
     obtain rfl:=List.isEmpty_iff.mp he2
     obtain ⟨cb',rfl,rfl⟩:=y8 (Option.some.inj h)
     obtain ⟨d1,d2,_⟩:=dq o1
     obtain ⟨e1,e2,_⟩:=dq ox
     rw [aa] at hr
     split at hr
     ·rename_i ρ1 C0 fs hb
      have sb:b4 X _ b _ _:=ih.b b cb' h1 _ _ hb
      split at hr
      ·rename_i CE hgl
       split at hr
       ·rename_i hsub
        obtain ⟨rfl,rfl,rfl,rfl,rfl⟩:=And.intro xe.p_ (And.intro xe.w_ (And.intro xe.K_ (And.intro xe.mg_ xe.fY)))
        obtain ⟨m1,m2⟩:=R.sub C0 CE true hsub.1
        have hv:(ρ1.set i (.val (.exc C0 fs)))[i]?=some (.val (.exc C0 fs)):=List.getElem?_set_self hsub.2
        have hlx:X.env.scope.names.lookup x'=some .local:=by rw [xe.sc_];exact hl
        cases hh:run G cl [.asg (.nm j) (.var i) [i]] (ρ1.set i (.val (.exc C0 fs))) with
        |none=>rw [hh] at hr;cases hr
        |some o'=>
         rw [hh] at hr
         obtain rfl:=xt hv hh
         cases hr
         show DS X _ _ (.nx (trR z dx _))
         rw [bh]
         refine sR (o:=.nx _) xf.hst xf.hfr sb (xe.gl hg) (R.uI c CE hgl) m2 m1 xe.ndX (xe.at h2) hlx (fun a=>?_) xe.nox d1
         have e:(trR z dx ρ1).set i (.val (.exc C0 fs))=trR z dx (ρ1.set i (.val (.exc C0 fs))):=by rw [bh];rfl
         have e3:trR z dx ((ρ1.set i (.val (.exc C0 fs))).set j (.val (.exc C0 fs)))=(trR z dx (ρ1.set i (.val (.exc C0 fs)))).set j (.val (.exc C0 fs)):=by rw [bh];rfl
         rw [e,e3]
         exact fS (qJ (X:=X.inH a) xe.ndX (xe.at h3) (xe.loc ly) (lQ (X:=X.inH a) (xe.at h2) (.inl hlx) (l6 hv) e1 e2) rfl (.inl (xe.fnx h3))) n4
       ·cases hr
      ·cases hr
     ·cases hr
     ·rename_i hn1 hn2
      have sb:=ih.b b cb' h1 _ _ hr
      cases o with
      |nx ρ'=>exact iq sb xe.nox
      |rt d=>exact iq sb xe.nox
      |fr c=>exact iq sb xe.nox
      |xc ρ' d=>exact absurd hr (hn2 ρ' d)
    ·cases h
   ·cases h
  ·cases h
 ·cases h
end
end IN
namespace IN
open PySem PySem.Spec PySem.W L2 CT
open PyProof.Rows hiding St
section
variable {ca:Bool} {P:Program} {wd:World} {K:Frag} {mg:Str->Option Value} {base:Heap} {G:Prg} {cl:Str->List D->Option Rs} {k kc n:Nat} {X:Cx} {sc:Scope} {N:List Str} {w:Nat} {ce:CE} {z dx:Addr} {ρ:Rho} {pos:Pos}
theorem Wk.Ci:∀{ρ:Rho} {i:Nat},Wk ρ (ρ.set i .any):=fun {ρ i}=>⟨by simp,fun j x h=>by
 by_cases hj:i=j
 ·subst hj
  have hi:i<ρ.length:=by have:=(List.getElem?_eq_some_iff.mp h).1;simpa using this
  rw [List.getElem?_set_self hi] at h
  exact .inl (Option.some.inj h).symm
 ·rw [List.getElem?_set_ne hj] at h;exact .inr h⟩
theorem SS.fgt {sts:List Stmt} {o:Oc}:∀{L:List Nat} {ρ:Rho},SS X z dx sts (fH L ρ) o->SS X z dx sts ρ o
 |[],_,h=>h
 |i::L,ρ,h=>by
  have h':=SS.fgt (L:=L) (ρ:=ρ.set i .any) h
  have w:Wk (trR z dx ρ) (trR z dx (ρ.set i .any)):=by rw [bh];exact Wk.Ci
  cases o with
  |nx ρ'=>exact jC w h'
  |rt d=>exact jC w h'
  |fr c=>exact jC w h'
  |xc ρ' d=>exact tK w h'
theorem vp {L:List Nat} {r:List CS'} {o:Oc} (h:run G cl (.fgt L::r) ρ=some o):run G cl r (fH L ρ)=some o:=by
 unfold run at h
 have e:aa G cl (.fgt L) ρ=some (.nx (fH L ρ)):=by rw [aa]
 rw [e] at h
 exact h
theorem rg {b:List CS'} {l:List CS'} (h:l=erL b):(∃L r,b=.fgt L::r∧l=erL r)∨(b=[]∧l=[])∨∃s r,b=s::r∧l=er1 s::erL r:=by
 cases b with
 |nil=>exact .inr (.inl ⟨rfl,by rw [h];rfl⟩)
 |cons s r=>
  cases s with
  |fgt L=>exact .inl ⟨L,r,rfl,by rw [h,erL]⟩
  |_=>exact .inr (.inr ⟨_,r,rfl,by rw [h,erL];intro L z;cases z⟩)
theorem fu (R:Row P wd K mg base G) (C:Calls P wd K mg base G kc cl) (hk:kc+2<=k) (xf:XF P wd K mg base X sc N k):∀n,xN G cl X sc N z dx n:=by
 intro n
 induction n with
 |zero=>exact ⟨fun st s h=>(by unfold cS1 at h;cases h),fun sts b h=>(by unfold cS at h;cases h)⟩
 |succ n ih=>
  refine ⟨fun st s h ρ o hr=>xV R C hk xf ih h hr,fun sts b=>?_⟩
  induction b generalizing sts with
  |nil=>
   intro h ρ o hr
   unfold run at hr;cases hr
   unfold cS at h
   split at h
   ·exact n4
   ·split at h
    ·cases h
    ·cases h
  |cons s0 r0 ihb=>
   intro h ρ o hr
   rcases rg (b:=s0::r0) rfl with ⟨L,r,eb,el⟩|⟨eb,el⟩|⟨s,r,eb,el⟩
   ·cases eb
    rw [el] at h
    exact SS.fgt (ihb sts h _ _ (vp hr))
   ·cases eb
   ·cases eb
    rw [el] at h
    unfold cS at h
    split at h
    ·cases h
    ·split at h
     ·rename_i s0' r0' h1 h2
      cases h
      exact Bl xf.xe.nox (fun ρ o h=>ih.s _ _ h1 ρ o h) (fun ρ o h=>ih.b _ _ h2 ρ o h) hr
     ·cases h
end
theorem iO {CX:CXT} {P:Program} {wd:World} {K:Frag} {mg:Str->Option Value} {base:Heap} {N ps:List Str} {qual:Str} {st:Stmt} {f:Addr} {cd:Value} {A:Around} {outer:List PySem.Env} {s:Shared} {H:Hp} {E:XK} {k:Nat}
  (S:bA N ps (ah st)) (hr:ay k (A.deeper (envOfC qual (ah st) s.heap.objs.size f cd))):XF P wd K mg base (bJ CX P wd K mg base N qual (ah st) f cd A outer s H E).nox (ah st) N k where
 xe:={p_:=rfl,w_:=rfl,K_:=rfl,mg_:=rfl,fY:=rfl,sc_:=rfl,N_:=rfl,nd:=S.nd,kU:=fun _=>rfl,k7:=fun _=>hr,units:=hr.units,nox:=fun _ _ z=>z,fn:=fun _ _ _ _=>rfl}
 pass:=PassesOwn.never
 hst:=rfl
 hfr:=rfl
 blk:=by
  show (if (ah st).kind.isAnnotationScope then _ else (ah st).kind)=_
  rw [S.kind];rfl
section
variable {P:Program} {wd:World} {K:Frag} {mg:Str->Option Value} {base:Heap} {G:Prg}
theorem iW {z dx:Addr} {ds:List D} {n:Nat}:trR z dx (ds.map .val++List.replicate n .nil)=ds.map .val++List.replicate n .nil:=by
 unfold trR
 rw [List.map_append,List.map_map,List.map_replicate]
 congr 1
theorem j9 {key:Str} {C:Addr} {d:Def} {N ps:List Str} {n:Nat} (df:G.defs key=some (some C,d)) (h1:d.slots=N.length) (h2:d.au=ps.length) (ds:List D) (r:Rs) (h:kal G (n+1) key ds=some r):
  ds.length+1=ps.length∧((∃ρ' a b fs,run G (kal G n) d.body (.new C 0 0 []::(ds.map .val++List.replicate (N.length - (ds.length+1)) .nil))=some (.nx ρ')∧ρ'[0]?=some (.new C a b fs)∧r=.ok (.ins C fs))∨
   ∃ρ' x,run G (kal G n) d.body (.new C 0 0 []::(ds.map .val++List.replicate (N.length - (ds.length+1)) .nil))=some (.xc ρ' x)∧r=.xc x):=by
 unfold kal at h
 rw [df] at h
 unfold c_ at h
 dsimp only at h
 split at h
 ·rename_i hl
  rw [h1] at h
  refine ⟨by rw [←h2];exact hl.1,?_⟩
  split at h
  ·rename_i ρ' q
   split at h
   ·rename_i C' a b fs h0
    split at h
    ·rename_i hC;subst hC;cases h;exact .inl ⟨ρ',a,b,fs,q,h0,rfl⟩
    ·cases h
   ·cases h
  ·rename_i ρ' x' q;cases h;exact .inr ⟨ρ',x',q,rfl⟩
  ·cases h
 ·cases h
theorem ub (R:Row P wd K mg base G):∀n,Calls P wd K mg base G (3*n+3) (kal G n):=by
 intro n
 induction n with
 |zero=>
  refine ⟨fun key d f fd ps L=>?_,fun key d f fd ps L=>?_,fun key C d f fd ps L=>?_,fun key C d f fd ps L ds r h=>?_⟩
  ·have no:∀vs H Q E,¬spR K (prR (kal G 0) key) vs H Q E:=fun vs H Q E ⟨S,ds,r,_,_,p,_⟩=>by
    cases r with
    |ok d=>obtain ⟨r,h,_⟩:=p;unfold kal at h;cases h
    |xc d=>have h:kal G 0 key ds=some (.xc d):=p;unfold kal at h;cases h
   exact ⟨fun vs H Q E h=>(no _ _ _ _ h).elim,fun A outer s H args us vs Q E hr he hb hv hs=>(no _ _ _ _ hs).elim⟩
  ·have no:∀vs H Q E,¬jM K (prF (kal G 0) key) vs H Q E:=fun vs H Q E ⟨S,ds,c,_,_,p,_⟩=>by
    have h:kal G 0 key ds=some (.fr c):=p
    unfold kal at h;cases h
   exact ⟨fun vs H Q E h=>(no _ _ _ _ h).elim,fun A outer s H args us vs Q E hr he hb hv hs=>(no _ _ _ _ hs).elim⟩
  ·have no:∀vs H Q E,¬jH K C (prI (kal G 0) C key) vs H Q E:=fun vs H Q E ⟨S,x,dx,us,ds,r,_,_,_,_,_,p,_⟩=>by
    cases r with
    |ok fs=>have h:kal G 0 key ds=some (.ok (.ins C fs)):=p;unfold kal at h;cases h
    |xc d=>have h:kal G 0 key ds=some (.xc d):=p;unfold kal at h;cases h
   exact ⟨fun vs H Q E h=>(no _ _ _ _ h).elim,fun A outer s H args us vs Q E hr he hb hv hs=>(no _ _ _ _ hs).elim⟩
  ·unfold kal at h;cases h
 |succ n ih=>
  have hk:3*(n+1)+3=(3*n+5)+1:=by omega
  refine ⟨fun key d f fd ps L=>?_,fun key d f fd ps L=>?_,fun key C d f fd ps L=>?_,fun key C d f fd ps L ds r h=>?_⟩
  ·obtain ⟨x,qual,st,N,F,S,hc,h1,h2⟩:=L.ex
   rw [hk]
   have shape:∀ds r,kal G (n+1) key ds=some r->ds.length=ps.length∧∃o,run G (kal G n) d.body (aJ N ds)=some o∧r=(match o with|.nx _=>.ok .non|.rt x=>.ok x|.fr c=>.fr c|.xc _ x=>.xc x):=fun ds r h=>by
    unfold kal at h
    rw [L.df] at h
    unfold c_ at h
    dsimp only at h
    split at h
    ·rename_i hl
     rw [h1] at h
     refine ⟨by rw [←h2];exact hl.1,?_⟩
     split at h
     ·rename_i ρ' q;cases h;exact ⟨_,q,rfl⟩
     ·rename_i x' q;cases h;exact ⟨_,q,rfl⟩
     ·rename_i c q;cases h;exact ⟨_,q,rfl⟩
     ·rename_i ρ' x' q;cases h;exact ⟨_,q,rfl⟩
     ·cases h
    ·cases h
   refine CL F S (fun ds r p=>?_) (fun cdv A outer s H E ds d' hr p=>?_) (fun cdv A outer s H E ds d' hr p=>?_)
   ·cases r with
    |ok d'=>obtain ⟨r,h,_⟩:=p;exact (shape ds r h).1
    |xc d'=>exact (shape ds _ p).1
   ·obtain ⟨r,h,hv⟩:=p
    obtain ⟨_,o,ho,e⟩:=shape ds r h
    have B:=(fu (z:=0) (dx:=0) R ih (by omega) (iO (CX:=CXA P wd) (P:=P) (wd:=wd) (K:=K) (mg:=mg) (base:=base) (outer:=outer) (H:=H) (E:=E) S hr) 60).b _ _ hc _ o ho
    have e0:trR 0 0 (aJ N ds)=aJ N ds:=iW
    cases o with
    |nx ρ'=>subst e;cases hv;refine ⟨.nx (trR 0 0 ρ'),rfl,?_⟩;have B':DSs _ _ _ _:=B;rw [e0] at B';exact B'
    |rt x'=>subst e;cases hv;refine ⟨.rt _,rfl,?_⟩;have B':DSs _ _ _ _:=B;rw [e0] at B';exact B'
    |fr c=>subst e;cases hv;refine ⟨.rfx c,rfl,?_⟩;have B':DSs _ _ _ _:=B;rw [e0] at B';exact B'
    |xc ρ' x'=>subst e;cases hv
   ·obtain ⟨_,o,ho,e⟩:=shape ds _ p
    have B:=(fu (z:=0) (dx:=0) R ih (by omega) (iO (CX:=CXA P wd) (P:=P) (wd:=wd) (K:=K) (mg:=mg) (base:=base) (outer:=outer) (H:=H) (E:=E) S hr) 60).b _ _ hc _ o ho
    have e0:trR 0 0 (aJ N ds)=aJ N ds:=iW
    cases o with
    |nx ρ'=>cases e
    |rt x'=>cases e
    |fr c=>cases e
    |xc ρ' x'=>cases e;refine ⟨trR 0 0 ρ',?_⟩;have B':b4 _ _ _ _ _:=B;rw [e0] at B';exact B'
  ·obtain ⟨x,qual,st,N,F,S,hc,h1,h2⟩:=L.ex
   rw [hk]
   have shape:∀ds c,kal G (n+1) key ds=some (.fr c)->ds.length=ps.length∧run G (kal G n) d.body (aJ N ds)=some (.fr c):=fun ds r h=>by
    unfold kal at h
    rw [L.df] at h
    unfold c_ at h
    dsimp only at h
    split at h
    ·rename_i hl
     rw [h1] at h
     refine ⟨by rw [←h2];exact hl.1,?_⟩
     split at h
     ·cases h
     ·cases h
     ·rename_i c q;cases h;exact q
     ·cases h
     ·cases h
    ·cases h
   refine BH F S (fun ds c p=>(shape ds c p).1) (fun cdv A outer s H E ds c hr p=>?_)
   have B:=(fu (z:=0) (dx:=0) R ih (by omega) (iO (CX:=CX0) (P:=P) (wd:=wd) (K:=K) (mg:=mg) (base:=base) (outer:=outer) (H:=H) (E:=E) S hr) 60).b _ _ hc _ _ (shape ds c p).2
   have e0:trR 0 0 (aJ N ds)=aJ N ds:=iW
   have B':DSs _ _ _ _:=B
   rw [e0] at B'
   exact B'
  ·obtain ⟨x,qual,st,N,F,S,hc,h1,h2⟩:=L.ex
   rw [hk]
   have shape:=j9 (C:=C) (n:=n) L.df h1 h2
   have e0:∀z dx:Addr,∀ds:List D,trR z dx (.new C 0 0 []::(ds.map .val++List.replicate (N.length - (ds.length+1)) .nil))=.new C z dx []::(aJ N (.non::ds)).tail:=fun z dx ds=>by
    show Sl.new C z dx []::trR z dx (ds.map .val++List.replicate (N.length - (ds.length+1)) .nil)=_
    rw [iW];rfl
   refine AO F S (fun ds r p=>?_) (fun cdv A outer s H E ds fs z dx hr p=>?_) (fun cdv A outer s H E ds d' z dx hr p=>?_)
   ·cases r with
    |ok fs=>exact (shape ds _ p).1
    |xc d'=>exact (shape ds _ p).1
   ·obtain ⟨_,h⟩:=shape ds _ p
    rcases h with ⟨ρ',a,b,fs',ho,h0,e⟩|⟨ρ',x',ho,e⟩
    ·cases e
     have B:=(fu (z:=z) (dx:=dx) R ih (by omega) (iO (CX:=CXA P wd) (P:=P) (wd:=wd) (K:=K) (mg:=mg) (base:=base) (outer:=outer) (H:=H) (E:=E) S hr) 60).b _ _ hc _ _ ho
     have B':DSs _ _ _ _:=B
     rw [e0] at B'
     exact ⟨_,by rw [List.getElem?_map,h0];rfl,B'⟩
    ·cases e
   ·obtain ⟨_,h⟩:=shape ds _ p
    rcases h with ⟨ρ',a,b,fs',ho,h0,e⟩|⟨ρ',x',ho,e⟩
    ·cases e
    ·cases e
     have B:=(fu (z:=z) (dx:=dx) R ih (by omega) (iO (CX:=CXA P wd) (P:=P) (wd:=wd) (K:=K) (mg:=mg) (base:=base) (outer:=outer) (H:=H) (E:=E) S hr) 60).b _ _ hc _ _ ho
     have B':b4 _ _ _ _ _:=B
     rw [e0] at B'
     exact ⟨_,B'⟩
  ·obtain ⟨x,qual,st,N,F,S,hc,h1,h2⟩:=L.ex
   obtain ⟨_,h⟩:=j9 (C:=C) (n:=n) L.df h1 h2 ds r h
   rcases h with ⟨ρ',a,b,fs',ho,h0,e⟩|⟨ρ',x',ho,e⟩
   ·exact .inl ⟨fs',e⟩
   ·exact .inr ⟨x',e⟩
end
end IN
namespace IN
open PySem PySem.Spec PySem.W L2 CT
open PyProof.Rows hiding St
noncomputable def asc {α β:Type} [DecidableEq α]:List (α×β)->α->Option β
 |[],_=>none
 |(a,b)::l,x=>if a=x then some b else asc l x
theorem cD {α β:Type} [DecidableEq α] {l:List (α×β)} {x:α} {y:β} (h:asc l x=some y):(x,y)∈l:=by
 induction l with
 |nil=>cases h
 |cons p l ih=>
  obtain ⟨a,b⟩:=p
  unfold asc at h
  split at h
  ·rename_i e;cases h;rw [e];exact List.mem_cons_self
  ·exact List.mem_cons_of_mem _ (ih h)
noncomputable def dz (n c:String):Bool:=n==c||(n=="bool"&&c=="int")
noncomputable def fA:List String:=["NoneType","bool","int","str","tuple","list","dict"]
noncomputable def fB:List String:=["int","bool","list","tuple","str","dict"]
structure Src where
 gl:List (Str×D):=[]
 fn:List Str:=[]
 ini:List (Str×(Addr×Str)):=[]
 exc:List (Str×(Addr×List Str)):=[]
 mth:List ((Addr×Str)×Str):=[]
 fok:List (Addr×Str):=[]
 xok:List (Addr×Str):=[]
 uh:List ((Addr×Addr)×Bool):=[]
 sU:List ((Addr×Addr)×Bool):=[]
 sh:List (Addr×Bool):=[]
 sub:List ((Addr×Addr)×Bool):=[]
 defs:List (Str×(Option Addr×Def)):=[]
noncomputable def Src.kit (s:Src):Tag->Tag->Option Bool
 |.ty n,.ty c=>if n∈fA∧c∈fB then some (dz n c) else none
 |.cl C,.cl E=>asc s.uh (C,E)
 |.xc C,.cl E=>asc s.sU (C,E)
 |.xc C,.ty c=>if c="ValueError" then asc s.sh C else none
 |_,_=>none
noncomputable def Src.prg (s:Src):Prg where
 glob:=asc s.gl
 fn:=fun x=>if x∈s.fn then some x else none
 ini:=asc s.ini
 exc:=asc s.exc
 mth:=fun C m=>asc s.mth (C,m)
 fok:=fun C f=>decide ((C,f)∈s.fok)
 xok:=fun C f=>decide ((C,f)∈s.xok)
 kit:=s.kit
 sub:=fun C E=>asc s.sub (C,E)
 defs:=asc s.defs
noncomputable def BX (mg:Str->Option Value) (x:Str):D->Prop
 |.ty n=>mg x=none∧bootBuiltins x=some (.type n)
 |.cl C=>mg x=some (.ref C)
 |.int i=>∃t,mg x=some (.int i t)
 |_=>False
noncomputable def lX (K:Frag) (C:Addr):Bool:=plainGet K C Str.empty&&hasDictIn K C&&plainOver K C&&findIn K (.ref C) "__setattr__"==some (some (.builtin "object.__setattr__"))&&findIn K (.ref C) "__class__"==some (some (.builtin "object.__class__"))&&
 specialIn K (.builtin "object.__class__") "__get__"==some (some (.builtin "getset_descriptor.__get__"))&&takesIn K (.builtin "object.__class__")==some true&&mroIn K C (.type "object")==some true
theorem fx {K:Frag} {C:Addr} (h:lX K C=true):Isi K C:=by
 unfold lX at h
 simp only [Bool.and_eq_true,beq_iff_eq] at h
 obtain ⟨⟨⟨⟨⟨⟨⟨h1,h2⟩,h3⟩,h4⟩,h5⟩,h6⟩,h7⟩,h8⟩:=h
 exact ⟨⟨h1,h2,h3,h4⟩,h5,h6,h7,h8⟩
noncomputable def zN (K:Frag):Bool:=fA.all fun n=>fB.all fun c=>kitOne K (.type n) (.type c)==some (dz n c)
noncomputable def ph:List Str:=["len","sum","all","any","abs","int","tuple","list","dict","min","max","isinstance","range","zip","enumerate"]
theorem Al {x:Str} {b:BN} (h:bnC x=some b):x∈ph:=by
 unfold bnC at h
 repeat (rcases mn h with ⟨hx,hb⟩|h;(subst hx;decide))
 cases h
noncomputable def GF (K:Frag) (q:Str) (st:Stmt):Prop:=∃f,nsIn K mainGlobals q=some (some (.ref f))∧∃fd,Fun K q q st f fd
noncomputable def MF (K:Frag) (C:Addr) (m q:Str) (st:Stmt):Prop:=∃f,findIn K (.ref C) m=some (some (.ref f))∧isFn K (.ref f)=true∧∃fd,Fun K m q st f fd
theorem AV {K:Frag} {q:Str} {st:Stmt} {f:Addr} {oc:Value} {od an:Option Addr} {osl:Array (Option Value)} {kV doc pm cdv ct:Value} (a:nsIn K mainGlobals q=some (some (.ref f))) (l:K.lookup f=some ⟨oc,od,.func (fnOf q q (c7 st) (aR st) (ah st) .none kV doc pm an cdv ct),osl⟩) (c:codeIn K cdv q=true) (k:keepIn K (.ref f)=true):GF K q st:=⟨f,a,_,pX l c k⟩
theorem AL {K:Frag} {C:Addr} {m q:Str} {st:Stmt} {f:Addr} {oc:Value} {od an:Option Addr} {osl:Array (Option Value)} {kV doc pm cdv ct:Value} (a:findIn K (.ref C) m=some (some (.ref f))) (i:isFn K (.ref f)=true) (l:K.lookup f=some ⟨oc,od,.func (fnOf m q (c7 st) (aR st) (ah st) .none kV doc pm an cdv ct),osl⟩) (c:codeIn K cdv q=true) (k:keepIn K (.ref f)=true):MF K C m q st:=⟨f,a,i,_,pX l c k⟩
structure DT (G:Prg) (key:Str) (C:Option Addr) (d:Def) (x q:Str) (st:Stmt) (ps:List Str):Prop where
 N:∃N,bA N ps (ah st)∧cS 60 (ah st) N (aR st)=some (erL d.body)∧d.slots=N.length
 bd:∀(kV doc pm:Value) (an:Option Addr) (cdv ct:Value) (us:List Value),us.length=ps.length->bindArgs (fnOf x q (c7 st) (aR st) (ah st) .none kV doc pm an cdv ct) ⟨us,[]⟩=pure (ps.zip us)
 df:G.defs key=some (C,d)
 au:d.au=ps.length
 ini:d.init=C.isSome
theorem DT.lk {K:Frag} {G:Prg} {key x q:Str} {C:Option Addr} {d:Def} {st:Stmt} {ps:List Str} {f:Addr} {fd:FuncData} (t:DT G key C d x q st ps) (F:Fun K x q st f fd):Lk K G key C d f fd ps:=by
 obtain ⟨N,h1,h2,h3⟩:=t.N
 exact ⟨t.df,F.binds t.bd,F.kp,⟨x,q,st,N,F,h1,h2,h3,t.au⟩,t.ini⟩
theorem fk {P:List Value->Prop} (h:∀a0,P [a0]):∀us:List Value,us.length=1->P us
 |[a0],_=>h a0
theorem d5 {P:List Value->Prop} (h:∀a0 a1,P [a0,a1]):∀us:List Value,us.length=2->P us
 |[a0,a1],_=>h a0 a1
theorem eP {P:List Value->Prop} (h:∀a0 a1 a2,P [a0,a1,a2]):∀us:List Value,us.length=3->P us
 |[a0,a1,a2],_=>h a0 a1 a2
theorem AA {P:List Value->Prop} (h:∀a0 a1 a2 a3,P [a0,a1,a2,a3]):∀us:List Value,us.length=4->P us
 |[a0,a1,a2,a3],_=>h a0 a1 a2 a3
section
variable {K:Frag} {h:Heap} {mg:Str->Option Value} {G:Prg} {q m key:Str} {st:Stmt} {d:Def} {ps:List Str} {C:Addr}
theorem GF.row (X:K.In h) (GG:h.Ns mainGlobals mg) (t:DT G q none d q q st ps) (e:GF K q st):∃d f fd ps,mg q=some (.ref f)∧Lk K G q none d f fd ps:=by
 obtain ⟨f,a,fd,F⟩:=e
 exact ⟨d,f,fd,ps,mg_of X GG a,t.lk F⟩
theorem MF.row (o:lX K C=true) (t:DT G key none d m key st ps) (e:MF K C m key st):∃d f fd ps,Meth K C m f∧Cls K C∧Lk K G key none d f fd ps:=by
 obtain ⟨f,a,i,fd,F⟩:=e
 exact ⟨d,f,fd,ps,⟨a,i,F.kp⟩,(fx o).cl,t.lk F⟩
theorem MF.ini (X:K.In h) (GG:h.Ns mainGlobals mg) (b:nsIn K mainGlobals q=some (some (.ref C))) (mk:makesIn K C=true) (kc:keepIn K (.ref C)=true) (t:DT G key (some C) d "__init__" key st ps) (e:MF K C "__init__" key st):∃d f fd ps,mg q=some (.ref C)∧Mk K C f∧Lk K G key (some C) d f fd ps:=by
 obtain ⟨f,a,i,fd,F⟩:=e
 exact ⟨d,f,fd,ps,mg_of X GG b,⟨mk,a,i,kc⟩,t.lk F⟩
theorem MF.x1 {P:Program} {w:World} {base:Heap} {y fl:Str} (e:MF K C "__init__" q st) (S:bA ["self",y] ["self",y] (ah st)) (hb:∃p1 p2 p3 p4,aR st=[.Assign [.Attribute (.Name "self" p1) fl p2] (.Name y p3) p4])
  (bd:∀(kV doc pm:Value) (an:Option Addr) (cdv ct:Value) (us:List Value),us.length=2->bindArgs (fnOf "__init__" q (c7 st) (aR st) (ah st) .none kV doc pm an cdv ct) ⟨us,[]⟩=pure ((["self",y]:List Str).zip us))
  (mk:fP K C=true) (kc:keepIn K (.ref C)=true) (c:br K C) (na:a7 K C fl) (d1:(y==("__debug__":Str))=false) (d2:(y==("__classdict__":Str))=false):∃f fd ps,XMk K C f∧aw P w K mg base CX0 1 f fd ps (spX C [fl])∧Binds K fd ps []:=by
 obtain ⟨f,a,i,fd,F⟩:=e
 obtain ⟨p1,p2,p3,p4,hb⟩:=hb
 exact ⟨f,fd,_,⟨mk,a,i,kc⟩,Ba F S hb c na d1 d2,F.binds bd⟩
end
section
variable {P:Program} {w:World} {K:Frag} {mg:Str->Option Value} {base:Heap} {s:Src}
theorem yX (hblt:∀x∈ph,mg x=none) (hgl:∀p∈s.gl,BX mg p.1 p.2) (hty:zN K=true)
  (hcl:∀p∈s.uh,kitOne K (.ref p.1.1) (.ref p.1.2)=some p.2∧Isi K p.1.1) (hxc:∀p∈s.sU,kitOne K (.ref p.1.1) (.ref p.1.2)=some p.2∧iK K p.1.1) (hxv:∀p∈s.sh,kitOne K (.ref p.1) (.type "ValueError")=some p.2∧iK K p.1)
  (hfn:∀x∈s.fn,∃d f fd ps,mg x=some (.ref f)∧Lk K s.prg x none d f fd ps)
  (hini:∀p∈s.ini,∃d f fd ps,mg p.1=some (.ref p.2.1)∧Mk K p.2.1 f∧Lk K s.prg p.2.2 (some p.2.1) d f fd ps)
  (hmth:∀p∈s.mth,∃d f fd ps,Meth K p.1.1 p.1.2 f∧Cls K p.1.1∧Lk K s.prg p.2 none d f fd ps)
  (hfok:∀p∈s.fok,Cls K p.1∧a7 K p.1 p.2) (hxok:∀p∈s.xok,br K p.1∧a7 K p.1 p.2)
  (hexc:∀p∈s.exc,Xc P w K mg base p.1 p.2.1 p.2.2) (hsub:∀p∈s.sub,mroIn K p.1.1 (.ref p.1.2)=some p.2∧l8 K p.1.2):Row P w K mg base s.prg where
 blt:=fun x b h=>hblt x (Al h)
 glob:=fun X hK hmg x d h ok g ρ pos=>by
  have:=hgl _ (cD h)
  rw [←hmg] at this
  unfold bP at ok
  simp only [Bool.and_eq_true,Bool.not_eq_true'] at ok
  obtain ⟨⟨o1,o2⟩,o3⟩:=ok
  have o3':x≠"__name__":=fun z=>by rw [z] at o3;revert o3;decide
  cases d with
  |ty n=>exact A8 g this.1 this.2 o3' o1
  |cl C=>exact A0 g this o1
  |int i=>obtain ⟨t,ht⟩:=this;exact sy g ht o1
  |_=>exact this.elim
 uI:=fun x C h=>hgl _ (cD h)
 kit:=fun t u q h=>by
  change s.kit t u=some q at h
  cases t with
  |ty n=>
   cases u with
   |ty c=>
    unfold Src.kit at h
    dsimp only at h
    split at h
    ·rename_i hm
     cases h
     have:=List.all_eq_true.mp (List.all_eq_true.mp hty n hm.1) c hm.2
     exact ⟨beq_iff_eq.mp this,fun _ z=>(nomatch z),fun _ z=>(nomatch z)⟩
    ·cases h
   |cl C=>cases h
   |xc C=>cases h
  |cl C=>
   cases u with
   |ty c=>cases h
   |cl E=>have:=hcl _ (cD h);exact ⟨this.1,fun _ z=>by cases z;exact this.2,fun _ z=>(nomatch z)⟩
   |xc E=>cases h
  |xc C=>
   cases u with
   |ty c=>
    unfold Src.kit at h
    dsimp only at h
    split at h
    ·rename_i e;subst e;have:=hxv _ (cD h);exact ⟨this.1,fun _ z=>(nomatch z),fun _ z=>by cases z;exact this.2⟩
    ·cases h
   |cl E=>have:=hxc _ (cD h);exact ⟨this.1,fun _ z=>(nomatch z),fun _ z=>by cases z;exact this.2⟩
   |xc E=>cases h
 fn:=fun x key h=>by
  change (if x∈s.fn then some x else none)=some key at h
  split at h
  ·rename_i hm;cases h;exact hfn x hm
  ·cases h
 ini:=fun x C key h=>hini _ (cD h)
 mth:=fun C m key h=>hmth _ (cD h)
 fok:=fun C f h=>hfok _ (of_decide_eq_true h)
 xok:=fun C f h=>hxok _ (of_decide_eq_true h)
 exc:=fun x C fs h=>hexc _ (cD h)
 sub:=fun C E b h=>hsub _ (cD h)
end
theorem hI {K:Frag} {H:Hp} {S:CT.Ad}:∀ns:List Int,ae K H S (ns.map .int) (ns.map V.int)
 |[]=>.nil
 |n::ns=>.cons (.int n) (hI ns)
noncomputable def lD (G:Prg) (n:Nat) (ds:List D) (d:D):Prop:=prR (kal G n) "law" ds (.ok d)
theorem yD {K:Frag} {G:Prg} {n:Nat} {H:Hp} {a:Addr} {ns:List Int} (hG:kal G n "law" [.lst (ns.map .int)]=some (.ok (.bl true))) (h:SqL K H a (ns.map V.int)):spD K (lD G n) [.ref a] H (fun v _=>v=.bl true) fun _ _ _=>False:=by
 refine ⟨no,[.lst (ns.map .int)],.bl true,fun _ z=>z.elim,.cons ?_ .nil,⟨_,hG,rfl⟩,fun v H' _ r=>r.blV⟩
 rcases h with h|h
 ·exact .lst h (fun z=>z) (hI ns)
 ·exact .lstK h (hI ns)
theorem nG {K:Frag} {C:Addr} (h:jv K C=true) (ty:typeIn K (.ref C)=some (.type "type")):l8 K C:=by
 have c:=(ar h).cl
 obtain ⟨cd,hc,_⟩:=any_some c.ov
 exact ⟨⟨cd,hc⟩,ty,c.mro (by decide)⟩
theorem zd {P:Program} {w:World} {K:Frag} {h:Heap} {mg:Str->Option Value} {G:Prg} {n:Nat} {st:Stmt} {d:Def} {x:Str} {fa:Addr} (X:K.In h) (GG:h.Ns mainGlobals mg) (hfa:mg "law"=some (.ref fa)) (R:∀base,Row P w K mg base G) (t:DT G "law" none d "law" "law" st [x]) (e:GF K "law" st):
  ∃fd:FuncData,(∀(s:Shared) (v:Value),BindsTo s fd ⟨[v],[]⟩ [(x,v)])∧∀base:Heap,K.In base->base.Ns mainGlobals mg->aw P w K mg base CX0 (3*n+3) fa fd [x] (spD K (lD G n)):=by
 obtain ⟨f,a,fd,F⟩:=e
 have e1:=hfa.symm.trans (mg_of X GG a)
 cases e1
 refine ⟨fd,?_,fun base _ _=>CT.aw.okD ((ub (R base) n).fn _ _ _ _ _ (t.lk F))⟩
 intro s v
 obtain ⟨oc,od,kV,doc,pm,an,cdv,ct,osl,rfl,lk,hcd⟩:=F.ex
 exact .of_eq (t.bd kV doc pm an cdv ct [v] rfl)
end IN
namespace PL
open PySem PySem.Spec L2 CT IN
open PyProof.Rows hiding St
section
variable {G:Prg} {cl:Str->List D->Option Rs} {ρ ρ':Rho} {s:CS'} {r:List CS'} {o:Option Oc} {n:Nat} {k:Str} {d:Def} {ds:List D} {x:D}
theorem st (h1:IN.aa G cl s ρ=some (.nx ρ')) (h2:IN.run G cl r ρ'=o):IN.run G cl (s::r) ρ=o:=by rw [IN.run,h1];exact h2
theorem az (h1:IN.aa G cl s ρ=some (.rt x)):IN.run G cl (s::r) ρ=some (.rt x):=by rw [IN.run,h1]
theorem k_ (h1:IN.aa G cl s ρ=some (.xc ρ' x)):IN.run G cl (s::r) ρ=some (.xc ρ' x):=by rw [IN.run,h1]
theorem bK:IN.run G cl [] ρ=some (.nx ρ):=by rw [IN.run]
theorem aC (hd:G.defs k=some (none,d)) (hl:ds.length=d.au∧d.init=false) {ρ0:Rho} (h0:ds.map .val++List.replicate (d.slots - ds.length) .nil=ρ0) (h:IN.run G (kal G n) d.body ρ0=some (.rt x)):kal G (n+1) k ds=some (.ok x):=by
 rw [kal,hd];dsimp only;rw [c_,if_pos hl,h0,h]
theorem lT (hd:G.defs k=some (none,d)) (hl:ds.length=d.au∧d.init=false) {ρ0:Rho} (h0:ds.map .val++List.replicate (d.slots - ds.length) .nil=ρ0) (h:IN.run G (kal G n) d.body ρ0=some (.nx ρ)):kal G (n+1) k ds=some (.ok .non):=by
 rw [kal,hd];dsimp only;rw [c_,if_pos hl,h0,h]
theorem ja (hd:G.defs k=some (none,d)) (hl:ds.length=d.au∧d.init=false) {ρ0:Rho} (h0:ds.map .val++List.replicate (d.slots - ds.length) .nil=ρ0) (h:IN.run G (kal G n) d.body ρ0=some (.xc ρ x)):kal G (n+1) k ds=some (.xc x):=by
 rw [kal,hd];dsimp only;rw [c_,if_pos hl,h0,h]
theorem nA {C a b:Addr} {fs:List (Str×D)} (hd:G.defs k=some (some C,d)) (hl:ds.length+1=d.au∧d.init=true) {ρ0:Rho} (h0:ds.map .val++List.replicate (d.slots - (ds.length+1)) .nil=ρ0) (h:IN.run G (kal G n) d.body (.new C 0 0 []::ρ0)=some (.nx (.new C a b fs::ρ))):kal G (n+1) k ds=some (.ok (.ins C fs)):=by
 rw [kal,hd];dsimp only;rw [c_,if_pos hl,h0,h];dsimp only [List.getElem?_cons_zero];rw [if_pos rfl]
theorem w9 {C:Addr} (hd:G.defs k=some (some C,d)) (hl:ds.length+1=d.au∧d.init=true) {ρ0:Rho} (h0:ds.map .val++List.replicate (d.slots - (ds.length+1)) .nil=ρ0) (h:IN.run G (kal G n) d.body (.new C 0 0 []::ρ0)=some (.xc ρ x)):kal G (n+1) k ds=some (.xc x):=by
 rw [kal,hd];dsimp only;rw [c_,if_pos hl,h0,h]
variable {α β:Type} {t:Tg} {b:List CS'} {g:α->D} {it:CE} {L:List Nat}
theorem sJ {bb:Rho->Option Oc} (R:List α->Rho) (all:List α) (h:∀(done:List α) (a:α) (rest:List α),all=done++a::rest->∃ρ1,ai t (g a) (R done)=some ρ1∧bb ρ1=some (.nx (R (done++[a])))):
  forL t bb (all.map g) (R [])=some (.nx (R all)):=by
 have go:∀(l done:List α),all=done++l->forL t bb (l.map g) (R done)=some (.nx (R (done++l))):=by
  intro l
  induction l with
  |nil=>intro done _;rw [List.append_nil];rfl
  |cons a l ih=>
   intro done e
   obtain ⟨ρ1,h1,h2⟩:=h done a l e
   rw [List.map_cons,forL,h1]
   dsimp only
   rw [h2]
   dsimp only
   rw [ih (done++[a]) (by rw [e,List.append_assoc];rfl),List.append_assoc]
   rfl
 exact go all [] rfl
theorem gM (R:List α->Rho) (all:List α) (hi:evI G cl it (af L ρ)=some (all.map g)) (h0:af L ρ=R [])
  (h:∀(done:List α) (a:α) (rest:List α),all=done++a::rest->∃ρ1,ai t (g a) (R done)=some ρ1∧IN.run G cl b ρ1=some (.nx (R (done++[a])))):IN.aa G cl (.for t it L b) ρ=some (.nx (R all)):=by
 rw [IN.aa,hi]
 dsimp only
 rw [h0]
 exact sJ R all h
theorem lq {f:D->Option (List D)} {u:α->List D}:∀{l:List α},(∀a∈l,f (g a)=some (u a))->ij f (l.map g)=some (l.flatMap u)
 |[],_=>rfl
 |a::l,h=>by
  rw [List.map_cons,ij,h a List.mem_cons_self]
  dsimp only
  rw [lq fun b hb=>h b (List.mem_cons_of_mem _ hb)]
  rfl
theorem mZ {u:α->D} {l:List α}:(l.flatMap fun a=>[u a])=l.map u:=by
 induction l with
 |nil=>rfl
 |cons a l ih=>rw [List.flatMap_cons,ih];rfl
theorem bt {w:Nat} {cap:List Nat} {it e:CE} {l:List α} {u:α->D} (hi:evI G cl it ρ=some (l.map g)) (hw:((tks t).all fun k=>k<w)=true) (hz:l.length<=sizeLine)
  (h:∀a∈l,∃ρ1,ai t (g a) (eR w cap ρ)=some ρ1∧ev G cl e ρ1=some (u a)):ev G cl (.comp w cap t it (.lit (.bl true)) (.emit e)) ρ=some (.lst (l.map u)):=by
 rw [ev,hi]
 dsimp only
 rw [if_pos hw]
 rw [lq (g:=g) (u:=fun a=>[u a]) (l:=l),mZ]
 ·dsimp only
  rw [if_pos (by rw [List.length_map];exact hz)]
 ·intro a ha
  obtain ⟨ρ1,h1,h2⟩:=h a ha
  rw [h1]
  dsimp only
  rw [evT]
  dsimp only
  rw [evB,h2]
end
theorem la {G:Prg} {i:Int} {c:String}:cj G (.int i) (.ty c)=G.kit (.ty "int") (.ty c):=rfl
theorem kP {G:Prg} {i:Bool} {c:String}:cj G (.bl i) (.ty c)=G.kit (.ty "bool") (.ty c):=rfl
theorem kQ {G:Prg} {c:String}:cj G .non (.ty c)=G.kit (.ty "NoneType") (.ty c):=rfl
theorem kY {G:Prg} {x:Str} {c:String}:cj G (.str x) (.ty c)=G.kit (.ty "str") (.ty c):=rfl
theorem i5 {G:Prg} {xs:List D} {c:String}:cj G (.tup xs) (.ty c)=G.kit (.ty "tuple") (.ty c):=rfl
theorem kO {G:Prg} {xs:List D} {c:String}:cj G (.lst xs) (.ty c)=G.kit (.ty "list") (.ty c):=rfl
theorem lg {G:Prg} {xs:List (PK×D)} {c:String}:cj G (.pdc xs) (.ty c)=G.kit (.ty "dict") (.ty c):=rfl
theorem k8 {G:Prg} {C E:Addr} {fs:List (Str×D)}:cj G (.ins C fs) (.cl E)=G.kit (.cl C) (.cl E):=rfl
theorem lb {G:Prg} {C E:Addr} {fs:List (Str×D)}:cj G (.exc C fs) (.cl E)=G.kit (.xc C) (.cl E):=rfl
theorem iT {G:Prg} {C:Addr} {c:String} {fs:List (Str×D)}:cj G (.exc C fs) (.ty c)=G.kit (.xc C) (.ty c):=rfl
theorem i_ {G:Prg} {C:Addr} {c:String} {fs:List (Str×D)}:cj G (.ins C fs) (.ty c)=G.kit (.cl C) (.ty c):=rfl
theorem za {j:Int} (h: -(2^62)<=j∧j<2^62):fJ j=true:=by unfold fJ;rw [decide_eq_true (by omega),decide_eq_true (by omega)];rfl
theorem rZ {j:Int} (h: -(2^62)<=j∧j<2^62):bz .range [.int j]=some ((bG j).map D.int):=if_pos (za h)
theorem eA {x y:D} {xs ys:List D} (h1:aL x=some xs) (h2:aL y=some ys):bz .zip [x,y]=some (a_ xs ys):=by show (match aL x,aL y with|some xs,some ys=>some (a_ xs ys)|_,_=>none)=_;rw [h1,h2]
theorem eW {xs:List D}:aL (.lst xs)=some xs:=rfl
theorem gQ {xs:List D}:aL (.tup xs)=some xs:=rfl
theorem oS {xs:List D}:itD (.lst xs)=some xs:=rfl
theorem oY {xs:List D}:itD (.tup xs)=some xs:=rfl
theorem pI {xs:List D}:itD (.tup xs)=some xs:=rfl
theorem gP {xs:List D} {i:Int}:ixD (.lst xs) (.int i)=atI xs i:=rfl
theorem kX {xs:List D} {i:Int}:ixD (.tup xs) (.int i)=atI xs i:=rfl
theorem fF {i j:Int} (h:j.natAbs<2^64):b9 i j=true:=by unfold b9;rw [decide_eq_true h];simp
theorem jE {i j:Int} (h:i.natAbs<2^64):b9 i j=true:=by unfold b9;rw [decide_eq_true h];simp
theorem bW:∀ns:List Bool,boolsOf (ns.map .bl)=some ns
 |[]=>rfl
 |n::ns=>by rw [List.map_cons,boolsOf,bW ns]
noncomputable def prod:List Int->Int:=List.foldl (·*·) 1
theorem pZ (l:List Int) (a:Int):prod (l++[a])=prod l*a:=by
 show List.foldl (·*·) 1 (l++[a])=_
 rw [List.foldl_append];rfl
noncomputable def Sm (ns:List Int):Prop:=∀n∈ns, -(2^64)<n∧n<2^64
noncomputable def Big (ns:List Int):Prop:=∀n∈ns,2<=n∧n<2^64
theorem Big.sm {ns:List Int} (b:Big ns):Sm ns:=fun n h=>⟨by have:=(b n h).1;omega,(b n h).2⟩
noncomputable abbrev rf (ns:List Int):List (Str×D):=[(("rounds":Str),tupI ns)]
noncomputable def grp (C:Addr) (ns:List Int):D:=.ins C (rf ns)
structure Good (ns:List Int):Prop where
 ge:∀n∈ns,2<=n
 le:prod ns<=144
 lt:∀n∈ns,n<=144
 len:ns.length<=7
theorem Good.big {ns:List Int} (g:Good ns):Big ns:=fun n h=>⟨g.ge n h,by have:=g.lt n h;omega⟩
theorem Good.aS {ns:List Int} (g:Good ns):ns.length<=1000:=Nat.le_trans g.len (by decide)
noncomputable def hasB (ns ks:List Int):Bool:=(ks.zip ns).all fun p=>decide (0<=p.1)&&decide (p.1<p.2)
noncomputable def at0 (ns:List Int) (k:Int):Int:=ns.getD (k%(ns.length:Int)).toNat 0
theorem zm {ns:List Int} {k:Int} (h:0<ns.length):atI (uG ns) (k%(ns.length:Int))=some (.int (at0 ns k)):=by
 have h1:0<=k%(ns.length:Int):=Int.emod_nonneg _ (by omega)
 have h2:k%(ns.length:Int)<ns.length:=Int.emod_lt_of_pos _ (by omega)
 have e:k%(ns.length:Int)=(((k%(ns.length:Int)).toNat:Nat):Int):=by omega
 rw [e]
 refine jt ?_
 have h3:(k%(ns.length:Int)).toNat<ns.length:=by omega
 simp [uG,at0,h3]
theorem hB:∀ks:List Int,bH (ks.map .int)=true
 |[]=>rfl
 |k::ks=>by show (true&&bH (ks.map .int))=true;rw [hB ks];rfl
theorem fQ (ks:List Int):aU (tupI ks)=true:=hB ks
theorem i9:∀ks:List Int,PyData.depthAll (cP (ks.map .int))=0
 |[]=>rfl
 |k::ks=>by
  show max (PyData.depth (.int k)) (PyData.depthAll (cP (ks.map .int)))=0
  rw [i9 ks];rfl
theorem gh (ks:List Int):(toPy (tupI ks)).depth=1:=by
 show PyData.depthAll (cP (ks.map .int))+1=1
 rw [i9]
theorem sT {d:D} (h:aU d=true):eqD d d=true:=SeqAt.eqv_refl _ (ej h)
noncomputable def step (found:List (List Int)) (n:Int):List (List Int):=found.flatMap fun b=>(bG n).map fun k=>b++[k]
noncomputable def mem (ns:List Int):List (List Int):=ns.foldl step [[]]
noncomputable def aA (ns x y:List Int):List Int:=(x.zip (y.zip ns)).map fun p=>(p.1+p.2.1)%p.2.2
noncomputable def aE (ns:List Int) (m:Int) (x:List Int):List Int:=(x.zip ns).map fun p=>m*p.1%p.2
structure El (ns ks:List Int):Prop where
 len:ks.length=ns.length
 has:hasB ns ks=true
theorem ky {n k:Int} {ns ks:List Int}:hasB (n::ns) (k::ks)=((decide (0<=k)&&decide (k<n))&&hasB ns ks):=by simp [hasB]
theorem El.nil:El [] []:=⟨rfl,rfl⟩
theorem El.cons {n k:Int} {ns ks:List Int} (h1:0<=k) (h2:k<n) (e:El ns ks):El (n::ns) (k::ks):=⟨by simp [e.len],by rw [ky,e.has];simp [h1,h2]⟩
theorem El.inv {n:Int} {ns ks:List Int} (e:El (n::ns) ks):∃k r,ks=k::r∧0<=k∧k<n∧El ns r:=by
 cases ks with
 |nil=>have:=e.len;simp at this
 |cons k r=>
  have h:=e.has
  rw [ky] at h
  simp only [Bool.and_eq_true,decide_eq_true_eq] at h
  exact ⟨k,r,rfl,h.1.1,h.1.2,⟨by have:=e.len;simpa using this,h.2⟩⟩
noncomputable def Ge2 (ns:List Int):Prop:=∀n∈ns,2<=n
theorem Ge2.tail {n:Int} {ns:List Int} (g:Ge2 (n::ns)):Ge2 ns:=fun k hk=>g k (List.mem_cons_of_mem _ hk)
theorem Ge2.head {n:Int} {ns:List Int} (g:Ge2 (n::ns)):2<=n:=g n List.mem_cons_self
theorem aN {n a b:Int} {ns x y:List Int}:aA (n::ns) (a::x) (b::y)=(a+b)%n::aA ns x y:=rfl
theorem aY {n a m:Int} {ns x:List Int}:aE (n::ns) m (a::x)=m*a%n::aE ns m x:=rfl
theorem fv {a n:Int} (h:2<=n):0<=a%n∧a%n<n:=⟨Int.emod_nonneg _ (by omega),Int.emod_lt_of_pos _ (by omega)⟩
theorem El.add:∀{ns x y:List Int},Ge2 ns->El ns x->El ns y->El ns (aA ns x y)
 |[],x,y,_,h1,h2=>by
  have e:x=[]:=List.length_eq_zero_iff.mp h1.len
  subst e;exact El.nil
 |n::ns,x,y,g,h1,h2=>by
  obtain ⟨a,x',rfl,_,_,hx⟩:=h1.inv
  obtain ⟨b,y',rfl,_,_,hy⟩:=h2.inv
  rw [aN]
  exact El.cons (fv g.head).1 (fv g.head).2 (El.add g.tail hx hy)
theorem El.mul {m:Int}:∀{ns x:List Int},Ge2 ns->El ns x->El ns (aE ns m x)
 |[],x,_,h1=>by
  have e:x=[]:=List.length_eq_zero_iff.mp h1.len
  subst e;exact El.nil
 |n::ns,x,g,h1=>by
  obtain ⟨a,x',rfl,_,_,hx⟩:=h1.inv
  rw [aY]
  exact El.cons (fv g.head).1 (fv g.head).2 (El.mul g.tail hx)
theorem jY:∀{ns x:List Int},El ns x->aE ns 0 x=List.replicate ns.length 0
 |[],x,h1=>by
  have e:x=[]:=List.length_eq_zero_iff.mp h1.len
  subst e;rfl
 |n::ns,x,h1=>by
  obtain ⟨a,x',rfl,h2,h3,hx⟩:=h1.inv
  rw [aY,jY hx,Int.zero_mul,Int.zero_emod];rfl
theorem add_mul {a b:Int}:∀{ns x:List Int},El ns x->aA ns (aE ns a x) (aE ns b x)=aE ns (a+b) x
 |[],x,h1=>by
  have e:x=[]:=List.length_eq_zero_iff.mp h1.len
  subst e;rfl
 |n::ns,x,h1=>by
  obtain ⟨k,x',rfl,h2,h3,hx⟩:=h1.inv
  rw [aY,aY,aY,aN,add_mul hx,Int.add_mul,←Int.add_emod]
theorem El.zero:∀{ns:List Int},Ge2 ns->El ns (List.replicate ns.length 0)
 |[],_=>El.nil
 |n::ns,g=>by
  show El (n::ns) (0::List.replicate ns.length 0)
  exact El.cons (Int.le_refl 0) (by have:=g.head;omega) (El.zero g.tail)
theorem gu:∀{x y ns:List Int},ba (x.map .int) (y.map .int) (ns.map .int)=(x.zip (y.zip ns)).map fun p=>D.tup [.int p.1,.int p.2.1,.int p.2.2]
 |[],_,_=>by simp [ba]
 |_::_,[],_=>by simp [ba]
 |_::_,_::_,[]=>by simp [ba]
 |a::x,b::y,n::ns=>by simp [ba,gu]
theorem mh {x y ns:List Int} {p:Int×Int×Int} (h:p∈x.zip (y.zip ns)):p.2.2∈ns:=(List.of_mem_zip (List.of_mem_zip h).2).2
theorem Good.g2 {ns:List Int} (g:Good ns):Ge2 ns:=g.ge
noncomputable def gd (l:List Int) (k:Int):Int:=l.getD k.toNat 0
theorem ur {l:List Int} {k:Int} (h:0<=k) (h2:k<(l.length:Int)):atI (l.map D.int) k=some (.int (gd l k)):=by
 obtain ⟨j,rfl⟩:=Int.eq_ofNat_of_zero_le h
 have h3:j<l.length:=by omega
 refine jt ?_
 simp [gd,h3]
theorem El.small {ns x:List Int} (g:Good ns):El ns x->∀k∈x, -(2^64)<k∧k<2^64:=by
 have go:∀{ns x:List Int},(∀n∈ns,n<=144)->El ns x->∀k∈x, -(2^64)<k∧k<2^64:=by
  intro ns
  induction ns with
  |nil=>intro x _ h k hk;rw [List.length_eq_zero_iff.mp h.len] at hk;cases hk
  |cons n ns ih=>
   intro x hn h k hk
   obtain ⟨a,r,rfl,h2,h3,hr⟩:=h.inv
   rcases List.mem_cons.mp hk with e|hk
   ·rw [e];have:=hn n List.mem_cons_self;omega
   ·exact ih (fun m hm=>hn m (List.mem_cons_of_mem _ hm)) hr k hk
 exact go g.lt
noncomputable def est (s:Int×List Int) (n:Int):Int×List Int:=(s.1 / n,s.2++[s.1%n])
noncomputable def cn (c:Int) (ns:List Int):Int×List Int:=ns.foldl est (c,[])
noncomputable def elI (ns:List Int) (c:Int):List Int:=(cn c ns).2
theorem j8 (c:Int) (ns:List Int) (n:Int):cn c (ns++[n])=est (cn c ns) n:=by
 show List.foldl _ _ (ns++[n])=_
 rw [List.foldl_append];rfl
theorem l7:∀{ns:List Int} {c:Int},Ge2 ns->El ns (elI ns c):=by
 have go:∀(ns:List Int) (c:Int) (f:List Int),(ns.foldl est (c,f)).2=f++(ns.foldl est (c,[])).2:=by
  intro ns
  induction ns with
  |nil=>intro c f;simp
  |cons n ns ih=>
   intro c f
   show (ns.foldl est (c / n,f++[c%n])).2=f++(ns.foldl est (c / n,[]++[c%n])).2
   rw [ih,ih (c / n) ([]++[c%n]),List.append_assoc];rfl
 intro ns
 induction ns with
 |nil=>intro c _;exact El.nil
 |cons n ns ih=>
  intro c g
  have e:elI (n::ns) c=c%n::elI ns (c / n):=by
   show (ns.foldl est (c / n,[]++[c%n])).2=_
   rw [go];rfl
  rw [e]
  exact El.cons (fv g.head).1 (fv g.head).2 (ih g.tail)
theorem lS (c:Int) (ns:List Int):(cn c ns).2.length=ns.length:=by
 have go:∀(ns:List Int) (s:Int×List Int),(ns.foldl est s).2.length=s.2.length+ns.length:=by
  intro ns
  induction ns with
  |nil=>intro s;rfl
  |cons n ns ih=>intro s;rw [List.foldl_cons,ih];simp [est];omega
 rw [cn,go];simp
noncomputable def prD (p:List Int×List Int):D:=.tup [tupI p.1,tupI p.2]
end PL
open PySem IN CT
noncomputable def P.iz:IN.Def:={slots:=1,au:=1,body:=[
(.ret (.and (.blt .isin [(.var 0),(.gl "int")]) (.nt (.blt .isin [(.var 0),(.gl "bool")]))) [0])]}
noncomputable def P.product:IN.Def:={slots:=3,au:=1,body:=[
(.asg (.nm 1) (.lit (.int 1)) []),
(.fgt [2]),
(.for (.nm 2) (.var 0) [0] [(.asg (.nm 1) (.bin .mul (.var 1) (.var 2)) [1,2]),(.fgt [2])]),
(.ret (.var 1) [1])]}
noncomputable def P.fW:IN.Def:={slots:=1,au:=1,body:=[
(.ife (.nt (.blt .isin [(.var 0),(.tup [(.gl "list"),(.gl "tuple")])])) [0] [(.ret (.lit (.bl false)) [])] []),
(.ife (.nt (.blt .all [(.comp 1 [] (.nm 0) (.var 0) (.lit (.bl true)) (.emit (.and (.fn "is_whole" [(.var 0)]) (.cmp .ge (.var 0) (.gl "LEAST_ROUND")))))])) [0] [(.ret (.lit (.bl false)) [])] []),
(.ret (.cmp .le (.fn "product" [(.var 0)]) (.gl "MOST_MEMBERS")) [0])]}
noncomputable def P.dj:IN.Def:={slots:=2,au:=2,body:=[
(.ife (.nt (.mth (.var 0) "has" [(.var 1)])) [0,1] [(.rse "NoElement" [] [])] [])]}
noncomputable def P.oA:IN.Def:={slots:=1,au:=1,body:=[
(.ret (.blt .len [(.mth (.var 0) "members" [])]) [0])]}
noncomputable def P.e9:IN.Def:={slots:=6,au:=3,body:=[
(.exp (.mth (.var 0) "need" [(.var 2)]) [0,2]),
(.asg (.nm 3) (.ife (.cmp .lt (.var 1) (.lit (.int 0))) (.mth (.var 0) "back_of" [(.var 2)]) (.var 2)) [1,0,2]),
(.asg (.nm 4) (.blt .abs [(.var 1)]) [1]),
(.asg (.nm 5) (.mth (.var 0) "nought" []) [0]),
(.whl (.cmp .gt (.var 4) (.lit (.int 0))) [4] [(.ife (.cmp .eq (.bin .mod (.var 4) (.lit (.int 2))) (.lit (.int 1))) [4] [(.asg (.nm 5) (.mth (.var 0) "sum_of" [(.var 5),(.var 3)]) [0,5,3])] []),(.asg (.nm 3) (.mth (.var 0) "sum_of" [(.var 3),(.var 3)]) [0,3]),(.asg (.nm 4) (.bin .fdiv (.var 4) (.lit (.int 2))) [4])]),
(.ret (.var 5) [5])]}
noncomputable def P.dv:IN.Def:={slots:=2,au:=2,init:=true,body:=[
(.ife (.nt (.fn "are_rounds" [(.var 1)])) [1] [(.rse "NoRounds" [] [])] []),
(.f_ "rounds" (.blt .tuple [(.var 1)]) [1])]}
noncomputable def P.jr:IN.Def:={slots:=3,au:=1,body:=[
(.asg (.nm 1) (.lst [(.tup [])]) []),
(.fgt [2]),
(.for (.nm 2) (.fld (.var 0) "rounds") [0] [(.asg (.nm 1) (.comp 2 [2] (.nm 0) (.var 1) (.lit (.bl true)) (.loop (.nm 1) (.blt .range [(.var 2)]) (.lit (.bl true)) (.emit (.bin .add (.var 0) (.tup [(.var 1)]))))) [2,1]),(.fgt [2])]),
(.ret (.var 1) [1])]}
noncomputable def P.cH:IN.Def:={slots:=2,au:=2,body:=[
(.ife (.or (.nt (.blt .isin [(.var 1),(.gl "tuple")])) (.cmp .ne (.blt .len [(.var 1)]) (.blt .len [(.fld (.var 0) "rounds")]))) [1,0] [(.ret (.lit (.bl false)) [])] []),
(.ret (.blt .all [(.comp 2 [] (.tp [(.nm 0),(.nm 1)]) (.blt .zip [(.var 1),(.fld (.var 0) "rounds")]) (.lit (.bl true)) (.emit (.and (.fn "is_whole" [(.var 0)]) (.chn (.lit (.int 0)) (.var 0) (.var 1)))))]) [1,0])]}
noncomputable def P.cQ:IN.Def:={slots:=1,au:=1,body:=[
(.ret (.bin .mul (.tup [(.lit (.int 0))]) (.blt .len [(.fld (.var 0) "rounds")])) [0])]}
noncomputable def P.jF:IN.Def:={slots:=1,au:=1,body:=[
(.ret (.lit (.bl true)) [])]}
noncomputable def P.d4:IN.Def:={slots:=3,au:=3,body:=[
(.ret (.blt .tuple [(.comp 3 [] (.tp [(.nm 0),(.nm 1),(.nm 2)]) (.blt .zip [(.var 1),(.var 2),(.fld (.var 0) "rounds")]) (.lit (.bl true)) (.emit (.bin .mod (.bin .add (.var 0) (.var 1)) (.var 2))))]) [1,2,0])]}
noncomputable def P.pB:IN.Def:={slots:=1,au:=1,body:=[
(.ife (.or (.nt (.blt .isin [(.var 0),(.gl "Group")])) (.or (.nt (.mth (.var 0) "is_even" [])) (.cmp .gt (.mth (.var 0) "size" []) (.gl "MOST_LOWER")))) [0] [(.rse "NoLower" [] [])] [])]}
noncomputable def P.oF:IN.Def:={slots:=1,au:=1,body:=[
(.ife (.or (.nt (.blt .isin [(.var 0),(.gl "Rounds")])) (.cmp .gt (.mth (.var 0) "size" []) (.gl "MOST_UPPER"))) [0] [(.rse "NoUpper" [] [])] [])]}
noncomputable def P.se:IN.Def:={slots:=2,au:=1,body:=[
(.asg (.nm 1) (.mth (.var 0) "members" []) [0]),
(.ret (.comp 2 [1] (.nm 0) (.var 1) (.lit (.bl true)) (.loop (.nm 1) (.var 2) (.lit (.bl true)) (.emit (.tup [(.var 0),(.var 1)])))) [1])]}
noncomputable def P.jo:IN.Def:={slots:=7,au:=3,body:=[
(.asg (.nm 3) .mD []),
(.fgt [4,5,6]),
(.for (.tp [(.nm 4),(.nm 5)]) (.fn "pairs_of" [(.var 1)]) [1] [(.asg (.nm 6) (.mth (.var 2) "get" [(.tup [(.var 4),(.var 5)])]) [2,4,5]),(.ife (.nt (.mth (.var 0) "has" [(.var 6)])) [0,6] [(.rse "NoCarry" [(.var 4),(.var 5)] [4,5])] []),(.put 3 (.tup [(.var 4),(.var 5)]) (.var 6) [4,5,6]),(.fgt [4,5,6])]),
(.ret (.var 3) [3])]}
noncomputable def P.jG:IN.Def:={slots:=4,au:=4,init:=true,body:=[
(.exp (.fn "need_lower" [(.var 1)]) [1]),
(.exp (.fn "need_upper" [(.var 2)]) [2]),
(.f_ "lower" (.var 1) [1]),
(.f_ "upper" (.var 2) [2]),
(.f_ "kept" (.fn "picked_carries" [(.var 1),(.var 2),(.var 3)]) [1,2,3])]}
noncomputable def L.whole:IN.Def:={slots:=1,au:=1,body:=[
(.ret (.and (.blt .isin [(.var 0),(.gl "int")]) (.nt (.blt .isin [(.var 0),(.gl "bool")]))) [0])]}
noncomputable def L.element:IN.Def:={slots:=4,au:=2,body:=[
(.asg (.nm 2) (.lst []) []),
(.fgt [3]),
(.for (.nm 3) (.var 0) [0] [(.app 2 (.bin .mod (.var 1) (.var 3)) [1,3]),(.asg (.nm 1) (.bin .fdiv (.var 1) (.var 3)) [1,3]),(.fgt [3])]),
(.ret (.blt .tuple [(.var 2)]) [2])]}
noncomputable def L.gcd:IN.Def:={slots:=2,au:=2,body:=[
(.whl (.cmp .ne (.var 1) (.lit (.int 0))) [1] [(.par 0 1 (.var 1) (.bin .mod (.var 0) (.var 1)) [0,1])]),
(.ret (.var 0) [0])]}
namespace PL
open PySem PySem.Spec L2 CT IN
open PyProof.Rows hiding St
local macro_rules|`(tactic|simp? [$ls,*])=>do
 let m<-("af aI List.modify_zero_cons List.modify_succ_cons aO List.getElem?_cons_zero List.getElem?_cons_succ List.length_cons List.length_nil Nat.reduceAdd Nat.reduceLT if_true List.set_cons_succ List.set_cons_zero Rs.val Ow.D kp ai aQ".splitOn " ").toArray.mapM fun s=>`(Lean.Parser.Tactic.simpLemma|$(Lean.mkIdent s.toName):ident)
 let a:=(ls.getElems.map fun x=>(.mk x.raw:Lean.TSyntax `Lean.Parser.Tactic.simpLemma))++m
 `(tactic|simp only [$a,*])
local macro_rules|`(tactic|walk_at "s")=>do
 let m<-("IN.run aa.eq_1 aa.eq_2 aa.eq_3 aa.eq_4 aa.eq_5 aa.eq_6 aa.eq_7 aa.eq_8 aa.eq_9 aa.eq_10 aa.eq_11 aa.eq_12 aa.eq_13 aa.eq_16 aa.eq_18 aa.eq_19 evV ev.eq_1 ev.eq_2 ev.eq_3 ev.eq_4 ev.eq_5 ev.eq_6 ev.eq_7 ev.eq_8 ev.eq_9 ev.eq_10 ev.eq_11 ev.eq_12 ev.eq_13 ev.eq_14 ev.eq_15 ev.eq_16 ev.eq_17 ev.eq_18 ev.eq_19 ev.eq_20 ev.eq_21 ev.eq_23 evA evT evI evB aO af aI List.modify_zero_cons List.modify_succ_cons List.modify_nil kp ak bg fG ai aQ fH List.set_cons_zero List.set_cons_succ List.set_nil List.getElem?_cons_zero List.getElem?_cons_succ List.length_cons List.length_nil Nat.reduceAdd Nat.reduceLT Nat.reduceSub Nat.reduceLeDiff Nat.zero_add Nat.zero_lt_succ if_true if_false Bool.not_true Bool.not_false Bool.true_and Bool.false_and Bool.and_true Bool.and_false Bool.true_or Bool.false_or Bool.or_true Bool.or_false and_self true_and and_true Bool.false_eq_true d6 bF eW gQ oS oY pI gP kX cJ b8 b_ fnR bw Rs.val Ow.D eR cy List.replicate List.cons_append List.nil_append List.map_cons List.map_nil slD asI la kP kQ kY i5 kO lg k8 lb iT i_ Option.map_some decide_true decide_false List.all_cons List.all_nil tks dH List.append_nil reduceCtorEq ite_self".splitOn " ").toArray.mapM fun s=>`(Lean.Parser.Tactic.simpLemma|$(Lean.mkIdent s.toName):ident)
 `(tactic|simp only [*,$m,*])
local macro_rules|`(tactic|walk_at "r")=>`(tactic|(walk_at "s";try rfl))
noncomputable def dz (n c:String):Bool:=n==c||(n=="bool"&&c=="int")
noncomputable def fA:List String:=["NoneType","bool","int","str","tuple","list","dict"]
noncomputable def fB:List String:=["int","bool","list","tuple","str","dict"]
structure GA (G:Prg) (C:Addr):Prop where
 isw:G.defs "is_whole"=some (none,P.iz)
 tj:G.fn "is_whole"=some ("is_whole":Str)
 prd:G.defs "product"=some (none,P.product)
 Cc:G.fn "product"=some ("product":Str)
 are:G.defs "are_rounds"=some (none,P.fW)
 Cm:G.fn "are_rounds"=some ("are_rounds":Str)
 least:G.glob "LEAST_ROUND"=some (.int 2)
 most:G.glob "MOST_MEMBERS"=some (.int 144)
 oP:G.glob "int"=some (.ty "int")
 kT:G.glob "bool"=some (.ty "bool")
 A9:G.glob "list"=some (.ty "list")
 lF:G.glob "tuple"=some (.ty "tuple")
 kit:∀n∈fA,∀c∈fB,G.kit (.ty n) (.ty c)=some (dz n c)
 ini:G.defs "Rounds.__init__"=some (some C,P.dv)
 mM:G.fn "Rounds"=none∧G.ini "Rounds"=some (C,("Rounds.__init__":Str))
 fok:G.fok C "rounds"=true
section
variable {G:Prg} {C:Addr} {n:Nat}
theorem oR {i:Int} (A:GA G C):kal G (n+1) "is_whole" [.int i]=some (.ok (.bl true)):=by
 refine aC A.isw ⟨rfl,rfl⟩ rfl (az ?_)
 have h1:=A.kit "int" (by decide) "int" (by decide)
 have h2:=A.kit "int" (by decide) "bool" (by decide)
 have e1:dz "int" "int"=true:=by decide
 have e2:dz "int" "bool"=false:=by decide
 have:=A.oP
 have:=A.kT
 walk_at "s"
theorem qG {t:D} {ns:List Int} (A:GA G C) (hs:itD t=some (ns.map .int)) (sm:Sm ns):kal G (n+1) "product" [t]=some (.ok (.int (prod ns))):=by
 refine aC A.prd ⟨rfl,rfl⟩ (ρ0:=[.val t,.nil,.nil]) rfl ?_
 refine st (by walk_at "r") ?_
 refine st (by walk_at "r") ?_
 refine st (gM (g:=D.int) (fun done=>[.val t,.val (.int (prod done)),.any]) ns (by walk_at "s") rfl fun done a rest e=>?_) ?_
 ·refine ⟨_,by walk_at "r",?_⟩
  have h:=fF (i:=prod done) (j:=a) (by have:=sm a (by rw [e];simp);omega)
  refine st (by walk_at "r") (st (by walk_at "r") ?_)
  rw [bK,pZ]
 ·exact az (by walk_at "s")
theorem Sq.it {t:D} {xs:List D} (q:aL t=some xs):itD t=some xs:=by
 cases t<;>first|(cases q;done)|exact q
theorem yq {t:D} {xs:List D} (q:aL t=some xs):cj G t (.tup [.ty "list",.ty "tuple"])=some true:=by
 cases t<;>first|(cases q;done)|rfl
theorem BB {t:D} {ns:List Int} (A:GA G C) (q:aL t=some (ns.map .int)) (hl:ns.length<=1000) (b:Big ns):kal G (n+2) "are_rounds" [t]=some (.ok (.bl (decide (prod ns<=144)))):=by
 refine aC A.are ⟨rfl,rfl⟩ (ρ0:=[.val t]) rfl ?_
 have h1:=yq (G:=G) q
 have h2:=A.A9
 have h3:=A.lF
 have h4:=A.Cc
 have h5:=A.most
 have h6:=qG (n:=n) A (Sq.it q) b.sm
 have hz:(2:Nat)<=sizeLine:=by decide
 refine st (ρ':=[.val t]) (by walk_at "s") ?_
 have h7:ev G (kal G (n+1)) (.comp 1 [] (.nm 0) (.var 0) (.lit (.bl true)) (.emit (.and (.fn "is_whole" [(.var 0)]) (.cmp .ge (.var 0) (.gl "LEAST_ROUND"))))) [.val t]=some (.lst ((ns.map fun _=>true).map .bl)):=by
  rw [List.map_map]
  refine bt (g:=D.int) (by simp only [evI,aO,List.getElem?_cons_zero];exact Sq.it q) rfl (Nat.le_trans hl (by decide)) fun a ha=>⟨_,rfl,?_⟩
  have e1:=A.tj
  have e2:=oR (i:=a) (n:=n) A
  have e3:=A.least
  have e4:decide (2<=a)=true:=decide_eq_true (b a ha).1
  walk_at "s"
  rfl
 have h8:((ns.map fun _=>true).all id)=true:=by simp
 refine st (ρ':=[.val t]) (by
  have:=bW (ns.map fun _=>true)
  walk_at "s") ?_
 exact az (by walk_at "s")
theorem lG {t:D} {ns:List Int} (A:GA G C) (q:aL t=some (ns.map .int)) (g:Good ns):kal G (n+3) "Rounds.__init__" [t]=some (.ok (grp C ns)):=by
 refine nA A.ini ⟨rfl,rfl⟩ (ρ0:=[.val t]) rfl (fs:=rf ns) (a:=0) (b:=0) (ρ:=[.val t]) ?_
 have h1:=A.Cm
 have h2:=BB (n:=n) A q g.aS g.big
 rw [decide_eq_true g.le] at h2
 refine st (ρ':=[.new C 0 0 [],.val t]) (by walk_at "s") ?_
 have h3:=A.fok
 have h4:bg (ns.map .int)=true:=du ns
 have h5:(0:Nat)<1000:=by decide
 refine st (by walk_at "r") bK
theorem uJ {t:D} {ns:List Int} (A:GA G C) (q:aL t=some (ns.map .int)) (g:Good ns):fnR G (kal G (n+3)) "Rounds" [t]=some (.ok (grp C ns)):=by
 have h1:=A.mM.1
 have h2:=A.mM.2
 have h3:=lG (n:=n) A q g
 walk_at "s"
structure GB (G:Prg) (C:Addr):Prop where
 A:GA G C
 mem:G.defs "Rounds.members"=some (none,P.jr)
 CW:G.mth C "members"=some ("Rounds.members":Str)
 has:G.defs "Rounds.has"=some (none,P.cH)
 uc:G.mth C "has"=some ("Rounds.has":Str)
 evn:G.defs "Rounds.is_even"=some (none,P.jF)
 C2:G.mth C "is_even"=some ("Rounds.is_even":Str)
 siz:G.defs "Group.size"=some (none,P.oA)
 CY:G.mth C "size"=some ("Group.size":Str)
theorem x_ {ns:List Int}:(rf ns).lookup ("rounds":Str)=some (tupI ns):=rfl
theorem f9 (ks ns:List Int):a_ (ks.map .int) (ns.map .int)=(ks.zip ns).map fun p=>.tup [.int p.1,.int p.2]:=kq
theorem AF {ns ks:List Int} (A:GA G C) (hd:G.defs "Rounds.has"=some (none,P.cH)) (g:Good ns) (hl:ks.length=ns.length):kal G (n+2) "Rounds.has" [grp C ns,tupI ks]=some (.ok (.bl (hasB ns ks))):=by
 refine aC hd ⟨rfl,rfl⟩ (ρ0:=[.val (grp C ns),.val (tupI ks)]) rfl ?_
 have h1:=A.fok
 have h2:=A.lF
 have h3:=A.kit "tuple" (by decide) "tuple" (by decide)
 have e3:dz "tuple" "tuple"=true:=by decide
 have h4:=@x_ ns
 have h5:decide ((ks.length:Int)=(ns.length:Int))=true:=by rw [hl];simp
 have hf:b_ G (grp C ns) "rounds"=some (tupI ns):=by unfold grp;simp only [b_,h1,if_true,h4]
 refine st (ρ':=[.val (grp C ns),.val (tupI ks)]) (by
  simp only [aa.eq_13,evT,evA,ev.eq_1,ev.eq_3,ev.eq_18,ev.eq_19,af,aI,List.modify_zero_cons,List.modify_succ_cons,aO,List.getElem?_cons_zero,List.getElem?_cons_succ,hf,h2,i5,h3,e3,cJ,gQ,Bool.not_true,bF,List.length_map,h5]
  rfl) ?_
 have e:hasB ns ks=((ks.zip ns).map fun p=>true&&(decide (0<=p.1)&&decide (p.1<p.2))).all id:=by simp [hasB,List.all_map,Function.comp_def]
 have key:ev G (kal G (n+1)) (.comp 2 [] (.tp [(.nm 0),(.nm 1)]) (.blt .zip [(.var 1),(.fld (.var 0) "rounds")]) (.lit (.bl true)) (.emit (.and (.fn "is_whole" [(.var 0)]) (.chn (.lit (.int 0)) (.var 0) (.var 1))))) [.val (grp C ns),.val (tupI ks)]=some (.lst (((ks.zip ns).map fun p=>true&&(decide (0<=p.1)&&decide (p.1<p.2))).map .bl)):=by
  rw [List.map_map]
  refine bt (g:=fun p:Int×Int=>.tup [.int p.1,.int p.2]) (by simp only [evI,evA,ev.eq_1,ev.eq_18,aO,List.getElem?_cons_zero,List.getElem?_cons_succ,hf,bz,gQ,f9]) rfl ?_ fun p hp=>⟨[.val (.int p.1),.val (.int p.2)],rfl,?_⟩
  ·rw [List.length_zip]
   have:=g.len
   exact Nat.le_trans (show _<=1000 by omega) (by decide)
  ·have e1:=A.tj
   have e2:=oR (i:=p.1) (n:=n) A
   walk_at "r"
 have hb:=bW ((ks.zip ns).map fun p=>true&&(decide (0<=p.1)&&decide (p.1<p.2)))
 refine az ?_
 have e5:af [1,0] [.val (grp C ns),.val (tupI ks)]=[.val (grp C ns),.val (tupI ks)]:=rfl
 simp only [aa.eq_11,evV,ev.eq_19,evA,e5,key,cJ,eW,hb,e]
end
structure TB (G:Prg) (C CG CTb:Addr):Prop where
 B:GB G C
 cG:G.glob "Group"=some (.cl CG)
 cR:G.glob "Rounds"=some (.cl C)
 kG:G.kit (.cl C) (.cl CG)=some true
 kR:G.kit (.cl C) (.cl C)=some true
 ml:G.glob "MOST_LOWER"=some (.int 16)
 mu:G.glob "MOST_UPPER"=some (.int 9)
 nl:G.defs "need_lower"=some (none,P.pB)
 fnl:G.fn "need_lower"=some ("need_lower":Str)
 nu:G.defs "need_upper"=some (none,P.oF)
 fnu:G.fn "need_upper"=some ("need_upper":Str)
 pr:G.defs "pairs_of"=some (none,P.se)
 fpr:G.fn "pairs_of"=some ("pairs_of":Str)
 pk:G.defs "picked_carries"=some (none,P.jo)
 fpk:G.fn "picked_carries"=some ("picked_carries":Str)
 ini:G.defs "Table.__init__"=some (some CTb,P.jG)
 mM:G.fn "Table"=none∧G.ini "Table"=some (CTb,("Table.__init__":Str))
 flo:G.fok CTb "lower"=true
 fup:G.fok CTb "upper"=true
 fke:G.fok CTb "kept"=true
section
variable {G:Prg} {C CG CTb:Addr} {n:Nat}
theorem ef (ks:List Int):ak (tupI ks)=true:=du ks
theorem om (x y:List Int):D.tup [tupI x,tupI y]=prD (x,y):=rfl
end
theorem tP {a b:Int} {x y:List Int}:eqD (tupI (a::x)) (tupI (b::y))=((a==b)&&eqD (tupI x) (tupI y)):=rfl
theorem iG:∀(a b:List Int),eqD (tupI a) (tupI b)=decide (a=b)
 |[],[]=>rfl
 |a::x,[]=>rfl
 |[],b::y=>rfl
 |a::x,b::y=>by
  rw [tP,iG x y]
  by_cases h:a=b
  ·subst h;simp
  ·simp [h]
theorem jW (a b:List Int):eI (tupI a) (tupI b)=true:=by
 unfold eI
 rw [fQ,fQ,gh,gh];rfl
theorem ji (a b:List Int):bF .eq (tupI a) (tupI b)=some (decide (a=b)):=by
 show (if eI (tupI a) (tupI b) then some (eqD (tupI a) (tupI b)) else none)=_
 rw [jW,iG];rfl
theorem jJ (a b:List Int):bF .ne (tupI a) (tupI b)=some (!decide (a=b)):=by
 show (if eI (tupI a) (tupI b) then some (!eqD (tupI a) (tupI b)) else none)=_
 rw [jW,iG];rfl
section
variable {G:Prg} {C CG CTb:Addr} {n:Nat}
theorem nq {i:Int} (A:GA G C) (hd:G.defs "_law_whole"=some (none,L.whole)):kal G (n+1) "_law_whole" [.int i]=some (.ok (.bl true)):=by
 refine aC hd ⟨rfl,rfl⟩ rfl (az ?_)
 have h1:=A.kit "int" (by decide) "int" (by decide)
 have h2:=A.kit "int" (by decide) "bool" (by decide)
 have e1:dz "int" "int"=true:=by decide
 have e2:dz "int" "bool"=false:=by decide
 have:=A.oP
 have:=A.kT
 walk_at "s"
theorem gB {key:Str} {ns:List Int} {c:Int} (hd:G.defs key=some (none,L.element)) (g:Good ns):kal G (n+1) key [tupI ns,.int c]=some (.ok (tupI (elI ns c))):=by
 refine aC hd ⟨rfl,rfl⟩ (ρ0:=[.val (tupI ns),.val (.int c),.nil,.nil]) rfl ?_
 refine st (ρ':=[.val (tupI ns),.val (.int c),.owx (.l []),.nil]) rfl ?_
 refine st (ρ':=[.val (tupI ns),.val (.int c),.owx (.l []),.any]) rfl ?_
 refine st (gM (g:=D.int) (fun done=>[.val (tupI ns),.val (.int (cn c done).1),.owx (.l ((cn c done).2.map D.int)),.any]) ns rfl rfl fun done a rest e=>?_) ?_
 ·refine ⟨[.val (tupI ns),.val (.int (cn c done).1),.owx (.l ((cn c done).2.map D.int)),.val (.int a)],rfl,?_⟩
  rw [j8]
  have hl:=lS c done
  generalize cn c done=s at hl ⊢
  have ha:a∈ns:=by rw [e];simp
  have h2:=g.ge a ha
  have h3:=g.lt a ha
  have p1:0<a:=by omega
  have p2:0<a∧a.toNat<1073741824:=by omega
  have e6:(s.2.map D.int).length<sizeLine:=by
   rw [List.length_map,hl]
   have:=g.len
   have:done.length<=ns.length:=by rw [e];simp
   exact Nat.lt_of_le_of_lt (show done.length<=7 by omega) (by decide)
  have e7:s.2.map D.int++[D.int (s.1%a)]=(s.2++[s.1%a]).map D.int:=by simp
  have em:est s a=(s.1 / a,s.2++[s.1%a]):=rfl
  rw [em]
  exact st (by walk_at "r") (st (by walk_at "r") (st (by walk_at "r") bK))
 ·exact az (by walk_at "r")
end
section
variable {G:Prg} {cl:Str->List D->Option Rs} {ρ ρ':Rho} {α β:Type} {t:Tg} {b:List CS'} {g:α->D} {it:CE} {L:List Nat}
theorem yz {bb:Rho->Option Oc} (I:List α->Rho->Prop) (all:List α) (ρ0:Rho) (h0:I [] ρ0) (h:∀(done:List α) (a:α) (rest:List α) (ρ:Rho),all=done++a::rest->I done ρ->∃ρ1 ρ2,ai t (g a) ρ=some ρ1∧bb ρ1=some (.nx ρ2)∧I (done++[a]) ρ2):
  ∃ρ',forL t bb (all.map g) ρ0=some (.nx ρ')∧I all ρ':=by
 have go:∀(l done:List α) (ρ:Rho),all=done++l->I done ρ->∃ρ',forL t bb (l.map g) ρ=some (.nx ρ')∧I (done++l) ρ':=by
  intro l
  induction l with
  |nil=>intro done ρ _ hi;rw [List.append_nil];exact ⟨ρ,rfl,hi⟩
  |cons a l ih=>
   intro done ρ e hi
   obtain ⟨ρ1,ρ2,h1,h2,h3⟩:=h done a l ρ e hi
   obtain ⟨ρ',z1,z2⟩:=ih (done++[a]) ρ2 (by rw [e,List.append_assoc];rfl) h3
   refine ⟨ρ',?_,by rw [List.append_assoc] at z2;exact z2⟩
   rw [List.map_cons,forL,h1]
   dsimp only
   rw [h2]
   exact z1
 exact go all [] ρ0 rfl h0
theorem qO (I:List α->Rho->Prop) (all:List α) {ρ0:Rho} (hi:evI G cl it (af L ρ)=some (all.map g)) (hr:af L ρ=ρ0) (h0:I [] ρ0)
  (h:∀(done:List α) (a:α) (rest:List α) (ρ:Rho),all=done++a::rest->I done ρ->∃ρ1 ρ2,ai t (g a) ρ=some ρ1∧IN.run G cl b ρ1=some (.nx ρ2)∧I (done++[a]) ρ2):∃ρ',IN.aa G cl (.for t it L b) ρ=some (.nx ρ')∧I all ρ':=by
 rw [IN.aa,hi]
 dsimp only
 rw [hr]
 exact yz I all ρ0 h0 h
theorem ki {bb:Rho->Option Oc} {q:α->Option Oc} (R:Rho):∀(l:List α),(∀a∈l,∀o,q a=some o->∀ρ',o≠.nx ρ')->(∀a∈l,∃ρ1,ai t (g a) R=some ρ1∧bb ρ1=some ((q a).getD (.nx R)))->forL t bb (l.map g) R=some ((l.findSome? q).getD (.nx R))
 |[],_,_=>rfl
 |a::l,hq,h=>by
  obtain ⟨ρ1,h1,h2⟩:=h a List.mem_cons_self
  rw [List.map_cons,forL,h1]
  dsimp only
  rw [h2,List.findSome?_cons]
  cases e:q a with
  |none=>exact ki R l (fun b hb=>hq b (List.mem_cons_of_mem _ hb)) fun b hb=>h b (List.mem_cons_of_mem _ hb)
  |some o=>
   show (match (some o:Option Oc) with|some (.nx ρ2)=>forL t bb (l.map g) ρ2|o=>o)=_
   have:=hq a List.mem_cons_self o e
   cases o with
   |nx ρ'=>exact absurd rfl (this ρ')
   |_=>rfl
theorem rh {q:α->Option Oc} (R:Rho) (l:List α) (hi:evI G cl it (af L ρ)=some (l.map g)) (h0:af L ρ=R) (hq:∀a∈l,∀o,q a=some o->∀ρ',o≠.nx ρ') (h:∀a∈l,∃ρ1,ai t (g a) R=some ρ1∧IN.run G cl b ρ1=some ((q a).getD (.nx R))):
  IN.aa G cl (.for t it L b) ρ=some ((l.findSome? q).getD (.nx R)):=by
 rw [IN.aa,hi]
 dsimp only
 rw [h0]
 exact ki R l hq h
end
section
variable {G:Prg} {C CG CTb:Addr} {n:Nat}
noncomputable def aH (a b:Int):Int:=Int.gcd a b
theorem xA {cl:Str->List D->Option Rs}:∀(f:Nat) (a b:Int),0<=a->0<=b->b.toNat<f->fN (fun ρ=>evT G cl (.cmp .ne (.var 1) (.lit (.int 0))) (af [1] ρ)) (IN.run G cl [(.par 0 1 (.var 1) (.bin .mod (.var 0) (.var 1)) [0,1])]) f [.val (.int a),.val (.int b)]=some (.nx [.val (.int (aH a b)),.val (.int 0)]):=by
 intro f
 induction f with
 |zero=>intro a b _ _ h;omega
 |succ f ih=>
  intro a b ha hb h
  rw [fN]
  by_cases hz:b=0
  ·subst hz
   have e:aH a 0=a:=by unfold aH;rw [Int.gcd_zero_right];omega
   rw [e]
   rfl
  ·have h1:evT G cl (.cmp .ne (.var 1) (.lit (.int 0))) (af [1] [.val (.int a),.val (.int b)])=some true:=by
    have:decide (b=0)=false:=decide_eq_false hz
    simp only [evT,ev.eq_1,ev.eq_2,af,aI,List.modify_zero_cons,List.modify_succ_cons,aO,List.getElem?_cons_succ,List.getElem?_cons_zero,bF,this,Bool.not_false]
   rw [h1]
   dsimp only
   have hp:0<b:=by omega
   have h2:IN.run G cl [(.par 0 1 (.var 1) (.bin .mod (.var 0) (.var 1)) [0,1])] [.val (.int a),.val (.int b)]=some (.nx [.val (.int b),.val (.int (a%b))]):=by
    refine st (ρ':=[.val (.int b),.val (.int (a%b))]) ?_ bK
    simp only [aa.eq_4,ev.eq_1,ev.eq_4,af,aI,List.modify_zero_cons,List.modify_succ_cons,aO,List.getElem?_cons_succ,List.getElem?_cons_zero,d6,hp,if_true]
    rfl
   rw [h2]
   dsimp only
   have m1:0<=a%b:=Int.emod_nonneg _ (by omega)
   have m2:a%b<b:=Int.emod_lt_of_pos _ hp
   rw [ih b (a%b) hb m1 (by omega)]
   have e:aH b (a%b)=aH a b:=by
    obtain ⟨m,rfl⟩:=Int.eq_ofNat_of_zero_le ha
    obtain ⟨l,rfl⟩:=Int.eq_ofNat_of_zero_le hb
    show ((Nat.gcd l (m%l):Nat):Int)=(Nat.gcd m l:Nat)
    rw [Nat.gcd_comm l,←Nat.gcd_rec,Nat.gcd_comm]
   rw [e]
theorem va {key:Str} {a b:Int} (hd:G.defs key=some (none,L.gcd)) (ha:0<=a) (hb:0<=b):kal G (n+1) key [.int a,.int b]=some (.ok (.int (aH a b))):=by
 refine aC hd ⟨rfl,rfl⟩ (ρ0:=[.val (.int a),.val (.int b)]) rfl ?_
 refine st (ρ':=[.val (.int (aH a b)),.val (.int 0)]) ?_ (az (by rfl))
 rw [aa.eq_15]
 refine xA _ a b ha hb ?_
 show b.toNat<(a.natAbs+(b.natAbs+0))+1000000
 omega
end
section
variable {G:Prg} {cl:Str->List D->Option Rs} {ρ ρ':Rho} {s:CS'} {r b:List CS'} {α:Type} {t:Tg} {g:α->D} {it:CE} {L:List Nat}
theorem jI {i:Int}:ak (.int i)=true:=rfl
theorem jO {i:Bool}:ak (.bl i)=true:=rfl
theorem jQ:ak .non=true:=rfl
theorem jy {i:Str}:ak (.str i)=true:=rfl
theorem dU {C:Addr} {ns:List Int}:ak (grp C ns)=true:=by
 show (ak (tupI ns)&&true)=true
 rw [show ak (tupI ns)=true from du ns];rfl
theorem oq {i j:Int}:bF .lt (.int i) (.int j)=some (decide (i<j)):=rfl
theorem pd {i j:Int}:bF .le (.int i) (.int j)=some (decide (i<=j)):=rfl
theorem oH {i j:Int}:bF .gt (.int i) (.int j)=some (decide (j<i)):=rfl
theorem o9 {i j:Int}:bF .ge (.int i) (.int j)=some (decide (j<=i)):=rfl
theorem pJ {i j:Int}:bF .eq (.int i) (.int j)=some (decide (i=j)):=rfl
theorem oN {i j:Int}:bF .ne (.int i) (.int j)=some (!decide (i=j)):=rfl
noncomputable def nxt:Option Oc->(Rho->Option Oc)->Option Oc
 |some (.nx ρ),k=>k ρ
 |o,_=>o
theorem lh:IN.run G cl (s::r) ρ=nxt (IN.aa G cl s ρ) (IN.run G cl r):=by
 rw [IN.run]
 cases IN.aa G cl s ρ with
 |none=>rfl
 |some o=>cases o<;>rfl
theorem mH {k:Rho->Option Oc}:nxt (some (.nx ρ)) k=k ρ:=rfl
theorem me {k:Rho->Option Oc} {d:D}:nxt (some (.rt d)) k=some (.rt d):=rfl
theorem lu {k:Rho->Option Oc} {c:Ow}:nxt (some (.fr c)) k=some (.fr c):=rfl
theorem i7 {k:Rho->Option Oc} {d:D}:nxt (some (.xc ρ d)) k=some (.xc ρ d):=rfl
end
end PL
open PySem IN CT
noncomputable def L.sum:IN.Def:={slots:=3,au:=3,body:=[
(.ret (.blt .tuple [(.comp 3 [] (.tp [(.nm 0),(.nm 1),(.nm 2)]) (.blt .zip [(.var 1),(.var 2),(.var 0)]) (.lit (.bl true)) (.emit (.bin .mod (.bin .add (.var 0) (.var 1)) (.var 2))))]) [1,2,0])]}
noncomputable def L.eV:IN.Def:={slots:=3,au:=3,body:=[
(.ret (.blt .tuple [(.comp 2 [1] (.tp [(.nm 0),(.nm 1)]) (.blt .zip [(.var 2),(.var 0)]) (.lit (.bl true)) (.emit (.bin .mod (.bin .mul (.var 2) (.var 0)) (.var 1))))]) [1,2,0])]}
noncomputable def L.drawn:IN.Def:={slots:=4,au:=2,body:=[
(.asg (.nm 2) (.lst []) []),
(.fgt [3]),
(.for (.nm 3) (.var 0) [0] [(.app 2 (.bin .mod (.var 1) (.var 3)) [1,3]),(.asg (.nm 1) (.bin .fdiv (.var 1) (.var 3)) [1,3]),(.fgt [3])]),
(.ret (.blt .tuple [(.var 2)]) [2])]}
namespace PL
open PySem PySem.Spec L2 CT IN
open PyProof.Rows hiding St
local macro_rules|`(tactic|dsimp? [$ls,*])=>do
 let m<-("lh bK mH me lu i7 aa.eq_1 aa.eq_2 aa.eq_3 aa.eq_4 aa.eq_5 aa.eq_6 aa.eq_7 aa.eq_8 aa.eq_9 aa.eq_10 aa.eq_11 aa.eq_12 aa.eq_13 aa.eq_16 aa.eq_18 aa.eq_19 evV ev.eq_1 ev.eq_2 ev.eq_3 ev.eq_4 ev.eq_5 ev.eq_6 ev.eq_7 ev.eq_8 ev.eq_9 ev.eq_10 ev.eq_11 ev.eq_12 ev.eq_13 ev.eq_14 ev.eq_15 ev.eq_16 ev.eq_17 ev.eq_18 ev.eq_19 ev.eq_20 ev.eq_21 ev.eq_23 evA evT evI evB aO af aI List.modify_zero_cons List.modify_succ_cons List.modify_nil kp jI jO jQ jy ef dU ai aQ fH List.set_cons_zero List.set_cons_succ List.set_nil List.getElem?_cons_zero List.getElem?_cons_succ List.length_cons List.length_nil Nat.reduceAdd Nat.reduceLT Nat.reduceSub Nat.reduceLeDiff Nat.zero_add Nat.zero_lt_succ if_true if_false Bool.not_true Bool.not_false Bool.true_and Bool.false_and Bool.and_true Bool.and_false Bool.true_or Bool.false_or Bool.or_true Bool.or_false and_self true_and and_true Bool.false_eq_true d6 oq pd oH o9 pJ oN eW gQ oS oY pI gP kX cJ fnR Rs.val Ow.D eR cy List.replicate List.cons_append List.nil_append List.map_cons List.map_nil slD asI la kP kQ kY i5 kO lg k8 lb iT i_ Option.map_some decide_true decide_false List.all_cons List.all_nil tks dH List.append_nil reduceCtorEq ite_self".splitOn " ").toArray.mapM fun s=>`(Lean.Parser.Tactic.simpLemma|$(Lean.mkIdent s.toName):ident)
 let a:=(ls.getElems.map fun x=>(.mk x.raw:Lean.TSyntax `Lean.Parser.Tactic.simpLemma))++m
 `(tactic|simp only [$a,*])
section
variable {G:Prg} {C:Addr} {n:Nat}
theorem gS {a b:Int} (h:2<=a):0<aH a b:=by
 unfold aH
 have:0<Int.gcd a b:=Int.gcd_pos_of_ne_zero_left b (by omega)
 omega
end
section
variable {G:Prg} {C:Addr} {n:Nat}
theorem rF {x y z:D} {xs ys zs:List D} (h1:aL x=some xs) (h2:aL y=some ys) (h3:aL z=some zs):bz .zip [x,y,z]=some (ba xs ys zs):=by
 show (match aL x,aL y,aL z with|some xs,some ys,some zs=>some (ba xs ys zs)|_,_,_=>none)=_
 rw [h1,h2,h3]
theorem lM {key:Str} {ns x y:List Int} (hd:G.defs key=some (none,L.sum)) (g:Good ns):kal G (n+1) key [tupI ns,tupI x,tupI y]=some (.ok (tupI (aA ns x y))):=by
 refine aC hd ⟨rfl,rfl⟩ (ρ0:=[.val (tupI ns),.val (tupI x),.val (tupI y)]) rfl (az ?_)
 have hz:bz .zip [tupI x,tupI y,tupI ns]=some ((x.zip (y.zip ns)).map fun p=>D.tup [.int p.1,.int p.2.1,.int p.2.2]):=by rw [←gu];exact rF rfl rfl rfl
 have key:ev G (kal G n) (.comp 3 [] (.tp [(.nm 0),(.nm 1),(.nm 2)]) (.blt .zip [(.var 1),(.var 2),(.var 0)]) (.lit (.bl true)) (.emit (.bin .mod (.bin .add (.var 0) (.var 1)) (.var 2)))) [.val (tupI ns),.val (tupI x),.val (tupI y)]=some (.lst ((x.zip (y.zip ns)).map fun p=>D.int ((p.1+p.2.1)%p.2.2))):=by
  refine bt (g:=fun p:Int×Int×Int=>D.tup [.int p.1,.int p.2.1,.int p.2.2]) (by simp only [evI,evA,ev.eq_1,aO,List.getElem?_cons_zero,List.getElem?_cons_succ,hz]) rfl ?_ fun p hp=>⟨[.val (.int p.1),.val (.int p.2.1),.val (.int p.2.2)],rfl,?_⟩
  ·have:=g.aS
   rw [List.length_zip,List.length_zip]
   exact Nat.le_trans (show min x.length (min y.length ns.length)<=1000 by omega) (by decide)
  ·have hp2:0<p.2.2:=by have:=g.ge _ (mh hp);omega
   simp only [ev.eq_4,ev.eq_1,aO,List.getElem?_cons_zero,List.getElem?_cons_succ,d6,hp2,if_true]
 simp only [aa.eq_11,evV,ev.eq_19,evA,af,aI,List.modify_zero_cons,List.modify_succ_cons,key,cJ,eW]
 unfold aA tupI
 rw [List.map_map]
 rfl
theorem mC {key:Str} {ns x:List Int} {m:Int} (hd:G.defs key=some (none,L.eV)) (g:Good ns) (hx:El ns x):kal G (n+1) key [tupI ns,.int m,tupI x]=some (.ok (tupI (aE ns m x))):=by
 refine aC hd ⟨rfl,rfl⟩ (ρ0:=[.val (tupI ns),.val (.int m),.val (tupI x)]) rfl (az ?_)
 have hz:bz .zip [tupI x,tupI ns]=some ((x.zip ns).map fun p=>D.tup [.int p.1,.int p.2]):=by rw [←f9];exact eA rfl rfl
 have key:ev G (kal G n) (.comp 2 [1] (.tp [(.nm 0),(.nm 1)]) (.blt .zip [(.var 2),(.var 0)]) (.lit (.bl true)) (.emit (.bin .mod (.bin .mul (.var 2) (.var 0)) (.var 1)))) [.val (tupI ns),.val (.int m),.val (tupI x)]=some (.lst ((x.zip ns).map fun p=>D.int (m*p.1%p.2))):=by
  refine bt (g:=fun p:Int×Int=>D.tup [.int p.1,.int p.2]) (by simp only [evI,evA,ev.eq_1,aO,List.getElem?_cons_zero,List.getElem?_cons_succ,hz]) rfl ?_ fun p hp=>⟨[.val (.int p.1),.val (.int p.2),.val (.int m)],rfl,?_⟩
  ·have:=g.aS
   rw [List.length_zip]
   exact Nat.le_trans (show min x.length ns.length<=1000 by omega) (by decide)
  ·have hp2:0<p.2:=by have:=g.ge _ (List.of_mem_zip hp).2;omega
   have hm:b9 m p.1=true:=fF (by have:=El.small g hx _ (List.of_mem_zip hp).1;omega)
   simp only [ev.eq_4,ev.eq_1,aO,List.getElem?_cons_zero,List.getElem?_cons_succ,d6,hp2,hm,if_true]
 simp only [aa.eq_11,evV,ev.eq_19,evA,af,aI,List.modify_zero_cons,List.modify_succ_cons,key,cJ,eW]
 unfold aE tupI
 rw [List.map_map]
 rfl
end
end PL
open PySem IN CT
noncomputable def P.eZ:IN.Def:={slots:=4,au:=2,body:=[
(.asg (.nm 2) (.mth (.var 0) "nought" []) [0]),
(.fgt [3]),
(.for (.nm 3) (.var 1) [1] [(.exp (.mth (.var 0) "need" [(.var 3)]) [0,3]),(.asg (.nm 2) (.mth (.var 0) "sum_of" [(.var 2),(.var 3)]) [0,2,3]),(.fgt [3])]),
(.ret (.var 2) [2])]}
noncomputable def P.eF:IN.Def:={slots:=2,au:=1,body:=[
(.asg (.nm 1) (.blt .len [(.fld (.var 0) "rounds")]) [0]),
(.ret (.comp 1 [1] (.nm 0) (.blt .range [(.var 1)]) (.lit (.bl true)) (.emit (.blt .tuple [(.comp 1 [0] (.nm 0) (.blt .range [(.var 1)]) (.lit (.bl true)) (.emit (.ife (.cmp .eq (.var 0) (.var 1)) (.lit (.int 1)) (.lit (.int 0)))))]))) [1])]}
noncomputable def P.eY:IN.Def:={slots:=2,au:=2,body:=[
(.ret (.and (.blt .isin [(.var 1),(.gl "Rounds")]) (.cmp .eq (.fld (.var 0) "rounds") (.fld (.var 1) "rounds"))) [0,1])]}
noncomputable def P.eB:IN.Def:={slots:=3,au:=3,body:=[
(.ret (.and (.mth (.var 0) "has" [(.var 2)]) (.cmp .eq (.mth (.var 0) "times" [(.var 1),(.var 2)]) (.mth (.var 0) "nought" []))) [1,2,0])]}
noncomputable def P.fq:IN.Def:={slots:=5,au:=3,body:=[
(.fgt [3,4]),
(.for (.tp [(.nm 3),(.nm 4)]) (.blt .enum [(.fld (.var 0) "rounds")]) [0] [(.ife (.or (.cmp .ge (.var 3) (.blt .len [(.var 2)])) (.nt (.fn "is_image" [(.var 1),(.var 4),(.ix (.var 2) (.var 3))]))) [1,4,2,3] [(.rse "NoMap" [(.var 3)] [3])] []),(.fgt [3,4])]),
(.ife (.cmp .gt (.blt .len [(.var 2)]) (.blt .len [(.fld (.var 0) "rounds")])) [2,0] [(.rse "NoMap" [(.blt .len [(.fld (.var 0) "rounds")])] [0])] [])]}
noncomputable def P.eC:IN.Def:={slots:=4,au:=4,init:=true,body:=[
(.exp (.fn "need_images" [(.var 1),(.var 2),(.var 3)]) [1,2,3]),
(.f_ "source" (.var 1) [1]),
(.f_ "goal" (.var 2) [2]),
(.f_ "images" (.blt .tuple [(.var 3)]) [3])]}
noncomputable def P.gW:IN.Def:={slots:=2,au:=2,body:=[
(.exp (.mth (.fld (.var 0) "source") "need" [(.var 1)]) [0,1]),
(.ret (.mth (.fld (.var 0) "goal") "total" [(.comp 2 [0] (.tp [(.nm 0),(.nm 1)]) (.blt .zip [(.var 1),(.fld (.var 0) "images")]) (.lit (.bl true)) (.emit (.mth (.fld (.var 2) "goal") "times" [(.var 0),(.var 1)])))]) [1,0])]}
noncomputable def L.spread:IN.Def:={slots:=5,au:=2,body:=[
(.asg (.nm 2) (.bin .sub (.blt .len [(.var 0)]) (.lit (.int 1))) [0]),
(.ife (.and (.cmp .gt (.var 2) (.lit (.int 0))) (.cmp .eq (.bin .mod (.ix (.var 0) (.lit (.int 0))) (.lit (.int 2))) (.lit (.int 1)))) [2,0] [(.ret (.bin .mod (.bin .shr (.ix (.var 0) (.bin .add (.lit (.int 1)) (.bin .mod (.var 1) (.var 2)))) (.bin .mul (.lit (.int 31)) (.bin .fdiv (.var 1) (.var 2)))) (.lit (.int 2147483648))) [0,1,2])] []),
(.asg (.nm 3) (.lit (.int 0)) []),
(.ife (.cmp .gt (.blt .len [(.var 0)]) (.lit (.int 0))) [0] [(.asg (.nm 3) (.ix (.var 0) (.bin .mod (.var 1) (.blt .len [(.var 0)]))) [1,0])] []),
(.asg (.nm 4) (.bin .mod (.bin .add (.bin .mul (.bin .mod (.var 3) (.lit (.int 1000000007))) (.lit (.int 48271))) (.bin .mul (.bin .mul (.bin .add (.var 1) (.lit (.int 3))) (.bin .add (.var 1) (.lit (.int 5)))) (.lit (.int 69621)))) (.lit (.int 2147483647))) [3,1]),
(.ret (.bin .mod (.bin .mul (.var 4) (.lit (.int 16807))) (.lit (.int 2147483629))) [4])]}
noncomputable def L.many:IN.Def:={slots:=3,au:=3,body:=[
(.ret (.blt .tuple [(.comp 2 [1] (.tp [(.nm 0),(.nm 1)]) (.blt .zip [(.var 2),(.var 0)]) (.lit (.bl true)) (.emit (.bin .mod (.bin .mul (.var 2) (.var 0)) (.var 1))))]) [1,2,0])]}
noncomputable def L.nz:IN.Def:={slots:=2,au:=2,body:=[
(.whl (.cmp .ne (.var 1) (.lit (.int 0))) [1] [(.par 0 1 (.var 1) (.bin .mod (.var 0) (.var 1)) [0,1])]),
(.ret (.var 0) [0])]}
noncomputable def L.group:IN.Def:={slots:=2,au:=1,body:=[
(.asg (.nm 1) (.lst [(.tup [(.lit (.int 2))]),(.tup [(.lit (.int 4))]),(.tup [(.lit (.int 2)),(.lit (.int 2))]),(.tup [(.lit (.int 6))]),(.tup [(.lit (.int 12))]),(.tup [(.lit (.int 2)),(.lit (.int 4))]),(.tup [(.lit (.int 3)),(.lit (.int 9))]),(.tup [(.lit (.int 5))]),(.tup []),(.tup [(.lit (.int 144))]),(.tup [(.lit (.int 2)),(.lit (.int 3)),(.lit (.int 4))]),(.tup [(.lit (.int 8)),(.lit (.int 2))]),(.tup [(.lit (.int 10)),(.lit (.int 14))])]) []),
(.ret (.ix (.bin .add (.var 1) (.lst [(.tup [(.lit (.int 2)),(.lit (.int 2)),(.lit (.int 2)),(.lit (.int 3))])])) (.bin .mod (.var 0) (.lit (.int 14)))) [1,0])]}
noncomputable def L.image:IN.Def:={slots:=5,au:=3,body:=[
(.asg (.nm 3) (.comp 1 [0] (.nm 0) (.var 1) (.lit (.bl true)) (.emit (.bin .fdiv (.var 0) (.fn "_law_divisor" [(.var 0),(.var 1)])))) [0,1]),
(.asg (.nm 4) (.fn "_law_drawn" [(.comp 1 [0] (.nm 0) (.var 1) (.lit (.bl true)) (.emit (.fn "_law_divisor" [(.var 0),(.var 1)]))),(.var 2)]) [0,1,2]),
(.ret (.blt .tuple [(.comp 2 [] (.tp [(.nm 0),(.nm 1)]) (.blt .zip [(.var 3),(.var 4)]) (.lit (.bl true)) (.emit (.bin .mul (.var 0) (.var 1))))]) [3,4])]}
noncomputable def L.led:IN.Def:={slots:=6,au:=3,body:=[
(.asg (.nm 3) (.blt .tuple [(.comp 1 [] (.nm 0) (.var 0) (.lit (.bl true)) (.emit (.lit (.int 0))))]) [0]),
(.fgt [4,5]),
(.for (.tp [(.nm 4),(.nm 5)]) (.blt .zip [(.var 2),(.var 1)]) [2,1] [(.asg (.nm 3) (.fn "_law_sum" [(.var 0),(.var 3),(.fn "_law_many" [(.var 0),(.var 4),(.var 5)])]) [3,0,4,5]),(.fgt [4,5])]),
(.ret (.var 3) [3])]}
noncomputable def L.is:IN.Def:={slots:=3,au:=3,body:=[
(.ife (.or (.nt (.blt .isin [(.var 1),(.gl "tuple")])) (.cmp .ne (.blt .len [(.var 1)]) (.blt .len [(.var 0)]))) [1,0] [(.ret (.lit (.bl false)) [])] []),
(.ret (.and (.blt .all [(.comp 1 [] (.nm 0) (.var 1) (.lit (.bl true)) (.emit (.fn "_law_whole" [(.var 0)])))]) (.cmp .eq (.var 1) (.var 2))) [1,2])]}
noncomputable def L.kinds:IN.Def:={slots:=2,au:=1,body:=[
(.asg (.nm 1) (.lst [(.blt .isin [(.var 0),(.gl "NotLike")]),(.blt .isin [(.var 0),(.gl "NoCount")]),(.blt .isin [(.var 0),(.gl "NoElement")]),(.blt .isin [(.var 0),(.gl "NoHead")])]) [0]),
(.asg (.nm 1) (.bin .add (.var 1) (.lst [(.blt .isin [(.var 0),(.gl "NoPair")]),(.blt .isin [(.var 0),(.gl "NoKind")]),(.blt .isin [(.var 0),(.gl "TooMany")]),(.blt .isin [(.var 0),(.gl "NoLower")])])) [1,0]),
(.asg (.nm 1) (.bin .add (.var 1) (.lst [(.blt .isin [(.var 0),(.gl "NoUpper")]),(.blt .isin [(.var 0),(.gl "NoMap")]),(.blt .isin [(.var 0),(.gl "NoTower")]),(.blt .isin [(.var 0),(.gl "NoCarry")])])) [1,0]),
(.ret (.bin .add (.var 1) (.lst [(.blt .isin [(.var 0),(.gl "CarryError")]),(.blt .isin [(.var 0),(.gl "ValueError")])])) [1,0])]}
noncomputable def L.class:IN.Def:={slots:=2,au:=1,body:=[
(.asg (.nm 1) (.lst [(.lit (.str "NotLike")),(.lit (.str "NoCount")),(.lit (.str "NoElement")),(.lit (.str "NoHead")),(.lit (.str "NoPair")),(.lit (.str "NoKind")),(.lit (.str "TooMany")),(.lit (.str "NoLower")),(.lit (.str "NoUpper")),(.lit (.str "NoMap"))]) []),
(.asg (.nm 1) (.bin .add (.var 1) (.lst [(.lit (.str "NoTower")),(.lit (.str "NoCarry"))])) [1]),
(.ret (.bin .add (.comp 1 [0] (.nm 0) (.var 1) (.lit (.bl true)) (.emit (.cmp .eq (.var 1) (.var 0)))) (.lst [(.lit (.bl true)),(.lit (.bl true))])) [0,1])]}
namespace PL
open PySem PySem.Spec L2 CT IN
open PyProof.Rows hiding St
local macro_rules|`(tactic|dsimp? [$ls,*])=>do
 let m<-("lh bK mH me lu i7 aa.eq_1 aa.eq_2 aa.eq_3 aa.eq_4 aa.eq_5 aa.eq_6 aa.eq_7 aa.eq_8 aa.eq_9 aa.eq_10 aa.eq_11 aa.eq_12 aa.eq_13 aa.eq_16 aa.eq_18 aa.eq_19 evV ev.eq_1 ev.eq_2 ev.eq_3 ev.eq_4 ev.eq_5 ev.eq_6 ev.eq_7 ev.eq_8 ev.eq_9 ev.eq_10 ev.eq_11 ev.eq_12 ev.eq_13 ev.eq_14 ev.eq_15 ev.eq_16 ev.eq_17 ev.eq_18 ev.eq_19 ev.eq_20 ev.eq_21 ev.eq_23 evA evT evI evB aO af aI List.modify_zero_cons List.modify_succ_cons List.modify_nil kp jI jO jQ jy ef dU ai aQ fH List.set_cons_zero List.set_cons_succ List.set_nil List.getElem?_cons_zero List.getElem?_cons_succ List.length_cons List.length_nil Nat.reduceAdd Nat.reduceLT Nat.reduceSub Nat.reduceLeDiff Nat.zero_add Nat.zero_lt_succ if_true if_false Bool.not_true Bool.not_false Bool.true_and Bool.false_and Bool.and_true Bool.and_false Bool.true_or Bool.false_or Bool.or_true Bool.or_false and_self true_and and_true Bool.false_eq_true d6 oq pd oH o9 pJ oN eW gQ oS oY pI gP kX cJ fnR Rs.val Ow.D eR cy List.replicate List.cons_append List.nil_append List.map_cons List.map_nil slD asI la kP kQ kY i5 kO lg k8 lb iT i_ Option.map_some decide_true decide_false List.all_cons List.all_nil tks dH List.append_nil reduceCtorEq ite_self".splitOn " ").toArray.mapM fun s=>`(Lean.Parser.Tactic.simpLemma|$(Lean.mkIdent s.toName):ident)
 let a:=(ls.getElems.map fun x=>(.mk x.raw:Lean.TSyntax `Lean.Parser.Tactic.simpLemma))++m
 `(tactic|simp only [$a,*])
section
variable {G:Prg} {C:Addr} {n:Nat}
theorem gH (a b m:Int):a*(b%m)%m=a*b%m:=by rw [Int.mul_emod,Int.emod_emod,←Int.mul_emod]
theorem Ah:∀{ns w s:List Int} {l:Int},El ns w->El ns s->l%2=1->aA ns (aA ns w s) (aE ns (l / 2) (aA ns s s))=aA ns w (aE ns l s)
 |[],w,s,l,h1,h2,_=>by
  have e:w=[]:=List.length_eq_zero_iff.mp h1.len
  have e2:s=[]:=List.length_eq_zero_iff.mp h2.len
  subst e e2;rfl
 |m::ns,w,s,l,h1,h2,hl=>by
  obtain ⟨a,w',rfl,_,_,hw⟩:=h1.inv
  obtain ⟨b,s',rfl,_,_,hs⟩:=h2.inv
  rw [aN,aN,aY,aY,aN,aN,Ah hw hs hl]
  congr 1
  rw [gH,Int.emod_add_emod,Int.add_emod_emod,Int.add_emod_emod]
  congr 1
  have:l=2*(l / 2)+1:=by omega
  generalize l / 2=q at this
  subst this
  simp only [Int.mul_add,Int.add_mul,Int.mul_assoc,Int.one_mul]
  omega
theorem y7:∀{ns w s:List Int} {l:Int},El ns w->El ns s->l%2=0->aA ns w (aE ns (l / 2) (aA ns s s))=aA ns w (aE ns l s)
 |[],w,s,l,h1,h2,_=>by
  have e:w=[]:=List.length_eq_zero_iff.mp h1.len
  have e2:s=[]:=List.length_eq_zero_iff.mp h2.len
  subst e e2;rfl
 |m::ns,w,s,l,h1,h2,hl=>by
  obtain ⟨a,w',rfl,_,_,hw⟩:=h1.inv
  obtain ⟨b,s',rfl,_,_,hs⟩:=h2.inv
  rw [aN,aY,aY,aN,aN,y7 hw hs hl]
  congr 1
  rw [gH,Int.add_emod_emod,Int.add_emod_emod]
  congr 1
  have:l=2*(l / 2):=by omega
  generalize l / 2=q at this
  subst this
  simp only [Int.mul_add,Int.mul_assoc]
  omega
theorem k9:∀{ns x:List Int},El ns x->aA ns x (List.replicate ns.length 0)=x
 |[],x,h1=>by
  have e:x=[]:=List.length_eq_zero_iff.mp h1.len
  subst e;rfl
 |m::ns,x,h1=>by
  obtain ⟨a,x',rfl,h2,h3,hx⟩:=h1.inv
  show (a+0)%m::aA ns x' (List.replicate ns.length 0)=_
  rw [k9 hx,Int.add_zero,Int.emod_eq_of_lt h2 h3]
theorem lj:∀{ns x:List Int},El ns x->aA ns (List.replicate ns.length 0) x=x
 |[],x,h1=>by
  have e:x=[]:=List.length_eq_zero_iff.mp h1.len
  subst e;rfl
 |m::ns,x,h1=>by
  obtain ⟨a,x',rfl,h2,h3,hx⟩:=h1.inv
  show (0+a)%m::aA ns (List.replicate ns.length 0) x'=_
  rw [lj hx,Int.zero_add,Int.emod_eq_of_lt h2 h3]
structure GM (G:Prg) (C:Addr):Prop where
 A:GA G C
 has:G.defs "Rounds.has"=some (none,P.cH)
 uc:G.mth C "has"=some ("Rounds.has":Str)
 need:G.defs "Group.need"=some (none,P.dj)
 uK:G.mth C "need"=some ("Group.need":Str)
 nou:G.defs "Rounds.nought"=some (none,P.cQ)
 CI:G.mth C "nought"=some ("Rounds.nought":Str)
 sum:G.defs "Rounds.sum_of"=some (none,P.d4)
 Ck:G.mth C "sum_of"=some ("Rounds.sum_of":Str)
 tim:G.defs "Group.times"=some (none,P.e9)
 Cd:G.mth C "times"=some ("Group.times":Str)
 tot:G.defs "Group.total"=some (none,P.eZ)
 CJ:G.mth C "total"=some ("Group.total":Str)
 lik:G.defs "Rounds.like"=some (none,P.eY)
 CZ:G.mth C "like"=some ("Rounds.like":Str)
 hds:G.defs "Rounds.heads"=some (none,P.eF)
 CV:G.mth C "heads"=some ("Rounds.heads":Str)
 gR:G.glob "Rounds"=some (.cl C)
 kR:G.kit (.cl C) (.cl C)=some true
theorem eT {cl:Str->List D->Option Rs} {ns:List Int} {m k:Str} {ds:List D} {r:Option Rs} (hl:(rf ns).lookup m=none) (hm:G.mth C m=some k) (h:cl k (grp C ns::ds)=r):bw G cl (grp C ns) m ds=r:=by
 unfold grp at h ⊢
 simp only [bw,hl,hm,h]
theorem fL {ns:List Int} (A:GA G C):b_ G (grp C ns) "rounds"=some (tupI ns):=by
 have h:=A.fok
 unfold grp;simp only [b_,h,if_true,x_]
theorem tU {ns:List Int} (M:GM G C) (g:Good ns):kal G (n+1) "Rounds.nought" [grp C ns]=some (.ok (tupI (List.replicate ns.length 0))):=by
 refine aC M.nou ⟨rfl,rfl⟩ (ρ0:=[.val (grp C ns)]) rfl ?_
 have hf:=fL (ns:=ns) M.A
 have hl:(ns.map D.int).length=ns.length:=by simp
 have hs:aL (tupI ns)=some (ns.map .int):=rfl
 have h1:(0:Int)<=(ns.length:Int)∧(ns.length:Int).toNat<2^20:=by have:=g.aS;omega
 have h2:(ns.length:Int).toNat=ns.length:=by omega
 have h3:1<=sizeLine:=by decide
 dsimp? [P.cQ,hf,hs,hl,h1,h3]
 unfold tupI
 simp [h2]
theorem iH {ns:List Int} (M:GM G C) (g:Good ns):bw G (kal G (n+1)) (grp C ns) "nought" []=some (.ok (tupI (List.replicate ns.length 0))):=eT rfl M.CI (tU M g)
theorem yL {ns x y:List Int} (M:GM G C) (g:Good ns):kal G (n+1) "Rounds.sum_of" [grp C ns,tupI x,tupI y]=some (.ok (tupI (aA ns x y))):=by
 refine aC M.sum ⟨rfl,rfl⟩ (ρ0:=[.val (grp C ns),.val (tupI x),.val (tupI y)]) rfl (az ?_)
 have hf:=fL (ns:=ns) M.A
 have hz:bz .zip [tupI x,tupI y,tupI ns]=some ((x.zip (y.zip ns)).map fun p=>D.tup [.int p.1,.int p.2.1,.int p.2.2]):=by rw [←gu];exact rF rfl rfl rfl
 have key:ev G (kal G n) (.comp 3 [] (.tp [(.nm 0),(.nm 1),(.nm 2)]) (.blt .zip [(.var 1),(.var 2),(.fld (.var 0) "rounds")]) (.lit (.bl true)) (.emit (.bin .mod (.bin .add (.var 0) (.var 1)) (.var 2)))) [.val (grp C ns),.val (tupI x),.val (tupI y)]=some (.lst ((x.zip (y.zip ns)).map fun p=>D.int ((p.1+p.2.1)%p.2.2))):=by
  refine bt (g:=fun p:Int×Int×Int=>D.tup [.int p.1,.int p.2.1,.int p.2.2]) (by simp only [evI,evA,ev.eq_1,ev.eq_18,aO,List.getElem?_cons_zero,List.getElem?_cons_succ,hf,hz]) rfl ?_ fun p hp=>⟨[.val (.int p.1),.val (.int p.2.1),.val (.int p.2.2)],rfl,?_⟩
  ·have:=g.aS
   rw [List.length_zip,List.length_zip]
   exact Nat.le_trans (show min x.length (min y.length ns.length)<=1000 by omega) (by decide)
  ·have hp2:0<p.2.2:=by have:=g.ge _ (mh hp);omega
   simp only [ev.eq_4,ev.eq_1,aO,List.getElem?_cons_zero,List.getElem?_cons_succ,d6,hp2,if_true]
 simp only [aa.eq_11,evV,ev.eq_19,evA,af,aI,List.modify_zero_cons,List.modify_succ_cons,key,cJ,eW]
 unfold aA tupI
 rw [List.map_map]
 rfl
theorem oK {ns x y:List Int} (M:GM G C) (g:Good ns):bw G (kal G (n+1)) (grp C ns) "sum_of" [tupI x,tupI y]=some (.ok (tupI (aA ns x y))):=eT rfl M.Ck (yL M g)
theorem uy {ns x:List Int} (M:GM G C) (g:Good ns) (hx:El ns x):bw G (kal G (n+2)) (grp C ns) "has" [tupI x]=some (.ok (.bl true)):=eT rfl M.uc (by rw [AF M.A M.has g hx.len,hx.has])
theorem mm {ns x:List Int} (M:GM G C) (g:Good ns) (hx:El ns x):bw G (kal G (n+3)) (grp C ns) "need" [tupI x]=some (.ok .non):=by
 refine eT rfl M.uK (lT M.need ⟨rfl,rfl⟩ (ρ0:=[.val (grp C ns),.val (tupI x)]) rfl (ρ:=[.val (grp C ns),.val (tupI x)]) ?_)
 have hm:=uy (n:=n) M g hx
 unfold P.dj
 dsimp? [hm]
theorem rX {ns:List Int} {d1 d2:D} (M:GM G C) (g:Good ns):∀(f:Nat) (s w:List Int) (l:Int),El ns s->El ns w->0<=l->l.toNat<f->
  ∃s',fN (fun ρ=>evT G (kal G (n+1)) (.cmp .gt (.var 4) (.lit (.int 0))) (af [4] ρ)) (IN.run G (kal G (n+1)) [(.ife (.cmp .eq (.bin .mod (.var 4) (.lit (.int 2))) (.lit (.int 1))) [4] [(.asg (.nm 5) (.mth (.var 0) "sum_of" [(.var 5),(.var 3)]) [0,5,3])] []),(.asg (.nm 3) (.mth (.var 0) "sum_of" [(.var 3),(.var 3)]) [0,3]),(.asg (.nm 4) (.bin .fdiv (.var 4) (.lit (.int 2))) [4])]) f
   [.val (grp C ns),.val d1,.val d2,.val (tupI s),.val (.int l),.val (tupI w)]=some (.nx [.val (grp C ns),.val d1,.val d2,.val s',.val (.int 0),.val (tupI (aA ns w (aE ns l s)))]):=by
 intro f
 induction f with
 |zero=>intro s w l _ _ _ h;omega
 |succ f ih=>
  intro s w l hs hw hl h
  rw [fN]
  by_cases hz:l=0
  ·subst hz
   rw [jY hs,k9 hw]
   exact ⟨tupI s,rfl⟩
  ·have hp:0<l:=by omega
   have h1:evT G (kal G (n+1)) (.cmp .gt (.var 4) (.lit (.int 0))) (af [4] [.val (grp C ns),.val d1,.val d2,.val (tupI s),.val (.int l),.val (tupI w)])=some true:=by
    have:decide (0<l)=true:=decide_eq_true hp
    dsimp? [this]
   rw [h1]
   dsimp only
   have e1:=oK (n:=n) (x:=w) (y:=s) M g
   have e2:=oK (n:=n) (x:=s) (y:=s) M g
   have t2:(0:Int)<2:=by decide
   have t3:(0:Int)<2∧Int.toNat 2<1073741824:=by decide
   rcases (by omega:l%2=1∨l%2=0) with hc|hc
   ·have h2:IN.run G (kal G (n+1)) [(.ife (.cmp .eq (.bin .mod (.var 4) (.lit (.int 2))) (.lit (.int 1))) [4] [(.asg (.nm 5) (.mth (.var 0) "sum_of" [(.var 5),(.var 3)]) [0,5,3])] []),(.asg (.nm 3) (.mth (.var 0) "sum_of" [(.var 3),(.var 3)]) [0,3]),(.asg (.nm 4) (.bin .fdiv (.var 4) (.lit (.int 2))) [4])] [.val (grp C ns),.val d1,.val d2,.val (tupI s),.val (.int l),.val (tupI w)]=some (.nx [.val (grp C ns),.val d1,.val d2,.val (tupI (aA ns s s)),.val (.int (l / 2)),.val (tupI (aA ns w s))]):=by
     dsimp? [hc,e1,e2,t2,t3]
    rw [h2]
    dsimp only
    obtain ⟨s',e⟩:=ih (aA ns s s) (aA ns w s) (l / 2) (hs.add g.g2 hs) (hw.add g.g2 hs) (by omega) (by omega)
    exact ⟨s',by rw [e,Ah hw hs hc]⟩
   ·have hc':decide (l%2=1)=false:=decide_eq_false (by omega)
    have h2:IN.run G (kal G (n+1)) [(.ife (.cmp .eq (.bin .mod (.var 4) (.lit (.int 2))) (.lit (.int 1))) [4] [(.asg (.nm 5) (.mth (.var 0) "sum_of" [(.var 5),(.var 3)]) [0,5,3])] []),(.asg (.nm 3) (.mth (.var 0) "sum_of" [(.var 3),(.var 3)]) [0,3]),(.asg (.nm 4) (.bin .fdiv (.var 4) (.lit (.int 2))) [4])] [.val (grp C ns),.val d1,.val d2,.val (tupI s),.val (.int l),.val (tupI w)]=some (.nx [.val (grp C ns),.val d1,.val d2,.val (tupI (aA ns s s)),.val (.int (l / 2)),.val (tupI w)]):=by
     dsimp? [hc',e1,e2,t2,t3]
    rw [h2]
    dsimp only
    obtain ⟨s',e⟩:=ih (aA ns s s) w (l / 2) (hs.add g.g2 hs) hw (by omega) (by omega)
    exact ⟨s',by rw [e,y7 hw hs hc]⟩
theorem sg {ns x:List Int} {m:Int} (M:GM G C) (g:Good ns) (hx:El ns x) (hm:0<=m):kal G (n+4) "Group.times" [grp C ns,.int m,tupI x]=some (.ok (tupI (aE ns m x))):=by
 refine aC M.tim ⟨rfl,rfl⟩ (ρ0:=[.val (grp C ns),.val (.int m),.val (tupI x),.nil,.nil,.nil]) rfl ?_
 have h1:=mm (n:=n) M g hx
 have h2:=iH (n:=n+2) M g
 have h3:decide (m<0)=false:=decide_eq_false (by omega)
 have h4:(if m<0 then -m else m)=m:=if_neg (by omega)
 obtain ⟨s',h5⟩:=rX (n:=n+2) (d1:=.int m) (d2:=tupI x) M g (turns [.val (grp C ns),.val (.int m),.val (tupI x),.val (tupI x),.val (.int m),.val (tupI (List.replicate ns.length 0))]) x (List.replicate ns.length 0) m hx (El.zero g.g2) hm (by unfold turns;simp only [List.map_cons,List.sum_cons,lJ];omega)
 rw [lj (hx.mul g.g2)] at h5
 refine st (ρ':=[.val (grp C ns),.val (.int m),.val (tupI x),.nil,.nil,.nil]) (by dsimp? [h1]) ?_
 refine st (ρ':=[.val (grp C ns),.val (.int m),.val (tupI x),.val (tupI x),.nil,.nil]) (by dsimp? [h3]) ?_
 refine st (ρ':=[.val (grp C ns),.val (.int m),.val (tupI x),.val (tupI x),.val (.int m),.nil]) (by dsimp? [h4]) ?_
 refine st (ρ':=[.val (grp C ns),.val (.int m),.val (tupI x),.val (tupI x),.val (.int m),.val (tupI (List.replicate ns.length 0))]) (by dsimp? [h2]) ?_
 refine st (by rw [aa.eq_15];exact h5) (az ?_)
 dsimp? [h1]
theorem og {ns x:List Int} {m:Int} (M:GM G C) (g:Good ns) (hx:El ns x) (hm:0<=m):bw G (kal G (n+4)) (grp C ns) "times" [.int m,tupI x]=some (.ok (tupI (aE ns m x))):=eT rfl M.Cd (sg M g hx hm)
end
section
variable {G:Prg} {C CM:Addr} {n:Nat}
noncomputable def cW (ns:List Int) (l:List (List Int)):List Int:=l.foldl (aA ns) (List.replicate ns.length 0)
theorem kl {ns:List Int} {l:List (List Int)} {x:List Int}:cW ns (l++[x])=aA ns (cW ns l) x:=by unfold cW;rw [List.foldl_append];rfl
theorem vQ {ns:List Int} {l:List (List Int)} (M:GM G C) (g:Good ns) (hl:∀x∈l,El ns x):kal G (n+4) "Group.total" [grp C ns,.lst (l.map tupI)]=some (.ok (tupI (cW ns l))):=by
 refine aC M.tot ⟨rfl,rfl⟩ (ρ0:=[.val (grp C ns),.val (.lst (l.map tupI)),.nil,.nil]) rfl ?_
 have h2:=iH (n:=n+2) M g
 refine st (ρ':=[.val (grp C ns),.val (.lst (l.map tupI)),.val (tupI (List.replicate ns.length 0)),.nil]) (by dsimp? [h2]) ?_
 refine st (ρ':=[.val (grp C ns),.val (.lst (l.map tupI)),.val (tupI (List.replicate ns.length 0)),.any]) (by rfl) ?_
 refine st (gM (g:=tupI) (fun done=>[.val (grp C ns),.val (.lst (l.map tupI)),.val (tupI (cW ns done)),.any]) l (by rfl) rfl fun done a rest e=>?_) (az ?_)
 ·have h3:=mm (n:=n) M g (hl a (by rw [e];simp))
  have h4:=oK (n:=n+2) (x:=cW ns done) (y:=a) M g
  refine ⟨[.val (grp C ns),.val (.lst (l.map tupI)),.val (tupI (cW ns done)),.val (tupI a)],rfl,?_⟩
  dsimp? [h3,h4,kl]
 ·dsimp? [h2]
theorem wU {ns:List Int} {l:List (List Int)} (M:GM G C) (g:Good ns) (hl:∀x∈l,El ns x):bw G (kal G (n+4)) (grp C ns) "total" [.lst (l.map tupI)]=some (.ok (tupI (cW ns l))):=eT rfl M.CJ (vQ M g hl)
structure GP (G:Prg) (C CM:Addr):Prop extends GM G C where
 isi:G.defs "is_image"=some (none,P.eB)
 zY:G.fn "is_image"=some ("is_image":Str)
 ni:G.defs "need_images"=some (none,P.fq)
 fni:G.fn "need_images"=some ("need_images":Str)
 mi:G.defs "Map.__init__"=some (some CM,P.eC)
 fmi:G.fn "Map"=none∧G.ini "Map"=some (CM,("Map.__init__":Str))
 zB:G.fok CM "source"=true
 yw:G.fok CM "goal"=true
 oG:G.fok CM "images"=true
 led:G.defs "Map.led"=some (none,P.gW)
 zq:G.mth CM "led"=some ("Map.led":Str)
theorem kb {ns x:List Int} {m:Int} (M:GP G C CM) (g:Good ns) (hx:El ns x) (hm:0<=m):kal G (n+5) "is_image" [grp C ns,.int m,tupI x]=some (.ok (.bl (decide (aE ns m x=List.replicate ns.length 0)))):=by
 refine aC M.isi ⟨rfl,rfl⟩ (ρ0:=[.val (grp C ns),.val (.int m),.val (tupI x)]) rfl ?_
 have h1:=uy (n:=n+2) M.toGM g hx
 have h2:=og (n:=n) M.toGM g hx hm
 have h3:=iH (n:=n+3) M.toGM g
 have h4:=ji (aE ns m x) (List.replicate ns.length 0)
 dsimp? [P.eB,h1,h2,h3,h4]
structure Im (s g:List Int) (is:List (List Int)):Prop where
 len:is.length=s.length
 el:∀x∈is,El g x
 ann:∀p∈s.zip is,aE g p.1 p.2=List.replicate g.length 0
theorem eX (s:List Int):bf 0 (s.map .int)=(s.zipIdx).map fun p=>D.tup [.int (p.2:Int),.int p.1]:=by
 have:∀(s:List Int) (k:Nat),bf k (s.map .int)=(s.zipIdx k).map fun p=>D.tup [.int (p.2:Int),.int p.1]:=by
  intro s
  induction s with
  |nil=>intro k;rfl
  |cons a s ih=>intro k;rw [List.zipIdx_cons,List.map_cons,List.map_cons,bf,ih]
 exact this s 0
theorem lY {s g:List Int} {is:List (List Int)} (M:GP G C CM) (gs:Good s) (gg:Good g) (im:Im s g is):kal G (n+6) "need_images" [grp C s,grp C g,.lst (is.map tupI)]=some (.ok .non):=by
 refine lT M.ni ⟨rfl,rfl⟩ (ρ0:=[.val (grp C s),.val (grp C g),.val (.lst (is.map tupI)),.nil,.nil]) rfl (ρ:=[.val (grp C s),.val (grp C g),.val (.lst (is.map tupI)),.any,.any]) ?_
 have hf:=fL (ns:=s) M.A
 have ln:(is.map tupI).length=is.length:=by simp
 have ln2:(s.map D.int).length=s.length:=by simp
 have sq:aL (tupI s)=some (s.map .int):=rfl
 have hb:bz .enum [tupI s]=some (s.zipIdx.map fun p=>D.tup [.int (p.2:Int),.int p.1]):=by rw [←eX];rfl
 refine st (ρ':=[.val (grp C s),.val (grp C g),.val (.lst (is.map tupI)),.any,.any]) (by rfl) ?_
 refine st (gM (g:=fun p:Int×Nat=>D.tup [.int (p.2:Int),.int p.1]) (fun _=>[.val (grp C s),.val (grp C g),.val (.lst (is.map tupI)),.any,.any]) s.zipIdx (by simp only [evI,evA,ev.eq_1,ev.eq_18,aO,af,aI,List.modify_zero_cons,List.getElem?_cons_zero,hf,hb]) rfl fun done p rest e=>?_) ?_
 ·have hp:p∈s.zipIdx:=by rw [e];simp
  obtain ⟨m,i⟩:=p
  have hi:s[i]?=some m:=List.mk_mem_zipIdx_iff_getElem?.mp hp
  obtain ⟨hi1,hi2⟩:=List.getElem?_eq_some_iff.mp hi
  have hi3:i<is.length:=by rw [im.len];exact hi1
  have hx:is[i]∈is:=List.getElem_mem hi3
  have hz:(m,is[i])∈s.zip is:=by
   refine List.mem_iff_getElem?.mpr ⟨i,?_⟩
   rw [List.getElem?_zip_eq_some]
   exact ⟨hi,List.getElem?_eq_getElem hi3⟩
  have hm:2<=m:=gs.ge m (hi2▸List.getElem_mem hi1)
  have e1:=kb (n:=n) M gg (im.el _ hx) (m:=m) (by omega)
  rw [im.ann _ hz,decide_eq_true rfl] at e1
  have e2:=M.zY
  have e3:decide ((is.length:Int)<=(i:Int))=false:=decide_eq_false (by omega)
  have e4:atI (is.map tupI) (i:Int)=some (tupI is[i]):=by
   unfold atI ixN
   simp [hi3]
  refine ⟨[.val (grp C s),.val (grp C g),.val (.lst (is.map tupI)),.val (.int (i:Int)),.val (.int m)],rfl,?_⟩
  dsimp? [e1,e2,e3,e4,ln]
 ·have e3:decide ((s.length:Int)<(is.length:Int))=false:=decide_eq_false (by have:=im.len;omega)
  dsimp? [hf,ln,ln2,sq,e3]
noncomputable abbrev mf (C:Addr) (s g:List Int) (is:List (List Int)):List (Str×D):=[(("source":Str),grp C s),(("goal":Str),grp C g),(("images":Str),.tup (is.map tupI))]
noncomputable def aM (CM C:Addr) (s g:List Int) (is:List (List Int)):D:=.ins CM (mf C s g is)
theorem fR:∀is:List (List Int),bg (is.map tupI)=true
 |[]=>rfl
 |x::is=>by show (ak (tupI x)&&bg (is.map tupI))=true;rw [fR is,ef];rfl
theorem vn {s g:List Int} {is:List (List Int)} (M:GP G C CM) (gs:Good s) (gg:Good g) (im:Im s g is):kal G (n+7) "Map.__init__" [grp C s,grp C g,.lst (is.map tupI)]=some (.ok (aM CM C s g is)):=by
 refine nA M.mi ⟨rfl,rfl⟩ (ρ0:=[.val (grp C s),.val (grp C g),.val (.lst (is.map tupI))]) rfl (fs:=mf C s g is) (a:=0) (b:=0) (ρ:=[.val (grp C s),.val (grp C g),.val (.lst (is.map tupI))]) ?_
 have h1:=lY (n:=n) M gs gg im
 have h2:=M.fni
 have h3:=M.zB
 have h4:=M.yw
 have h5:=M.oG
 have k0:(0:Nat)<1000:=by decide
 have k1:(1:Nat)<1000:=by decide
 have k2:(2:Nat)<1000:=by decide
 have h6:ak (.tup (is.map tupI))=true:=fR is
 refine st (ρ':=[.new CM 0 0 [],.val (grp C s),.val (grp C g),.val (.lst (is.map tupI))]) (by dsimp? [h1,h2]) ?_
 refine st (ρ':=[.new CM 0 0 [(("source":Str),grp C s)],.val (grp C s),.val (grp C g),.val (.lst (is.map tupI))]) (by dsimp? [h3,k0,putD]) ?_
 refine st (ρ':=[.new CM 0 0 [(("source":Str),grp C s),(("goal":Str),grp C g)],.val (grp C s),.val (grp C g),.val (.lst (is.map tupI))]) (by dsimp? [h4,k1];rfl) ?_
 exact st (by dsimp? [h5,k2,h6];rfl) bK
theorem mG {s g:List Int} {is:List (List Int)} (M:GP G C CM):b_ G (aM CM C s g is) "source"=some (grp C s):=by
 have h:=M.zB
 have k:(mf C s g is).lookup ("source":Str)=some (grp C s):=rfl
 unfold aM;simp only [b_,h,if_true,k]
theorem nW {s g:List Int} {is:List (List Int)} (M:GP G C CM):b_ G (aM CM C s g is) "goal"=some (grp C g):=by
 have h:=M.yw
 have k:(mf C s g is).lookup ("goal":Str)=some (grp C g):=rfl
 unfold aM;simp only [b_,h,if_true,k]
theorem xQ {s g:List Int} {is:List (List Int)} (M:GP G C CM):b_ G (aM CM C s g is) "images"=some (.tup (is.map tupI)):=by
 have h:=M.oG
 have k:(mf C s g is).lookup ("images":Str)=some (.tup (is.map tupI)):=rfl
 unfold aM;simp only [b_,h,if_true,k]
noncomputable def bX (g:List Int) (is:List (List Int)) (x:List Int):List Int:=cW g ((x.zip is).map fun p=>aE g p.1 p.2)
theorem mj:∀(x:List Int) (is:List (List Int)),a_ (x.map .int) (is.map tupI)=(x.zip is).map fun p=>D.tup [.int p.1,tupI p.2]
 |[],_=>by simp [a_]
 |_::_,[]=>by simp [a_]
 |a::x,b::is=>by
  have:=mj x is
  simp only [List.map_cons,List.zip_cons_cons,a_,this]
theorem uC:∀{ns x:List Int},El ns x->∀k∈x,0<=k
 |[],x,h,k,hk=>by
  have e:x=[]:=List.length_eq_zero_iff.mp h.len
  subst e;cases hk
 |m::ns,x,h,k,hk=>by
  obtain ⟨a,x',rfl,h2,_,hx⟩:=h.inv
  rcases List.mem_cons.mp hk with rfl|hk
  ·exact h2
  ·exact uC hx k hk
theorem uX {cl:Str->List D->Option Rs} {s g:List Int} {is:List (List Int)} {m k:Str} {ds:List D} {r:Option Rs} (hl:(mf C s g is).lookup m=none) (hm:G.mth CM m=some k) (h:cl k (aM CM C s g is::ds)=r):bw G cl (aM CM C s g is) m ds=r:=by
 unfold aM at h ⊢
 simp only [bw,hl,hm,h]
theorem oI {s g x:List Int} {is:List (List Int)} (M:GP G C CM) (gs:Good s) (gg:Good g) (im:Im s g is) (hx:El s x):bw G (kal G (n+6)) (aM CM C s g is) "led" [tupI x]=some (.ok (tupI (bX g is x))):=by
 refine uX rfl M.zq (aC M.led ⟨rfl,rfl⟩ (ρ0:=[.val (aM CM C s g is),.val (tupI x)]) rfl ?_)
 have h1:=mG (s:=s) (g:=g) (is:=is) M
 have h2:=nW (s:=s) (g:=g) (is:=is) M
 have h3:=xQ (s:=s) (g:=g) (is:=is) M
 have h4:=mm (n:=n+2) M.toGM gs hx
 have hz:bz .zip [tupI x,.tup (is.map tupI)]=some ((x.zip is).map fun p=>D.tup [.int p.1,tupI p.2]):=by rw [←mj];exact eA rfl rfl
 have key:ev G (kal G (n+5)) (.comp 2 [0] (.tp [(.nm 0),(.nm 1)]) (.blt .zip [(.var 1),(.fld (.var 0) "images")]) (.lit (.bl true)) (.emit (.mth (.fld (.var 2) "goal") "times" [(.var 0),(.var 1)]))) [.val (aM CM C s g is),.val (tupI x)]=some (.lst (((x.zip is).map fun p=>aE g p.1 p.2).map tupI)):=by
  rw [List.map_map]
  refine bt (g:=fun p:Int×List Int=>D.tup [.int p.1,tupI p.2]) (by simp only [evI,evA,ev.eq_1,ev.eq_18,aO,List.getElem?_cons_zero,List.getElem?_cons_succ,h3,hz]) rfl ?_ fun p hp=>⟨[.val (.int p.1),.val (tupI p.2),.val (aM CM C s g is)],rfl,?_⟩
  ·have a:=gs.aS
   have b:=hx.len
   rw [List.length_zip]
   exact Nat.le_trans (show min x.length is.length<=1000 by omega) (by decide)
  ·have e1:=og (n:=n+1) M.toGM gg (im.el _ (List.of_mem_zip hp).2) (m:=p.1) (uC hx _ (List.of_mem_zip hp).1)
   dsimp? [h2,e1]
   rfl
 have h5:=wU (n:=n+1) (l:=(x.zip is).map fun p=>aE g p.1 p.2) M.toGM gg (fun y hy=>by
  obtain ⟨p,hp,rfl⟩:=List.mem_map.mp hy
  exact (im.el _ (List.of_mem_zip hp).2).mul gg.g2)
 dsimp? [P.gW,h1,h2,h4,key,h5]
 rfl
end
theorem El.nil_eq {x:List Int} (h:El [] x):x=[]:=List.length_eq_zero_iff.mp h.len
theorem kE:∀{ns x y:List Int},El ns x->El ns y->aA ns x y=aA ns y x
 |[],x,y,h1,h2=>by have:=h1.nil_eq;have:=h2.nil_eq;subst_vars;rfl
 |m::ns,x,y,h1,h2=>by
  obtain ⟨a,x',rfl,_,_,hx⟩:=h1.inv
  obtain ⟨b,y',rfl,_,_,hy⟩:=h2.inv
  rw [aN,aN,kE hx hy,Int.add_comm]
theorem cC:∀{ns x y z:List Int},El ns x->El ns y->El ns z->aA ns (aA ns x y) z=aA ns x (aA ns y z)
 |[],x,y,z,h1,h2,h3=>by have:=h1.nil_eq;have:=h2.nil_eq;have:=h3.nil_eq;subst_vars;rfl
 |m::ns,x,y,z,h1,h2,h3=>by
  obtain ⟨a,x',rfl,_,_,hx⟩:=h1.inv
  obtain ⟨b,y',rfl,_,_,hy⟩:=h2.inv
  obtain ⟨c,z',rfl,_,_,hz⟩:=h3.inv
  rw [aN,aN,aN,aN,cC hx hy hz,Int.emod_add_emod,Int.add_emod_emod,Int.add_assoc]
theorem xY {ns x y z w:List Int} (g:Ge2 ns) (hx:El ns x) (hy:El ns y) (hz:El ns z) (hw:El ns w):aA ns (aA ns x y) (aA ns z w)=aA ns (aA ns x z) (aA ns y w):=by
 rw [cC hx hy (hz.add g hw),←cC hy hz hw,kE hy hz,cC hz hy hw,←cC hx hz (hy.add g hw)]
theorem mz {j k:Int}:∀{ns x:List Int},El ns x->aE ns j (aE ns k x)=aE ns (j*k) x
 |[],x,h1=>by have:=h1.nil_eq;subst_vars;rfl
 |m::ns,x,h1=>by
  obtain ⟨a,x',rfl,_,_,hx⟩:=h1.inv
  rw [aY,aY,aY,mz hx,gH,Int.mul_assoc]
theorem kz (k:Int):∀(ns:List Int),aE ns k (List.replicate ns.length 0)=List.replicate ns.length 0
 |[]=>rfl
 |m::ns=>by
  show k*0%m::aE ns k (List.replicate ns.length 0)=0::List.replicate ns.length 0
  rw [kz k ns,Int.mul_zero,Int.zero_emod]
theorem qA {ns x:List Int} {a m:Int} (g:Ge2 ns) (hx:El ns x) (h:aE ns m x=List.replicate ns.length 0):aE ns (a%m) x=aE ns a x:=by
 have e:a=a / m*m+a%m:=by rw [Int.mul_comm];exact (Int.mul_ediv_add_emod a m).symm
 conv=>rhs;rw [e]
 rw [←add_mul hx,←mz hx,h,kz,lj (hx.mul g)]
theorem fold_add {ns:List Int} (g:Ge2 ns):∀(l:List (List Int)) (w x:List Int),El ns w->El ns x->(∀y∈l,El ns y)->l.foldl (aA ns) (aA ns w x)=aA ns w (l.foldl (aA ns) x)
 |[],w,x,_,_,_=>rfl
 |y::l,w,x,hw,hx,h=>by
  have hy:=h y List.mem_cons_self
  rw [List.foldl_cons,List.foldl_cons,cC hw hx hy]
  exact fold_add g l w (aA ns x y) hw (hx.add g hy) fun z hz=>h z (List.mem_cons_of_mem _ hz)
theorem nF {ns:List Int} (g:Ge2 ns):∀(l:List (List Int)) (w:List Int),El ns w->(∀y∈l,El ns y)->El ns (l.foldl (aA ns) w)
 |[],w,hw,_=>hw
 |y::l,w,hw,h=>nF g l _ (hw.add g (h y List.mem_cons_self)) fun z hz=>h z (List.mem_cons_of_mem _ hz)
theorem qy {ns x:List Int} {l:List (List Int)} (g:Ge2 ns) (hx:El ns x) (h:∀y∈l,El ns y):cW ns (x::l)=aA ns x (cW ns l):=by
 unfold cW
 rw [List.foldl_cons,lj hx,←fold_add g l x _ hx (El.zero g) h,k9 hx]
noncomputable def Els (g:List Int) (is:List (List Int)):Prop:=∀x∈is,El g x
theorem Els.Ac {g:List Int} {is:List (List Int)} (e:Els g is) (gg:Ge2 g) (x:List Int):∀y∈(x.zip is).map fun p=>aE g p.1 p.2,El g y:=fun y hy=>by
 obtain ⟨p,hp,rfl⟩:=List.mem_map.mp hy
 exact (e _ (List.of_mem_zip hp).2).mul gg
theorem ip {g i x:List Int} {a:Int} {is:List (List Int)} (gg:Ge2 g) (hi:El g i) (e:Els g is):bX g (i::is) (a::x)=aA g (aE g a i) (bX g is x):=by
 unfold bX
 rw [List.zip_cons_cons,List.map_cons]
 exact qy gg (hi.mul gg) (e.Ac gg x)
theorem lZ {g:List Int} {is:List (List Int)} (gg:Ge2 g) (e:Els g is) (x:List Int):El g (bX g is x):=nF gg _ _ (El.zero gg) (e.Ac gg x)
theorem Im.nil {g:List Int}:Im [] g []:=⟨rfl,(fun x h=>by cases h),(fun p h=>by cases h)⟩
theorem Im.cons {a:Int} {s g i:List Int} {is:List (List Int)} (h1:El g i) (h2:aE g a i=List.replicate g.length 0) (h:Im s g is):Im (a::s) g (i::is):=
 ⟨by simp [h.len],fun x hx=>(List.mem_cons.mp hx).elim (fun e=>e▸h1) (h.el x),fun p hp=>(List.mem_cons.mp (List.zip_cons_cons▸hp)).elim (fun e=>by subst e;exact h2) (h.ann p)⟩
theorem Im.inv {a:Int} {s g:List Int} {is:List (List Int)} (h:Im (a::s) g is):∃i r,is=i::r∧El g i∧aE g a i=List.replicate g.length 0∧Im s g r:=by
 cases is with
 |nil=>cases h.len
 |cons i r=>exact ⟨i,r,rfl,h.el i List.mem_cons_self,h.ann (a,i) (by simp),⟨by simpa using h.len,fun x hx=>h.el x (List.mem_cons_of_mem _ hx),fun p hp=>h.ann p (by rw [List.zip_cons_cons];exact List.mem_cons_of_mem _ hp)⟩⟩
theorem nv {g:List Int} (gg:Ge2 g):∀{m x y:List Int} {js:List (List Int)},Im m g js->El m x->El m y->bX g js (aA m x y)=aA g (bX g js x) (bX g js y)
 |[],x,y,js,im,h1,h2=>by
  have:=h1.nil_eq;have:=h2.nil_eq;subst_vars
  show List.replicate g.length 0=_
  exact (k9 (El.zero gg)).symm
 |n::m,x,y,js,im,h1,h2=>by
  obtain ⟨a,x',rfl,_,_,hx⟩:=h1.inv
  obtain ⟨b,y',rfl,_,_,hy⟩:=h2.inv
  obtain ⟨j,r,rfl,hj,ha,im'⟩:=im.inv
  rw [aN,ip gg hj im'.el,ip gg hj im'.el,ip gg hj im'.el,nv gg im' hx hy,qA gg hj ha,←add_mul hj]
  exact xY gg (hj.mul gg) (hj.mul gg) (lZ gg im'.el _) (lZ gg im'.el _)
section
variable {G:Prg} {C CM NL:Addr} {n:Nat}
theorem md {key:Str} {sc:List Int} {k:Int} (hd:G.defs key=some (none,L.spread)) (hl:sc.length<=63) (hk:0<=k∧k<=1000):∃c,kal G (n+1) key [.lst (sc.map .int),.int k]=some (.ok (.int c)):=by
 have ln:(sc.map D.int).length=sc.length:=by simp
 have m1:∀i:Int,b9 i 48271=true:=fun i=>fF (by decide)
 have m3:∀i:Int,b9 i 69621=true:=fun i=>fF (by decide)
 have m6:∀i:Int,b9 i 16807=true:=fun i=>fF (by decide)
 have m7:∀i:Int,b9 31 i=true:=fun i=>jE (by decide)
 have m8:b9 (k+3) (k+5)=true:=jE (by omega)
 have p1:(0:Int)<1000000007:=by decide
 have p2:(0:Int)<2147483647:=by decide
 have p3:(0:Int)<2147483629:=by decide
 have p4:(0:Int)<2147483648:=by decide
 have p5:(0:Int)<2:=by decide
 have tail:∀c:Int,IN.run G (kal G n) (L.spread.body.drop 4) [.val (.lst (sc.map .int)),.val (.int k),.val (.int ((sc.length:Int) - 1)),.val (.int c),.nil]=some (.rt (.int ((c%1000000007*48271+(k+3)*(k+5)*69621)%2147483647*16807%2147483629))):=fun c=>by
  unfold L.spread
  simp only [List.drop]
  dsimp? [p1,p2,p3,m1,m3,m6,m8]
 have t1:IN.aa G (kal G n) (.asg (.nm 2) (.bin .sub (.blt .len [(.var 0)]) (.lit (.int 1))) [0]) [.val (.lst (sc.map .int)),.val (.int k),.nil,.nil,.nil]=some (.nx [.val (.lst (sc.map .int)),.val (.int k),.val (.int ((sc.length:Int) - 1)),.nil,.nil]):=by dsimp? [ln]
 have mid:IN.aa G (kal G n) (L.spread.body.getD 1 .pass) [.val (.lst (sc.map .int)),.val (.int k),.val (.int ((sc.length:Int) - 1)),.nil,.nil]=some (.nx [.val (.lst (sc.map .int)),.val (.int k),.val (.int ((sc.length:Int) - 1)),.nil,.nil])->∃c,IN.run G (kal G n) L.spread.body [.val (.lst (sc.map .int)),.val (.int k),.nil,.nil,.nil]=some (.rt (.int c)):=fun t2=>by
  have t3:IN.aa G (kal G n) (.asg (.nm 3) (.lit (.int 0)) []) [.val (.lst (sc.map .int)),.val (.int k),.val (.int ((sc.length:Int) - 1)),.nil,.nil]=some (.nx [.val (.lst (sc.map .int)),.val (.int k),.val (.int ((sc.length:Int) - 1)),.val (.int 0),.nil]):=rfl
  by_cases b:(0:Int)<(sc.length:Int)
  ·have b3:decide ((0:Int)<(sc.length:Int))=true:=decide_eq_true b
   have i2:atI (sc.map D.int) (k%(sc.length:Int))=some (D.int (at0 sc k)):=zm (by omega)
   exact ⟨_,st t1 (st t2 (st t3 (st (ρ':=[.val (.lst (sc.map .int)),.val (.int k),.val (.int ((sc.length:Int) - 1)),.val (.int (at0 sc k)),.nil]) (by dsimp? [ln,b,b3,i2]) (tail (at0 sc k)))))⟩
  ·have b3:decide ((0:Int)<(sc.length:Int))=false:=decide_eq_false b
   exact ⟨_,st t1 (st t2 (st t3 (st (ρ':=[.val (.lst (sc.map .int)),.val (.int k),.val (.int ((sc.length:Int) - 1)),.val (.int 0),.nil]) (by dsimp? [ln,b3]) (tail 0))))⟩
 have go:∃c,IN.run G (kal G n) L.spread.body [.val (.lst (sc.map .int)),.val (.int k),.nil,.nil,.nil]=some (.rt (.int c)):=by
  by_cases hb:(0:Int)<(sc.length:Int) - 1
  ·have b1:decide ((0:Int)<(sc.length:Int) - 1)=true:=decide_eq_true hb
   have i0:=ur (l:=sc) (k:=0) (by decide) (by omega)
   by_cases ho:gd sc 0%2=1
   ·have b2:decide (gd sc 0%2=1)=true:=decide_eq_true ho
    have q0:0<=k%((sc.length:Int) - 1):=Int.emod_nonneg _ (by omega)
    have q1:k%((sc.length:Int) - 1)<(sc.length:Int) - 1:=Int.emod_lt_of_pos _ hb
    have i1:=ur (l:=sc) (k:=1+k%((sc.length:Int) - 1)) (by omega) (by omega)
    have d1:(0:Int)<(sc.length:Int) - 1∧((sc.length:Int) - 1).toNat<1073741824:=by omega
    have d2:0<=31*(k / ((sc.length:Int) - 1)):=by
     have:=Int.ediv_nonneg hk.1 (show 0<=(sc.length:Int) - 1 by omega)
     omega
    exact ⟨gd sc (1+k%((sc.length:Int) - 1)) / 2^(31*(k / ((sc.length:Int) - 1))).toNat%2147483648,st t1 (az (by dsimp? [b1,b2,i0,i1,d1,d2,hb,p5,p4,m7]))⟩
   ·have b2:decide (gd sc 0%2=1)=false:=decide_eq_false ho
    refine mid ?_
    unfold L.spread
    simp only [List.getD_cons_succ,List.getD_cons_zero]
    dsimp? [b1,b2,i0,p5]
  ·have b1:decide ((0:Int)<(sc.length:Int) - 1)=false:=decide_eq_false hb
   refine mid ?_
   unfold L.spread
   simp only [List.getD_cons_succ,List.getD_cons_zero]
   dsimp? [b1]
 obtain ⟨c,e⟩:=go
 exact ⟨c,aC hd ⟨rfl,rfl⟩ (ρ0:=[.val (.lst (sc.map .int)),.val (.int k),.nil,.nil,.nil]) rfl e⟩
noncomputable def dC:List (List Int):=[[2],[4],[2,2],[6],[12],[2,4],[3,9],[5],[],[144],[2,3,4],[8,2],[10,14],[2,2,2,3]]
theorem nP {key:Str} {c:Int} (hd:G.defs key=some (none,L.group)):∃ns∈dC,kal G (n+1) key [.int c]=some (.ok (tupI ns)):=by
 have h0:0<=c%14:=Int.emod_nonneg _ (by decide)
 have h1:c%14<14:=Int.emod_lt_of_pos _ (by decide)
 have p:(0:Int)<14:=by decide
 refine ⟨dC.getD (c%14).toNat [],?_,?_⟩
 ·have:(c%14).toNat<14:=by omega
  generalize (c%14).toNat=i at this
  have:∀i<14,dC.getD i []∈dC:=by decide
  exact this i ‹_›
 ·refine aC hd ⟨rfl,rfl⟩ (ρ0:=[.val (.int c),.nil]) rfl ?_
  have s0:0<=sizeLine:=by decide
  have s1:1<=sizeLine:=by decide
  have s2:2<=sizeLine:=by decide
  have s3:3<=sizeLine:=by decide
  have s4:4<=sizeLine:=by decide
  have s13:13<=sizeLine:=by decide
  have s14:14<=sizeLine:=by decide
  have e:atI (dC.map tupI) (c%14)=some (tupI (dC.getD (c%14).toNat [])):=by
   obtain ⟨j,hj⟩:=Int.eq_ofNat_of_zero_le h0
   rw [hj] at h1 ⊢
   have:j<dC.length:=by show j<14;omega
   refine jt ?_
   simp [this]
  refine st (ρ':=[.val (.int c),.owx (.l ((dC.take 13).map tupI))]) (by dsimp? [s0,s1,s2,s3,s4,s13,b6];rfl) (az ?_)
  have e2:(dC.take 13).map tupI++[tupI [2,2,2,3]]=dC.map tupI:=rfl
  have e3:((dC.take 13).map tupI).length=13:=rfl
  have e4:D.tup [D.int 2,D.int 2,D.int 2,D.int 3]=tupI [2,2,2,3]:=rfl
  dsimp? [s4,e2,e3,e4,s14,s1,e,p]
end
section
variable {G:Prg} {C CM NL:Addr} {n:Nat}
theorem ti {m c:Int} {ns:List Int}:elI (m::ns) c=c%m::elI ns (c / m):=by
 have go:∀(ns:List Int) (c:Int) (f:List Int),(ns.foldl est (c,f)).2=f++(ns.foldl est (c,[])).2:=by
  intro ns
  induction ns with
  |nil=>intro c f;simp
  |cons n ns ih=>
   intro c f
   show (ns.foldl est (c / n,f++[c%n])).2=f++(ns.foldl est (c / n,[]++[c%n])).2
   rw [ih,ih (c / n) ([]++[c%n]),List.append_assoc];rfl
 show (ns.foldl est (c / m,[]++[c%m])).2=_
 rw [go];rfl
theorem tH {key:Str} {ns:List Int} {c:Int} (hd:G.defs key=some (none,L.element)) (h1:∀m∈ns,1<=m∧m<1000000) (hl:ns.length<=1000):kal G (n+1) key [.lst (ns.map .int),.int c]=some (.ok (tupI (elI ns c))):=by
 refine aC hd ⟨rfl,rfl⟩ (ρ0:=[.val (.lst (ns.map .int)),.val (.int c),.nil,.nil]) rfl ?_
 refine st (ρ':=[.val (.lst (ns.map .int)),.val (.int c),.owx (.l []),.nil]) rfl ?_
 refine st (ρ':=[.val (.lst (ns.map .int)),.val (.int c),.owx (.l []),.any]) rfl ?_
 refine st (gM (g:=D.int) (fun done=>[.val (.lst (ns.map .int)),.val (.int (cn c done).1),.owx (.l ((cn c done).2.map D.int)),.any]) ns rfl rfl fun done a rest e=>?_) ?_
 ·refine ⟨[.val (.lst (ns.map .int)),.val (.int (cn c done).1),.owx (.l ((cn c done).2.map D.int)),.val (.int a)],rfl,?_⟩
  rw [j8]
  have hl2:=lS c done
  generalize cn c done=s at hl2 ⊢
  have h2:=h1 a (by rw [e];simp)
  have p1:0<a:=by omega
  have p2:0<a∧a.toNat<1073741824:=by omega
  have e6:(s.2.map D.int).length<sizeLine:=by
   rw [List.length_map,hl2]
   have:done.length<=ns.length:=by rw [e];simp
   exact Nat.lt_of_le_of_lt (show done.length<=1000 by omega) (by decide)
  have e7:s.2.map D.int++[D.int (s.1%a)]=(s.2++[s.1%a]).map D.int:=by simp
  have em:est s a=(s.1 / a,s.2++[s.1%a]):=rfl
  rw [em]
  dsimp? [p1,p2,e6,e7]
 ·refine az ?_
  have e8:aL (.lst ((cn c ns).2.map D.int))=some ((cn c ns).2.map D.int):=rfl
  dsimp? [e8]
  rfl
noncomputable def fV (m:Int) (g:List Int) (c:Int):List Int:=((g.map fun k=>k / aH k m).zip (elI (g.map fun k=>aH k m) c)).map fun p=>p.1*p.2
theorem su {m k c:Int} {g:List Int}:fV m (k::g) c=k / aH k m*(c%aH k m)::fV m g (c / aH k m):=by
 unfold fV
 rw [List.map_cons,List.map_cons,ti,List.zip_cons_cons,List.map_cons]
theorem pG (k m:Int):aH k m∣k:=Int.gcd_dvd_left ..
theorem BE (k m:Int):aH k m∣m:=Int.gcd_dvd_right ..
theorem lC {m:Int}:∀{g:List Int} {c:Int},Ge2 g->El g (fV m g c)∧aE g m (fV m g c)=List.replicate g.length 0
 |[],c,_=>⟨El.nil,rfl⟩
 |k::g,c,h=>by
  have hk:=h.head
  have hp:=gS (b:=m) hk
  obtain ⟨i1,i2⟩:=lC (m:=m) (g:=g) (c:=c / aH k m) h.tail
  obtain ⟨q,hq⟩:=pG k m
  obtain ⟨r,hr⟩:=BE k m
  have e:k / aH k m=q:=by
   conv=>lhs;arg 1;rw [hq]
   exact Int.mul_ediv_cancel_left _ (by omega)
  have d0:0<=c%aH k m:=Int.emod_nonneg _ (by omega)
  have d1:c%aH k m<aH k m:=Int.emod_lt_of_pos _ hp
  have q0:0<q:=by
   rcases (by omega:0<q∨q<=0) with h|h
   ·exact h
   ·have:=Int.mul_nonneg (Int.le_of_lt hp) (show 0<= -q by omega)
    rw [Int.mul_neg] at this
    omega
  rw [su,e]
  generalize hd:c%aH k m=d at d0 d1
  refine ⟨El.cons (Int.mul_nonneg (by omega) d0) ?_ i1,?_⟩
  ·have:=Int.mul_lt_mul_of_pos_left d1 q0
   rw [Int.mul_comm q (aH k m),←hq] at this
   exact this
  ·rw [aY,i2]
   have:m*(q*d)%k=0:=by
    have e2:m*(q*d)=k*(r*d):=by
     conv=>lhs;rw [hr]
     conv=>rhs;rw [hq]
     simp only [Int.mul_assoc,Int.mul_left_comm]
    rw [e2,Int.mul_emod_right]
   rw [this];rfl
theorem vM {key:Str} {m c:Int} {g:List Int} (hd:G.defs key=some (none,L.image)) (h1:G.defs "_law_divisor"=some (none,L.gcd)) (f1:G.fn "_law_divisor"=some ("_law_divisor":Str)) (h2:G.defs "_law_drawn"=some (none,L.element)) (f2:G.fn "_law_drawn"=some ("_law_drawn":Str)) (gg:Good g) (hm:0<=m) (hm2:m<1000):
  kal G (n+2) key [.int m,tupI g,.int c]=some (.ok (tupI (fV m g c))):=by
 refine aC hd ⟨rfl,rfl⟩ (ρ0:=[.val (.int m),.val (tupI g),.val (.int c),.nil,.nil]) rfl ?_
 have hz:g.length<=sizeLine:=Nat.le_trans gg.aS (by decide)
 have k1:ev G (kal G (n+1)) (.comp 1 [0] (.nm 0) (.var 1) (.lit (.bl true)) (.emit (.bin .fdiv (.var 0) (.fn "_law_divisor" [(.var 0),(.var 1)])))) [.val (.int m),.val (tupI g),.val (.int c),.nil,.nil]=some (.lst (g.map fun k=>D.int (k / aH k m))):=by
  refine bt (g:=D.int) rfl rfl hz fun k hk=>⟨[.val (.int k),.val (.int m)],rfl,?_⟩
  have hk2:=gg.ge k hk
  have hk3:=gg.lt k hk
  have e1:=va (G:=G) (n:=n) (a:=k) (b:=m) h1 (by omega) hm
  have gp:=gS (b:=m) hk2
  have gl:=Int.le_of_dvd (by omega) (pG k m)
  have p2:0<aH k m∧(aH k m).toNat<1073741824:=by omega
  dsimp? [f1,e1,p2]
 have k2:∀s3:Sl,ev G (kal G (n+1)) (.comp 1 [0] (.nm 0) (.var 1) (.lit (.bl true)) (.emit (.fn "_law_divisor" [(.var 0),(.var 1)]))) [.val (.int m),.val (tupI g),.val (.int c),s3,.nil]=some (.lst ((g.map fun k=>aH k m).map D.int)):=fun s3=>by
  rw [List.map_map]
  refine bt (g:=D.int) rfl rfl hz fun k hk=>⟨[.val (.int k),.val (.int m)],rfl,?_⟩
  have hk2:=gg.ge k hk
  have e1:=va (G:=G) (n:=n) (a:=k) (b:=m) h1 (by omega) hm
  dsimp? [f1,e1]
  rfl
 have e3:=tH (n:=n) (c:=c) (ns:=g.map fun k=>aH k m) h2 (fun x hx=>by
  obtain ⟨k,hk,rfl⟩:=List.mem_map.mp hx
  have hk2:=gg.ge k hk
  have hk3:=gg.lt k hk
  have gp:=gS (b:=m) hk2
  have gl:=Int.le_of_dvd (by omega) (pG k m)
  omega) (by rw [List.length_map];exact gg.aS)
 have fr:b6 (.l (g.map fun k=>D.int (k / aH k m)))=true:=by
  have:=du (g.map fun k=>k / aH k m)
  rw [List.map_map] at this
  exact this
 refine st (ρ':=[.val (.int m),.val (tupI g),.val (.int c),.owx (.l (g.map fun k=>D.int (k / aH k m))),.nil]) (by dsimp? [k1,fr]) ?_
 refine st (ρ':=[.val (.int m),.val (tupI g),.val (.int c),.owx (.l (g.map fun k=>D.int (k / aH k m))),.val (tupI (elI (g.map fun k=>aH k m) c))]) (by dsimp? [k2,f2,e3]) ?_
 refine az ?_
 have hz2:bz .zip [.lst (g.map fun k=>D.int (k / aH k m)),tupI (elI (g.map fun k=>aH k m) c)]=some (((g.map fun k=>k / aH k m).zip (elI (g.map fun k=>aH k m) c)).map fun p=>D.tup [.int p.1,.int p.2]):=by
  rw [←f9,List.map_map];exact eA rfl rfl
 have k3:ev G (kal G (n+1)) (.comp 2 [] (.tp [(.nm 0),(.nm 1)]) (.blt .zip [(.var 3),(.var 4)]) (.lit (.bl true)) (.emit (.bin .mul (.var 0) (.var 1)))) [.val (.int m),.val (tupI g),.val (.int c),.val (.lst (g.map fun k=>D.int (k / aH k m))),.val (tupI (elI (g.map fun k=>aH k m) c))]=some (.lst (((g.map fun k=>k / aH k m).zip (elI (g.map fun k=>aH k m) c)).map fun p=>D.int (p.1*p.2))):=by
  refine bt (g:=fun p:Int×Int=>D.tup [.int p.1,.int p.2]) (by simp only [evI,evA,ev.eq_1,aO,List.getElem?_cons_zero,List.getElem?_cons_succ,hz2]) rfl ?_ fun p hp=>⟨[.val (.int p.1),.val (.int p.2)],rfl,?_⟩
  ·rw [List.length_zip,List.length_map]
   exact Nat.le_trans (Nat.min_le_left ..) hz
  ·have mo:b9 p.1 p.2=true:=by
    obtain ⟨k,hk,e⟩:=List.mem_map.mp (List.of_mem_zip hp).1
    have hk2:=gg.ge k hk
    have hk3:=gg.lt k hk
    have a:=Int.ediv_le_self (aH k m) (show 0<=k by omega)
    have b:=Int.ediv_nonneg (show 0<=k by omega) (Int.le_of_lt (gS (b:=m) hk2))
    exact jE (by omega)
   dsimp? [mo]
 dsimp? [k3]
 unfold fV tupI
 rw [List.map_map]
 rfl
end
section
variable {G:Prg} {C CM NL CE:Addr} {n:Nat}
theorem Ai {key:Str} {g x:List Int} {is:List (List Int)} (hd:G.defs key=some (none,L.led)) (h1:G.defs "_law_sum"=some (none,L.sum)) (f1:G.fn "_law_sum"=some ("_law_sum":Str)) (h2:G.defs "_law_many"=some (none,L.eV)) (f2:G.fn "_law_many"=some ("_law_many":Str)) (gg:Good g) (e:Els g is):
  kal G (n+2) key [tupI g,.lst (is.map tupI),tupI x]=some (.ok (tupI (bX g is x))):=by
 refine aC hd ⟨rfl,rfl⟩ (ρ0:=[.val (tupI g),.val (.lst (is.map tupI)),.val (tupI x),.nil,.nil,.nil]) rfl ?_
 have k1:ev G (kal G (n+1)) (.comp 1 [] (.nm 0) (.var 0) (.lit (.bl true)) (.emit (.lit (.int 0)))) [.val (tupI g),.val (.lst (is.map tupI)),.val (tupI x),.nil,.nil,.nil]=some (.lst (g.map fun _=>D.int 0)):=
  bt (g:=D.int) rfl rfl (Nat.le_trans gg.aS (by decide)) fun k _=>⟨[.val (.int k)],rfl,rfl⟩
 have e1:D.tup (g.map fun _=>D.int 0)=tupI (List.replicate g.length 0):=by
  unfold tupI
  simp
  exact List.map_const' ..
 refine st (ρ':=[.val (tupI g),.val (.lst (is.map tupI)),.val (tupI x),.val (tupI (List.replicate g.length 0)),.nil,.nil]) (by dsimp? [k1,e1]) ?_
 refine st (ρ':=[.val (tupI g),.val (.lst (is.map tupI)),.val (tupI x),.val (tupI (List.replicate g.length 0)),.any,.any]) (by rfl) ?_
 have hz:bz .zip [tupI x,.lst (is.map tupI)]=some ((x.zip is).map fun p=>D.tup [.int p.1,tupI p.2]):=by rw [←mj];exact eA rfl rfl
 refine st (gM (g:=fun p:Int×List Int=>D.tup [.int p.1,tupI p.2]) (fun done=>[.val (tupI g),.val (.lst (is.map tupI)),.val (tupI x),.val (tupI (cW g (done.map fun p=>aE g p.1 p.2))),.any,.any]) (x.zip is) (by simp only [evI,evA,ev.eq_1,aO,af,aI,List.modify_zero_cons,List.modify_succ_cons,List.getElem?_cons_zero,List.getElem?_cons_succ,hz]) rfl fun done p rest ee=>?_) (az ?_)
 ·have hp:p∈x.zip is:=by rw [ee];simp
  have m1:=mC (n:=n) (m:=p.1) h2 gg (e _ (List.of_mem_zip hp).2)
  have m2:=lM (n:=n) (x:=cW g (done.map fun p=>aE g p.1 p.2)) (y:=aE g p.1 p.2) h1 gg
  refine ⟨[.val (tupI g),.val (.lst (is.map tupI)),.val (tupI x),.val (tupI (cW g (done.map fun p=>aE g p.1 p.2))),.val (.int p.1),.val (tupI p.2)],rfl,?_⟩
  rw [List.map_append,List.map_cons,List.map_nil,kl]
  dsimp? [f1,f2,m1,m2]
 ·dsimp? [f1]
  rfl
theorem AQ {key:Str} {ns f d:List Int} (A:GA G C) (hd:G.defs key=some (none,L.is)) (hw:G.defs "_law_whole"=some (none,L.whole)) (fw:G.fn "_law_whole"=some ("_law_whole":Str)) (hl:f.length=ns.length) (hk:f.length<=1000):kal G (n+2) key [tupI ns,tupI f,tupI d]=some (.ok (.bl (decide (f=d)))):=by
 refine aC hd ⟨rfl,rfl⟩ (ρ0:=[.val (tupI ns),.val (tupI f),.val (tupI d)]) rfl ?_
 have h2:=A.lF
 have h3:cj G (tupI f) (.ty "tuple")=some true:=A.kit "tuple" (by decide) "tuple" (by decide)
 have h4:aL (tupI f)=some (f.map .int):=rfl
 have h5:aL (tupI ns)=some (ns.map .int):=rfl
 have l1:(f.map D.int).length=f.length:=by simp
 have l2:(ns.map D.int).length=ns.length:=by simp
 have l3:decide ((f.length:Int)=(ns.length:Int))=true:=decide_eq_true (by omega)
 have key:ev G (kal G (n+1)) (.comp 1 [] (.nm 0) (.var 1) (.lit (.bl true)) (.emit (.fn "_law_whole" [(.var 0)]))) [.val (tupI ns),.val (tupI f),.val (tupI d)]=some (.lst ((f.map fun _=>true).map .bl)):=by
  rw [List.map_map]
  refine bt (g:=D.int) rfl rfl (Nat.le_trans hk (by decide)) fun p hp=>⟨[.val (.int p)],rfl,?_⟩
  have e2:=nq (i:=p) (n:=n) A hw
  dsimp? [fw,e2]
  rfl
 have hb:=bW (f.map fun _=>true)
 have ha:(f.map fun _=>true).all id=true:=by simp
 have h6:=ji f d
 dsimp? [L.is,h2,h3,h4,h5,l1,l2,l3,key,hb,ha,h6]
end
section
variable {G:Prg} {C CM NL CE:Addr} {n:Nat}
structure LM0 (G:Prg):Prop where
 spr:G.defs "_law_spread"=some (none,L.spread)
 tq:G.fn "_law_spread"=some ("_law_spread":Str)
 grp:G.defs "_law_group"=some (none,L.group)
 Cq:G.fn "_law_group"=some ("_law_group":Str)
 img:G.defs "_law_image"=some (none,L.image)
 oG:G.fn "_law_image"=some ("_law_image":Str)
 div:G.defs "_law_divisor"=some (none,L.gcd)
 fdiv:G.fn "_law_divisor"=some ("_law_divisor":Str)
 dr:G.defs "_law_drawn"=some (none,L.element)
 fdr:G.fn "_law_drawn"=some ("_law_drawn":Str)
 sum:G.defs "_law_sum"=some (none,L.sum)
 fsum:G.fn "_law_sum"=some ("_law_sum":Str)
 man:G.defs "_law_many"=some (none,L.eV)
 zr:G.fn "_law_many"=some ("_law_many":Str)
 led:G.defs "_law_led"=some (none,L.led)
 CN:G.fn "_law_led"=some ("_law_led":Str)
 isl:G.defs "_law_is"=some (none,L.is)
 BM:G.fn "_law_is"=some ("_law_is":Str)
 whole:G.defs "_law_whole"=some (none,L.whole)
 iL:G.fn "_law_whole"=some ("_law_whole":Str)
theorem ko:∀ns∈dC,Good ns:=by
 intro ns h
 simp only [dC,List.mem_cons,List.not_mem_nil,or_false] at h
 rcases h with rfl|rfl|rfl|rfl|rfl|rfl|rfl|rfl|rfl|rfl|rfl|rfl|rfl|rfl<;>exact ⟨by decide,by decide,by decide,by decide⟩
noncomputable def lR (a b:List Int) (cf:Nat->Int):List (List Int):=a.zipIdx.map fun p=>fV p.1 b (cf p.2)
theorem yv {a b:List Int} (gb:Ge2 b) (cf:Nat->Int):Im a b (lR a b cf):=by
 have go:∀(a:List Int) (k:Nat),Im a b ((a.zipIdx k).map fun p=>fV p.1 b (cf p.2)):=by
  intro a
  induction a with
  |nil=>intro k;exact Im.nil
  |cons m a ih=>
   intro k
   rw [List.zipIdx_cons,List.map_cons]
   exact Im.cons (lC gb).1 (lC gb).2 (ih (k+1))
 exact go a 0
end
end PL
open PySem IN CT
noncomputable def L.has:IN.Def:={slots:=2,au:=2,body:=[
(.ife (.or (.nt (.blt .isin [(.var 1),(.gl "tuple")])) (.cmp .ne (.blt .len [(.var 1)]) (.blt .len [(.var 0)]))) [1,0] [(.ret (.lit (.bl false)) [])] []),
(.ret (.blt .all [(.comp 2 [] (.tp [(.nm 0),(.nm 1)]) (.blt .zip [(.var 1),(.var 0)]) (.lit (.bl true)) (.emit (.and (.fn "_law_whole" [(.var 0)]) (.chn (.lit (.int 0)) (.var 0) (.var 1)))))]) [1,0])]}
noncomputable def L.dy:IN.Def:={slots:=7,au:=3,body:=[
(.asg (.nm 3) (.bin .mod (.var 0) (.lit (.int 4))) [0]),
(.asg (.nm 4) (.bin .mod (.bin .fdiv (.var 0) (.lit (.int 4))) (.blt .max [(.lit (.int 1)),(.blt .len [(.var 2)])])) [0,2]),
(.asg (.nm 5) (.fn "_law_drawn" [(.var 1),(.bin .fdiv (.var 0) (.lit (.int 40)))]) [1,0]),
(.ife (.cmp .eq (.var 3) (.lit (.int 0))) [3] [(.ret (.bin .add (.sl (.var 2) .nop (.var 4)) (.sl (.var 2) (.bin .add (.var 4) (.lit (.int 1))) .nop)) [2,4])] []),
(.ife (.cmp .eq (.var 3) (.lit (.int 1))) [3] [(.ret (.bin .add (.var 2) (.lst [(.ix (.lst [(.var 5),(.lit .non),(.lit (.str "x"))]) (.bin .mod (.bin .fdiv (.var 0) (.lit (.int 400))) (.lit (.int 3))))])) [2,5,0])] []),
(.ife (.and (.cmp .eq (.var 3) (.lit (.int 2))) (.cmp .gt (.blt .len [(.var 2)]) (.lit (.int 0)))) [3,2] [(.asg (.nm 6) (.lst [(.lit .non),(.lit (.int 3)),(.blt .list [(.var 5)]),(.bin .add (.var 5) (.tup [(.lit (.int 0))])),(.blt .tuple [(.comp 1 [] (.nm 0) (.var 1) (.lit (.bl true)) (.emit (.neg (.lit (.int 1)))))]),(.bin .mul (.tup [(.lit (.bl true))]) (.blt .len [(.var 1)])),(.lit (.str "0"))]) [5,1]),(.ife (.fn "_law_has" [(.var 1),(.ix (.var 2) (.var 4))]) [1,2,4] [(.asg (.nm 6) (.bin .add (.var 6) (.lst [(.blt .list [(.ix (.var 2) (.var 4))]),(.blt .tuple [(.comp 2 [] (.tp [(.nm 0),(.nm 1)]) (.blt .zip [(.ix (.var 2) (.var 4)),(.var 1)]) (.lit (.bl true)) (.emit (.bin .add (.var 0) (.var 1))))])])) [6,2,4,1]),(.asg (.nm 6) (.bin .add (.var 6) (.lst [(.blt .tuple [(.comp 1 [] (.nm 0) (.ix (.var 2) (.var 4)) (.lit (.bl true)) (.emit (.ix (.lst [(.var 0),(.cmp .eq (.var 0) (.lit (.int 1)))]) (.blt .int [(.cmp .lt (.var 0) (.lit (.int 2)))]))))])])) [6,2,4])] []),(.ret (.bin .add (.bin .add (.sl (.var 2) .nop (.var 4)) (.lst [(.ix (.var 6) (.bin .mod (.bin .fdiv (.var 0) (.lit (.int 400))) (.blt .len [(.var 6)])))])) (.sl (.var 2) (.bin .add (.var 4) (.lit (.int 1))) .nop)) [0,6,2,4])] []),
(.ife (.cmp .gt (.blt .len [(.var 2)]) (.lit (.int 0))) [2] [(.ret (.bin .add (.bin .add (.sl (.var 2) .nop (.var 4)) (.lst [(.var 5)])) (.sl (.var 2) (.bin .add (.var 4) (.lit (.int 1))) .nop)) [5,2,4])] []),
(.ret (.var 2) [2])]}
noncomputable def L.fault:IN.Def:={slots:=6,au:=3,body:=[
(.asg (.nm 3) (.blt .tuple [(.comp 1 [] (.nm 0) (.var 1) (.lit (.bl true)) (.emit (.lit (.int 0))))]) [1]),
(.fgt [4,5]),
(.for (.tp [(.nm 4),(.nm 5)]) (.blt .enum [(.var 0)]) [0] [(.ife (.or (.cmp .ge (.var 4) (.blt .len [(.var 2)])) (.nt (.fn "_law_has" [(.var 1),(.ix (.var 2) (.var 4))]))) [1,2,4] [(.ret (.var 4) [4])] []),(.ife (.cmp .ne (.fn "_law_many" [(.var 1),(.var 5),(.ix (.var 2) (.var 4))]) (.var 3)) [1,5,2,4,3] [(.ret (.var 4) [4])] []),(.fgt [4,5])]),
(.ife (.cmp .gt (.blt .len [(.var 2)]) (.blt .len [(.var 0)])) [2,0] [(.ret (.blt .len [(.var 0)]) [0])] []),
(.ret (.lit .non) [])]}
noncomputable def L.dI:IN.Def:={slots:=6,au:=4,body:=[
(.asg (.nm 4) (.lit .non) []),
(.try [(.exp (.fn "Map" [(.fn "Rounds" [(.var 0)]),(.fn "Rounds" [(.var 1)]),(.var 2)]) [0,1,2])] "CarryError" 5 [(.asg (.nm 4) (.var 5) [5])]),
(.ife (.or (.isN (.var 4)) (.cmp .ne (.fn "_law_kinds" [(.var 4)]) (.fn "_law_class" [(.lit (.str "NoMap"))]))) [4] [(.ret (.lit (.bl false)) [])] []),
(.ret (.and (.fn "_law_whole" [(.fld (.var 4) "head")]) (.cmp .eq (.fld (.var 4) "head") (.var 3))) [4,3])]}
noncomputable def L.d7:IN.Def:={slots:=4,au:=2,body:=[
(.asg (.nm 2) (.lit .non) []),
(.try [(.exp (.mth (.var 0) "led" [(.var 1)]) [0,1])] "CarryError" 3 [(.asg (.nm 2) (.var 3) [3])]),
(.ret (.and (.jj (.var 2)) (.cmp .eq (.fn "_law_kinds" [(.var 2)]) (.fn "_law_class" [(.lit (.str "NoElement"))]))) [2])]}
noncomputable def L.jD:IN.Def:={slots:=12,au:=1,body:=[
(.asg (.nm 1) (.fn "_law_group" [(.fn "_law_spread" [(.var 0),(.lit (.int 0))])]) [0]),
(.asg (.nm 2) (.fn "_law_group" [(.fn "_law_spread" [(.var 0),(.lit (.int 1))])]) [0]),
(.asg (.nm 4) (.comp 2 [2,0] (.tp [(.nm 0),(.nm 1)]) (.blt .enum [(.var 1)]) (.lit (.bl true)) (.emit (.fn "_law_image" [(.var 1),(.var 2),(.fn "_law_spread" [(.var 3),(.bin .add (.lit (.int 10)) (.var 0))])]))) [2,0,1]),
(.for (.nm 3) (.blt .range [(.blt .max [(.lit (.int 0)),(.bin .sub (.bin .mod (.fn "_law_spread" [(.var 0),(.lit (.int 2))]) (.lit (.int 4))) (.lit (.int 1)))])]) [0] [(.asg (.nm 4) (.fn "_law_spoilt" [(.fn "_law_spread" [(.var 0),(.bin .add (.lit (.int 20)) (.var 3))]),(.var 2),(.var 4)]) [0,3,2,4])]),
(.asg (.nm 5) (.blt .list [(.var 4)]) [4]),
(.asg (.nm 6) (.fn "_law_fault" [(.var 1),(.var 2),(.var 4)]) [1,2,4]),
(.ife (.jj (.var 6)) [6] [(.ret (.and (.fn "_law_refused" [(.var 1),(.var 2),(.var 5),(.var 6)]) (.cmp .eq (.blt .len [(.var 5)]) (.blt .len [(.var 4)]))) [1,2,6,5,4])] []),
(.asg (.nm 7) (.fn "Map" [(.fn "Rounds" [(.var 1)]),(.fn "Rounds" [(.var 2)]),(.var 5)]) [1,2,5]),
(.ife (.or (.cmp .ne (.var 5) (.var 4)) (.or (.cmp .ne (.fld (.fld (.var 7) "source") "rounds") (.var 1)) (.cmp .ne (.fld (.fld (.var 7) "goal") "rounds") (.var 2)))) [5,4,1,7,2] [(.ret (.lit (.bl false)) [])] []),
(.app 5 (.tup []) []),
(.put 5 (.lit (.int 0)) (.lit .non) []),
(.fgt [8,9]),
(.for (.nm 3) (.blt .range [(.lit (.int 50))]) [] [(.asg (.nm 8) (.fn "_law_drawn" [(.var 1),(.fn "_law_spread" [(.var 0),(.bin .add (.lit (.int 30)) (.var 3))])]) [1,0,3]),(.asg (.nm 9) (.fn "_law_drawn" [(.var 1),(.fn "_law_spread" [(.var 0),(.bin .add (.lit (.int 90)) (.var 3))])]) [1,0,3]),(.ife (.nt (.fn "_law_is" [(.var 2),(.mth (.var 7) "led" [(.var 8)]),(.fn "_law_led" [(.var 2),(.var 4),(.var 8)])])) [7,2,4,8] [(.ret (.lit (.bl false)) [])] []),(.ife (.cmp .ne (.fn "_law_sum" [(.var 2),(.mth (.var 7) "led" [(.var 8)]),(.mth (.var 7) "led" [(.var 9)])]) (.mth (.var 7) "led" [(.fn "_law_sum" [(.var 1),(.var 8),(.var 9)])])) [2,7,1,8,9] [(.ret (.lit (.bl false)) [])] []),(.fgt [8,9])]),
(.asg (.nm 10) (.ix (.lst [(.lit .non),(.bin .add (.var 1) (.tup [(.lit (.int 0))])),(.blt .list [(.var 1)]),(.bin .add (.blt .tuple [(.var 1)]) (.tup [(.lit (.bl true))])),(.lit (.int 4))]) (.bin .mod (.fn "_law_spread" [(.var 0),(.lit (.int 3))]) (.lit (.int 5)))) [1,0]),
(.asg (.nm 11) (.bin .mul (.tup [(.lit (.bl false))]) (.blt .len [(.var 1)])) [1]),
(.ife (.and (.cmp .gt (.blt .len [(.var 1)]) (.lit (.int 0))) (.nt (.and (.fn "_law_no_element" [(.var 7),(.var 11)]) (.fn "_law_no_element" [(.var 7),(.blt .tuple [(.var 1)])])))) [11,7,1] [(.ret (.lit (.bl false)) [])] []),
(.ret (.and (.fn "_law_no_element" [(.var 7),(.var 10)]) (.and (.cmp .eq (.fld (.fld (.var 7) "source") "rounds") (.var 1)) (.cmp .eq (.fld (.fld (.var 7) "goal") "rounds") (.var 2)))) [10,1,7,2])]}
namespace PL
open PySem PySem.Spec L2 CT IN
open PyProof.Rows hiding St
local macro_rules|`(tactic|dsimp? [$ls,*])=>do
 let m<-("lh bK mH me lu i7 aa.eq_1 aa.eq_2 aa.eq_3 aa.eq_4 aa.eq_5 aa.eq_6 aa.eq_7 aa.eq_8 aa.eq_9 aa.eq_10 aa.eq_11 aa.eq_12 aa.eq_13 aa.eq_16 aa.eq_18 aa.eq_19 evV ev.eq_1 ev.eq_2 ev.eq_3 ev.eq_4 ev.eq_5 ev.eq_6 ev.eq_7 ev.eq_8 ev.eq_9 ev.eq_10 ev.eq_11 ev.eq_12 ev.eq_13 ev.eq_14 ev.eq_15 ev.eq_16 ev.eq_17 ev.eq_18 ev.eq_19 ev.eq_20 ev.eq_21 ev.eq_23 evA evT evI evB aO af aI List.modify_zero_cons List.modify_succ_cons List.modify_nil kp jI jO jQ jy ef dU ai aQ fH List.set_cons_zero List.set_cons_succ List.set_nil List.getElem?_cons_zero List.getElem?_cons_succ List.length_cons List.length_nil Nat.reduceAdd Nat.reduceLT Nat.reduceSub Nat.reduceLeDiff Nat.zero_add Nat.zero_lt_succ if_true if_false Bool.not_true Bool.not_false Bool.true_and Bool.false_and Bool.and_true Bool.and_false Bool.true_or Bool.false_or Bool.or_true Bool.or_false and_self true_and and_true Bool.false_eq_true d6 oq pd oH o9 pJ oN eW gQ oS oY pI gP kX cJ fnR Rs.val Ow.D eR cy List.replicate List.cons_append List.nil_append List.map_cons List.map_nil slD asI la kP kQ kY i5 kO lg k8 lb iT i_ Option.map_some decide_true decide_false List.all_cons List.all_nil tks dH List.append_nil reduceCtorEq ite_self".splitOn " ").toArray.mapM fun s=>`(Lean.Parser.Tactic.simpLemma|$(Lean.mkIdent s.toName):ident)
 let a:=(ls.getElems.map fun x=>(.mk x.raw:Lean.TSyntax `Lean.Parser.Tactic.simpLemma))++m
 `(tactic|simp only [$a,*])
section
variable {G:Prg} {C CM NL CE:Addr} {n:Nat}
noncomputable def isIt:D->Bool
 |.int _=>true|.bl _=>true|_=>false
noncomputable def bL:D->Bool
 |.non=>true|.int _=>true|.str _=>true|.lst _=>true
 |.tup xs=>xs.all isIt&&decide (xs.length<=1000)
 |_=>false
noncomputable def itW:D->Bool
 |.int _=>true|_=>false
noncomputable def itB (d:D) (m:Int):Bool:=match d with
 |.int k=>decide (0<=k)&&decide (k<m)|_=>false
noncomputable def bu (ns:List Int):D->Bool
 |.tup xs=>decide (xs.length=ns.length)&&((xs.zip ns).map fun p=>itB p.1 p.2).all id
 |_=>false
theorem iX (A:GA G C) {x c:String} (hx:x∈fA) (hc:c∈fB) (e:dz x c=false):G.kit (.ty x) (.ty c)=some false:=by rw [A.kit x hx c hc,e]
theorem gL (A:GA G C) {x c:String} (hx:x∈fA) (hc:c∈fB) (e:dz x c=true):G.kit (.ty x) (.ty c)=some true:=by rw [A.kit x hx c hc,e]
theorem xX {d:D} (A:GA G C) (h:isIt d=true):kal G (n+1) "is_whole" [d]=some (.ok (.bl (itW d))):=by
 cases d with
 |int i=>exact oR A
 |bl b=>
  have h1:=gL A (x:="bool") (c:="int") (by decide) (by decide) (by decide)
  have h2:=gL A (x:="bool") (c:="bool") (by decide) (by decide) (by decide)
  have h3:=A.oP
  have h4:=A.kT
  refine aC A.isw ⟨rfl,rfl⟩ (ρ0:=[.val (.bl b)]) rfl (az ?_)
  dsimp? [h1,h2,h3,h4]
  rfl
 |_=>cases h
theorem tE {key:Str} {d:D} (A:GA G C) (hd:G.defs key=some (none,L.whole)) (h:isIt d=true):kal G (n+1) key [d]=some (.ok (.bl (itW d))):=by
 have h3:=A.oP
 have h4:=A.kT
 refine aC hd ⟨rfl,rfl⟩ (ρ0:=[.val d]) rfl (az ?_)
 cases d with
 |int i=>
  have h1:=gL A (x:="int") (c:="int") (by decide) (by decide) (by decide)
  have h2:=iX A (x:="int") (c:="bool") (by decide) (by decide) (by decide)
  dsimp? [h1,h2,h3,h4]
  rfl
 |bl b=>
  have h1:=gL A (x:="bool") (c:="int") (by decide) (by decide) (by decide)
  have h2:=gL A (x:="bool") (c:="bool") (by decide) (by decide) (by decide)
  dsimp? [h1,h2,h3,h4]
  rfl
 |_=>cases h
theorem mK:∀(xs:List D) (ns:List Int),a_ xs (ns.map .int)=(xs.zip ns).map fun p=>D.tup [p.1,.int p.2]
 |[],_=>by simp [a_]
 |_::_,[]=>by simp [a_]
 |a::xs,b::ns=>by
  have:=mK xs ns
  simp only [List.map_cons,List.zip_cons_cons,a_,this]
noncomputable def dF:D->Bool
 |.tup _=>true|_=>false
theorem qL {d:D} (A:GA G C) (h:bL d=true):cj G d (.ty "tuple")=some (dF d):=by
 cases d with
 |non=>exact iX A (by decide) (by decide) (by decide)
 |int i=>exact iX A (by decide) (by decide) (by decide)
 |str i=>exact iX A (by decide) (by decide) (by decide)
 |lst i=>exact iX A (by decide) (by decide) (by decide)
 |tup i=>exact gL A (by decide) (by decide) (by decide)
 |_=>cases h
theorem l5 {xs:List D} (h:bL (.tup xs)=true):(∀x∈xs,isIt x=true)∧xs.length<=1000:=by
 obtain ⟨h1,h2⟩:=Bool.and_eq_true_iff.mp (show (xs.all isIt&&decide (xs.length<=1000))=true from h)
 exact ⟨List.all_eq_true.mp h1,of_decide_eq_true h2⟩
theorem nB {cl:Str->List D->Option Rs} {f:Str} {d:D} {m:Int} (hf:G.fn f=some f) (hc:cl f [d]=some (.ok (.bl (itW d)))):ev G cl (.and (.fn f [(.var 0)]) (.chn (.lit (.int 0)) (.var 0) (.var 1))) [.val d,.val (.int m)]=some (.bl (itB d m)):=by
 cases d with
 |int k=>dsimp? [hf,hc,itW];rfl
 |_=>dsimp? [hf,hc,itW];rfl
theorem Ay {ns:List Int} {d:D} (A:GA G C) (hd:G.defs "Rounds.has"=some (none,P.cH)) (g:Good ns) (ht:bL d=true):kal G (n+2) "Rounds.has" [grp C ns,d]=some (.ok (.bl (bu ns d))):=by
 refine aC hd ⟨rfl,rfl⟩ (ρ0:=[.val (grp C ns),.val d]) rfl ?_
 have h2:=A.lF
 have h3:=qL (d:=d) A ht
 have hf:=fL (ns:=ns) A
 cases d with
 |tup xs=>
  obtain ⟨hi,hl⟩:=l5 ht
  have l1:(ns.map D.int).length=ns.length:=by simp
  by_cases e:xs.length=ns.length
  ·have h5:decide ((xs.length:Int)=(ns.length:Int))=true:=by rw [e];simp
   refine st (ρ':=[.val (grp C ns),.val (.tup xs)]) (by dsimp? [hf,h2,h3,dF,l1,h5]) (az ?_)
   have key:ev G (kal G (n+1)) (.comp 2 [] (.tp [(.nm 0),(.nm 1)]) (.blt .zip [(.var 1),(.fld (.var 0) "rounds")]) (.lit (.bl true)) (.emit (.and (.fn "is_whole" [(.var 0)]) (.chn (.lit (.int 0)) (.var 0) (.var 1))))) [.val (grp C ns),.val (.tup xs)]=some (.lst (((xs.zip ns).map fun p=>itB p.1 p.2).map .bl)):=by
    rw [List.map_map]
    have hz:bz .zip [.tup xs,tupI ns]=some ((xs.zip ns).map fun p=>D.tup [p.1,.int p.2]):=by rw [←mK];exact eA rfl rfl
    refine bt (g:=fun p:D×Int=>.tup [p.1,.int p.2]) (by simp only [evI,evA,ev.eq_1,ev.eq_18,aO,List.getElem?_cons_zero,List.getElem?_cons_succ,hf,hz]) rfl ?_ fun p hp=>⟨[.val p.1,.val (.int p.2)],rfl,?_⟩
    ·rw [List.length_zip]
     exact Nat.le_trans (show _<=1000 by omega) (by decide)
    ·exact nB A.tj (xX A (hi _ (List.of_mem_zip hp).1))
   have hb:=bW ((xs.zip ns).map fun p=>itB p.1 p.2)
   have e7:bu ns (.tup xs)=((xs.zip ns).map fun p=>itB p.1 p.2).all id:=by
    show (decide (xs.length=ns.length)&&_)=_
    rw [decide_eq_true e];rfl
   rw [e7]
   dsimp? [key,hb]
  ·have h5:decide ((xs.length:Int)=(ns.length:Int))=false:=decide_eq_false (by omega)
   have e7:bu ns (.tup xs)=false:=by
    show (decide (xs.length=ns.length)&&_)=_
    rw [decide_eq_false e];rfl
   rw [e7]
   exact az (by dsimp? [hf,h2,h3,dF,l1,h5])
 |non=>exact az (by dsimp? [hf,h2,h3,dF];rfl)
 |int i=>exact az (by dsimp? [hf,h2,h3,dF];rfl)
 |str i=>exact az (by dsimp? [hf,h2,h3,dF];rfl)
 |lst i=>exact az (by dsimp? [hf,h2,h3,dF];rfl)
 |_=>cases ht
theorem qg {key:Str} {ns:List Int} {d:D} (A:GA G C) (hd:G.defs key=some (none,L.has)) (hw:G.defs "_law_whole"=some (none,L.whole)) (fw:G.fn "_law_whole"=some ("_law_whole":Str)) (g:Good ns) (ht:bL d=true):kal G (n+2) key [tupI ns,d]=some (.ok (.bl (bu ns d))):=by
 refine aC hd ⟨rfl,rfl⟩ (ρ0:=[.val (tupI ns),.val d]) rfl ?_
 have h2:=A.lF
 have h3:=qL (d:=d) A ht
 cases d with
 |tup xs=>
  obtain ⟨hi,hl⟩:=l5 ht
  have l1:(ns.map D.int).length=ns.length:=by simp
  by_cases e:xs.length=ns.length
  ·have h5:decide ((xs.length:Int)=(ns.length:Int))=true:=by rw [e];simp
   refine st (ρ':=[.val (tupI ns),.val (.tup xs)]) (by dsimp? [h2,h3,dF,l1,h5]) (az ?_)
   have key:ev G (kal G (n+1)) (.comp 2 [] (.tp [(.nm 0),(.nm 1)]) (.blt .zip [(.var 1),(.var 0)]) (.lit (.bl true)) (.emit (.and (.fn "_law_whole" [(.var 0)]) (.chn (.lit (.int 0)) (.var 0) (.var 1))))) [.val (tupI ns),.val (.tup xs)]=some (.lst (((xs.zip ns).map fun p=>itB p.1 p.2).map .bl)):=by
    rw [List.map_map]
    have hz:bz .zip [.tup xs,tupI ns]=some ((xs.zip ns).map fun p=>D.tup [p.1,.int p.2]):=by rw [←mK];exact eA rfl rfl
    refine bt (g:=fun p:D×Int=>.tup [p.1,.int p.2]) (by simp only [evI,evA,ev.eq_1,aO,List.getElem?_cons_zero,List.getElem?_cons_succ,hz]) rfl ?_ fun p hp=>⟨[.val p.1,.val (.int p.2)],rfl,?_⟩
    ·rw [List.length_zip]
     exact Nat.le_trans (show _<=1000 by omega) (by decide)
    ·exact nB fw (tE A hw (hi _ (List.of_mem_zip hp).1))
   have hb:=bW ((xs.zip ns).map fun p=>itB p.1 p.2)
   have e7:bu ns (.tup xs)=((xs.zip ns).map fun p=>itB p.1 p.2).all id:=by
    show (decide (xs.length=ns.length)&&_)=_
    rw [decide_eq_true e];rfl
   rw [e7]
   dsimp? [key,hb]
  ·have h5:decide ((xs.length:Int)=(ns.length:Int))=false:=decide_eq_false (by omega)
   have e7:bu ns (.tup xs)=false:=by
    show (decide (xs.length=ns.length)&&_)=_
    rw [decide_eq_false e];rfl
   rw [e7]
   exact az (by dsimp? [h2,h3,dF,l1,h5])
 |non=>exact az (by dsimp? [h2,h3,dF];rfl)
 |int i=>exact az (by dsimp? [h2,h3,dF];rfl)
 |str i=>exact az (by dsimp? [h2,h3,dF];rfl)
 |lst i=>exact az (by dsimp? [h2,h3,dF];rfl)
 |_=>cases ht
theorem nj:∀{xs:List D} {ns:List Int},xs.length=ns.length->((xs.zip ns).map fun p=>itB p.1 p.2).all id=true->∃x,xs=x.map .int∧El ns x
 |[],[],_,_=>⟨[],rfl,El.nil⟩
 |[],_::_,h,_=>by cases h
 |_::_,[],h,_=>by cases h
 |d::xs,m::ns,h,h2=>by
  simp only [List.zip_cons_cons,List.map_cons,List.all_cons,Bool.and_eq_true] at h2
  obtain ⟨x,rfl,e⟩:=nj (xs:=xs) (ns:=ns) (by simpa using h) h2.2
  cases d with
  |int k=>
   have h3:(decide (0<=k)&&decide (k<m))=true:=h2.1
   simp only [Bool.and_eq_true,decide_eq_true_eq] at h3
   exact ⟨k::x,rfl,El.cons h3.1 h3.2 e⟩
  |_=>cases h2.1
theorem iR {ns:List Int} {d:D} (h:bu ns d=true):∃x,d=tupI x∧El ns x:=by
 cases d with
 |tup xs=>
  obtain ⟨h1,h2⟩:=Bool.and_eq_true_iff.mp (show (decide (xs.length=ns.length)&&_)=true from h)
  obtain ⟨x,rfl,e⟩:=nj (of_decide_eq_true h1) h2
  exact ⟨x,rfl,e⟩
 |_=>cases h
theorem eS {x:List Int} (h:x.length<=1000):bL (tupI x)=true:=by
 show ((x.map D.int).all isIt&&decide ((x.map D.int).length<=1000))=true
 rw [List.length_map,decide_eq_true h,Bool.and_true,List.all_map]
 exact List.all_eq_true.mpr fun _ _=>rfl
end
section
variable {G:Prg} {C CM NM CE:Addr} {n:Nat}
noncomputable def xsI:D->List Int
 |.tup xs=>xs.map fun d=>match d with|.int k=>k|_=>0
 |_=>[]
theorem jk (x:List Int):xsI (tupI x)=x:=by
 show (x.map D.int).map _=x
 rw [List.map_map]
 exact List.map_id' x
noncomputable def okB (g:List Int) (m:Int) (d:D):Bool:=bu g d&&decide (aE g m (xsI d)=List.replicate g.length 0)
noncomputable def bZ (g:List Int) (ds:List D) (p:Int×Nat):Bool:=match ds[p.2]? with
 |some d=>okB g p.1 d
 |none=>false
noncomputable def eQ (g s:List Int) (ds:List D):Option (Int×Nat):=s.zipIdx.find? fun p=>!bZ g ds p
theorem find_some {α β:Type} {ok:α->Bool} {F:α->β}:∀l:List α,(l.findSome? fun p=>if ok p then none else some (F p))=(l.find? fun p=>!ok p).map F
 |[]=>rfl
 |a::l=>by
  rw [List.findSome?_cons,List.find?_cons]
  cases h:ok a with
  |true=>exact find_some l
  |false=>rfl
theorem rK {ns:List Int} {d:D} (M:GM G C) (g:Good ns) (ht:bL d=true):bw G (kal G (n+2)) (grp C ns) "has" [d]=some (.ok (.bl (bu ns d))):=eT rfl M.uc (Ay M.A M.has g ht)
theorem pz {ns:List Int} {d:D} {m:Int} (M:GP G C CM) (g:Good ns) (ht:bL d=true) (hm:0<=m):kal G (n+5) "is_image" [grp C ns,.int m,d]=some (.ok (.bl (okB ns m d))):=by
 cases hh:bu ns d with
 |true=>
  obtain ⟨x,rfl,e⟩:=iR hh
  have e1:okB ns m (tupI x)=decide (aE ns m x=List.replicate ns.length 0):=by unfold okB;rw [hh,jk];rfl
  rw [e1]
  exact kb M g e hm
 |false=>
  refine aC M.isi ⟨rfl,rfl⟩ (ρ0:=[.val (grp C ns),.val (.int m),.val d]) rfl ?_
  have h1:=rK (n:=n+2) M.toGM g ht
  have e1:okB ns m d=false:=by unfold okB;rw [hh];rfl
  rw [e1]
  rw [hh] at h1
  dsimp? [P.eB,h1]
theorem sF {ds:List D} {i:Nat} {d:D} (h:ds[i]?=some d):atI ds (i:Int)=some d:=by
 have hi:=(List.getElem?_eq_some_iff.mp h).1
 have e:ixN ds.length (i:Int)=some i:=by
  unfold ixN
  rw [if_pos (Int.natCast_nonneg i),if_pos (by omega)]
  rfl
 unfold atI
 rw [e]
 exact h
theorem wc {s g:List Int} {ds:List D} (M:GP G C CM) (gs:Good s) (gg:Good g) (ht:∀d∈ds,bL d=true) (hx:G.exc "NoMap"=some (NM,[("head":Str)])):
  kal G (n+6) "need_images" [grp C s,grp C g,.lst ds]=some (match eQ g s ds with
   |some p=>.xc (.exc NM [(("head":Str),.int (p.2:Int))])
   |none=>if s.length<ds.length then .xc (.exc NM [(("head":Str),.int (s.length:Int))]) else .ok .non):=by
 have hf:=fL (ns:=s) M.A
 have ln2:(s.map D.int).length=s.length:=by simp
 have sq:aL (tupI s)=some (s.map .int):=rfl
 have k1:(1:Nat)<=1000:=by decide
 have hb:bz .enum [tupI s]=some (s.zipIdx.map fun p=>D.tup [.int (p.2:Int),.int p.1]):=by rw [←eX];rfl
 have hq:=rh (G:=G) (cl:=kal G (n+5)) (ρ:=[.val (grp C s),.val (grp C g),.val (.lst ds),.any,.any]) (t:=.tp [(.nm 3),(.nm 4)]) (it:=.blt .enum [(.fld (.var 0) "rounds")]) (L:=[0])
  (b:=[(.ife (.or (.cmp .ge (.var 3) (.blt .len [(.var 2)])) (.nt (.fn "is_image" [(.var 1),(.var 4),(.ix (.var 2) (.var 3))]))) [1,4,2,3] [(.rse "NoMap" [(.var 3)] [3])] []),(.fgt [3,4])])
  (g:=fun p:Int×Nat=>D.tup [.int (p.2:Int),.int p.1])
  (q:=fun p:Int×Nat=>if bZ g ds p then none else some (.xc [.val (grp C s),.val (grp C g),.val (.lst ds),.val (.int (p.2:Int)),.val (.int p.1)] (.exc NM [(("head":Str),.int (p.2:Int))])))
  [.val (grp C s),.val (grp C g),.val (.lst ds),.any,.any] s.zipIdx (by simp only [evI,evA,ev.eq_1,ev.eq_18,aO,af,aI,List.modify_zero_cons,List.getElem?_cons_zero,hf,hb]) rfl
  (fun p hp o ho ρ'=>by
   cases hk:bZ g ds p with
   |true=>simp only [hk,if_true] at ho;cases ho
   |false=>simp only [hk] at ho;cases ho;exact fun z=>nomatch z)
  (fun p hp=>by
   obtain ⟨m,i⟩:=p
   have hi:s[i]?=some m:=List.mk_mem_zipIdx_iff_getElem?.mp hp
   obtain ⟨hi1,hi2⟩:=List.getElem?_eq_some_iff.mp hi
   have hm:2<=m:=gs.ge m (hi2▸List.getElem_mem hi1)
   refine ⟨[.val (grp C s),.val (grp C g),.val (.lst ds),.val (.int (i:Int)),.val (.int m)],rfl,?_⟩
   cases hd:ds[i]? with
   |none=>
    have e0:bZ g ds (m,i)=false:=by unfold bZ;rw [hd]
    have e3:decide ((ds.length:Int)<=(i:Int))=true:=decide_eq_true (by have:=List.getElem?_eq_none_iff.mp hd;omega)
    simp only [e0]
    dsimp? [e3,hx,k1]
    rfl
   |some d=>
    have hdm:d∈ds:=List.mem_of_getElem? hd
    have e0:bZ g ds (m,i)=okB g m d:=by unfold bZ;rw [hd]
    have e3:decide ((ds.length:Int)<=(i:Int))=false:=decide_eq_false (by have:=(List.getElem?_eq_some_iff.mp hd).1;omega)
    have e4:=sF hd
    have e1:=pz (n:=n) M gg (ht d hdm) (m:=m) (by omega)
    have e2:=M.zY
    simp only [e0]
    cases hk:okB g m d with
    |true=>
     rw [hk] at e1
     dsimp? [e1,e2,e3,e4]
     rfl
    |false=>
     rw [hk] at e1
     dsimp? [e1,e2,e3,e4,hx,k1]
     rfl)
 rw [find_some (ok:=bZ g ds)] at hq
 cases hbad:eQ g s ds with
 |some p=>
  unfold eQ at hbad
  rw [hbad] at hq
  refine ja M.ni ⟨rfl,rfl⟩ (ρ0:=[.val (grp C s),.val (grp C g),.val (.lst ds),.nil,.nil]) rfl (ρ:=[.val (grp C s),.val (grp C g),.val (.lst ds),.val (.int (p.2:Int)),.val (.int p.1)]) ?_
  refine st (ρ':=[.val (grp C s),.val (grp C g),.val (.lst ds),.any,.any]) (by rfl) (k_ ?_)
  exact hq
 |none=>
  unfold eQ at hbad
  rw [hbad] at hq
  by_cases hl:s.length<ds.length
  ·simp only [hl,if_true]
   have e3:decide ((s.length:Int)<(ds.length:Int))=true:=decide_eq_true (by omega)
   refine ja M.ni ⟨rfl,rfl⟩ (ρ0:=[.val (grp C s),.val (grp C g),.val (.lst ds),.nil,.nil]) rfl (ρ:=[.val (grp C s),.val (grp C g),.val (.lst ds),.any,.any]) ?_
   refine st (ρ':=[.val (grp C s),.val (grp C g),.val (.lst ds),.any,.any]) (by rfl) (st (ρ':=[.val (grp C s),.val (grp C g),.val (.lst ds),.any,.any]) hq (k_ ?_))
   dsimp? [hf,ln2,sq,e3,hx,k1]
   rfl
  ·simp only [hl,if_false]
   have e3:decide ((s.length:Int)<(ds.length:Int))=false:=decide_eq_false (by omega)
   refine lT M.ni ⟨rfl,rfl⟩ (ρ0:=[.val (grp C s),.val (grp C g),.val (.lst ds),.nil,.nil]) rfl (ρ:=[.val (grp C s),.val (grp C g),.val (.lst ds),.any,.any]) ?_
   refine st (ρ':=[.val (grp C s),.val (grp C g),.val (.lst ds),.any,.any]) (by rfl) (st (ρ':=[.val (grp C s),.val (grp C g),.val (.lst ds),.any,.any]) hq (st ?_ bK))
   dsimp? [hf,ln2,sq,e3]
noncomputable def d_ (g s:List Int) (ds:List D):Option Nat:=match eQ g s ds with
 |some p=>some p.2
 |none=>if s.length<ds.length then some s.length else none
theorem yV {s g:List Int} {ds:List D} {i:Nat} (M:GP G C CM) (gs:Good s) (gg:Good g) (ht:∀d∈ds,bL d=true) (hx:G.exc "NoMap"=some (NM,[("head":Str)])) (hi:d_ g s ds=some i):fnR G (kal G (n+7)) "Map" [grp C s,grp C g,.lst ds]=some (.xc (.exc NM [(("head":Str),.int (i:Int))])):=by
 have h1:=M.fmi.1
 have h2:=M.fmi.2
 have h3:kal G (n+7) "Map.__init__" [grp C s,grp C g,.lst ds]=some (.xc (.exc NM [(("head":Str),.int (i:Int))])):=by
  refine w9 M.mi ⟨rfl,rfl⟩ (ρ0:=[.val (grp C s),.val (grp C g),.val (.lst ds)]) rfl (ρ:=[.new CM 0 0 [],.val (grp C s),.val (grp C g),.val (.lst ds)]) (k_ ?_)
  have h4:=wc (n:=n) M gs gg ht hx
  have h5:=M.fni
  have e:(match eQ g s ds with
   |some p=>Rs.xc (.exc NM [(("head":Str),.int (p.2:Int))])
   |none=>if s.length<ds.length then .xc (.exc NM [(("head":Str),.int (s.length:Int))]) else .ok .non)=.xc (.exc NM [(("head":Str),.int (i:Int))]):=by
   unfold d_ at hi
   cases hb:eQ g s ds with
   |some p=>rw [hb] at hi;cases hi;rfl
   |none=>
    rw [hb] at hi
    dsimp only at hi ⊢
    split at hi
    ·rename_i hl;cases hi;rw [if_pos hl]
    ·cases hi
  rw [e] at h4
  dsimp? [h4,h5]
 simp only [fnR,h1,h2,h3]
theorem Be {s g:List Int} {ds:List D} (h:d_ g s ds=none):∃is,ds=is.map tupI∧Im s g is:=by
 have key:∀(s:List Int) (k:Nat) (ds pre:List D),pre.length=k->((s.zipIdx k).find? fun p=>!bZ g (pre++ds) p)=none->s.length<=ds.length∧(ds.length<=s.length->∃is,ds=is.map tupI∧Im s g is):=by
  intro s
  induction s with
  |nil=>intro k ds pre _ _;exact ⟨Nat.zero_le _,fun z=>⟨[],by rw [List.length_eq_zero_iff.mp (Nat.le_zero.mp z)];rfl,Im.nil⟩⟩
  |cons m s ih=>
   intro k ds pre hk hf
   rw [List.zipIdx_cons,List.find?_cons] at hf
   cases hq:bZ g (pre++ds) (m,k) with
   |false=>rw [hq] at hf;cases hf
   |true=>
    rw [hq] at hf
    unfold bZ at hq
    cases ds with
    |nil=>
     rw [show (pre++[])[k]?=none by rw [List.append_nil];exact List.getElem?_eq_none_iff.mpr (by omega)] at hq
     cases hq
    |cons d ds=>
     rw [show (pre++d::ds)[k]?=some d by rw [List.getElem?_append_right (by omega),hk,Nat.sub_self];rfl] at hq
     obtain ⟨h1,h2⟩:=Bool.and_eq_true_iff.mp (show (bu g d&&decide (aE g m (xsI d)=List.replicate g.length 0))=true from hq)
     obtain ⟨x,rfl,e⟩:=iR h1
     obtain ⟨j1,j2⟩:=ih (k+1) ds (pre++[tupI x]) (by simp [hk]) (by rw [List.append_assoc];exact hf)
     refine ⟨by simpa using j1,fun z=>?_⟩
     obtain ⟨is,rfl,im⟩:=j2 (by simpa using z)
     refine ⟨x::is,rfl,Im.cons e ?_ im⟩
     have:=of_decide_eq_true h2
     rw [jk] at this
     exact this
 unfold d_ at h
 cases hb:eQ g s ds with
 |some p=>rw [hb] at h;cases h
 |none=>
  rw [hb] at h
  dsimp only at h
  split at h
  ·cases h
  ·rename_i hl
   exact (key s 0 ds [] rfl hb).2 (by omega)
end
section
variable {G:Prg} {C CM NM CE:Addr} {n:Nat}
noncomputable def headD (o:Option Nat):D:=match o with
 |some i=>.int (i:Int)
 |none=>.non
theorem vS {key:Str} {s g:List Int} {ds:List D} (A:GA G C) (hd:G.defs key=some (none,L.fault)) (hh:G.defs "_law_has"=some (none,L.has)) (fh:G.fn "_law_has"=some ("_law_has":Str)) (hw:G.defs "_law_whole"=some (none,L.whole)) (fw:G.fn "_law_whole"=some ("_law_whole":Str))
  (hm:G.defs "_law_many"=some (none,L.eV)) (fm:G.fn "_law_many"=some ("_law_many":Str)) (gg:Good g) (ht:∀d∈ds,bL d=true):kal G (n+3) key [tupI s,tupI g,.lst ds]=some (.ok (headD (d_ g s ds))):=by
 refine aC hd ⟨rfl,rfl⟩ (ρ0:=[.val (tupI s),.val (tupI g),.val (.lst ds),.nil,.nil,.nil]) rfl ?_
 have k1:ev G (kal G (n+2)) (.comp 1 [] (.nm 0) (.var 1) (.lit (.bl true)) (.emit (.lit (.int 0)))) [.val (tupI s),.val (tupI g),.val (.lst ds),.nil,.nil,.nil]=some (.lst (g.map fun _=>D.int 0)):=
  bt (g:=D.int) rfl rfl (Nat.le_trans gg.aS (by decide)) fun k _=>⟨[.val (.int k)],rfl,rfl⟩
 have e1:D.tup (g.map fun _=>D.int 0)=tupI (List.replicate g.length 0):=by
  unfold tupI
  simp
  exact List.map_const' ..
 refine st (ρ':=[.val (tupI s),.val (tupI g),.val (.lst ds),.val (tupI (List.replicate g.length 0)),.nil,.nil]) (by dsimp? [k1,e1]) ?_
 refine st (ρ':=[.val (tupI s),.val (tupI g),.val (.lst ds),.val (tupI (List.replicate g.length 0)),.any,.any]) (by rfl) ?_
 have hb:bz .enum [tupI s]=some (s.zipIdx.map fun p=>D.tup [.int (p.2:Int),.int p.1]):=by rw [←eX];rfl
 have hq:=rh (G:=G) (cl:=kal G (n+2)) (ρ:=[.val (tupI s),.val (tupI g),.val (.lst ds),.val (tupI (List.replicate g.length 0)),.any,.any]) (t:=.tp [(.nm 4),(.nm 5)]) (it:=.blt .enum [(.var 0)]) (L:=[0])
  (b:=[(.ife (.or (.cmp .ge (.var 4) (.blt .len [(.var 2)])) (.nt (.fn "_law_has" [(.var 1),(.ix (.var 2) (.var 4))]))) [1,2,4] [(.ret (.var 4) [4])] []),(.ife (.cmp .ne (.fn "_law_many" [(.var 1),(.var 5),(.ix (.var 2) (.var 4))]) (.var 3)) [1,5,2,4,3] [(.ret (.var 4) [4])] []),(.fgt [4,5])])
  (g:=fun p:Int×Nat=>D.tup [.int (p.2:Int),.int p.1])
  (q:=fun p:Int×Nat=>if bZ g ds p then none else some (.rt (.int (p.2:Int))))
  [.val (tupI s),.val (tupI g),.val (.lst ds),.val (tupI (List.replicate g.length 0)),.any,.any] s.zipIdx (by simp only [evI,evA,ev.eq_1,aO,af,aI,List.modify_zero_cons,List.getElem?_cons_zero,hb]) rfl
  (fun p hp o ho ρ'=>by
   cases hk:bZ g ds p with
   |true=>simp only [hk,if_true] at ho;cases ho
   |false=>simp only [hk] at ho;cases ho;exact fun z=>nomatch z)
  (fun p hp=>by
   obtain ⟨m,i⟩:=p
   refine ⟨[.val (tupI s),.val (tupI g),.val (.lst ds),.val (tupI (List.replicate g.length 0)),.val (.int (i:Int)),.val (.int m)],rfl,?_⟩
   cases hd:ds[i]? with
   |none=>
    have e0:bZ g ds (m,i)=false:=by unfold bZ;rw [hd]
    have e3:decide ((ds.length:Int)<=(i:Int))=true:=decide_eq_true (by have:=List.getElem?_eq_none_iff.mp hd;omega)
    simp only [e0]
    dsimp? [e3]
    rfl
   |some d=>
    have hdm:d∈ds:=List.mem_of_getElem? hd
    have e0:bZ g ds (m,i)=okB g m d:=by unfold bZ;rw [hd]
    have e3:decide ((ds.length:Int)<=(i:Int))=false:=decide_eq_false (by have:=(List.getElem?_eq_some_iff.mp hd).1;omega)
    have e4:=sF hd
    have h1:=qg (n:=n) A hh hw fw gg (ht d hdm)
    simp only [e0]
    cases hk:bu g d with
    |false=>
     have e5:okB g m d=false:=by unfold okB;rw [hk];rfl
     rw [hk] at h1
     simp only [e5]
     dsimp? [h1,fh,e3,e4]
     rfl
    |true=>
     obtain ⟨x,rfl,ex⟩:=iR hk
     have e5:okB g m (tupI x)=decide (aE g m x=List.replicate g.length 0):=by unfold okB;rw [hk,jk];rfl
     have h2:=mC (n:=n+1) (m:=m) hm gg ex
     have h3:=jJ (aE g m x) (List.replicate g.length 0)
     rw [hk] at h1
     simp only [e5]
     cases hz:decide (aE g m x=List.replicate g.length 0) with
     |true=>
      rw [hz] at h3
      dsimp? [h1,fh,e3,e4,fm,h2,h3]
      rfl
     |false=>
      rw [hz] at h3
      dsimp? [h1,fh,e3,e4,fm,h2,h3]
      rfl)
 rw [find_some (ok:=bZ g ds)] at hq
 have ln2:(s.map D.int).length=s.length:=by simp
 unfold d_
 cases hbad:eQ g s ds with
 |some p=>
  unfold eQ at hbad
  rw [hbad] at hq
  exact az hq
 |none=>
  unfold eQ at hbad
  rw [hbad] at hq
  refine st hq ?_
  by_cases hl:s.length<ds.length
  ·simp only [hl,if_true]
   have e3:decide ((s.length:Int)<(ds.length:Int))=true:=decide_eq_true (by omega)
   refine az ?_
   dsimp? [ln2,e3]
   rfl
  ·simp only [hl,if_false]
   have e3:decide ((s.length:Int)<(ds.length:Int))=false:=decide_eq_false (by omega)
   dsimp? [ln2,e3]
   rfl
theorem wH {xs:List D} {lo hi:Option Int} {d:D} (h:d∈aZ xs lo hi):d∈xs:=List.mem_of_mem_drop (List.mem_of_mem_take h)
theorem xm {xs:List D} {lo hi:Option Int}:(aZ xs lo hi).length<=xs.length:=by
 unfold aZ
 rw [List.length_take,List.length_drop]
 omega
theorem k6 {l:List D} {j:Int} (h0:0<=j) (h1:j<(l.length:Int)):∃d∈l,atI l j=some d:=by
 have hj:j.toNat<l.length:=by omega
 refine ⟨l[j.toNat],List.getElem_mem hj,?_⟩
 have:=sF (ds:=l) (i:=j.toNat) (d:=l[j.toNat]) (List.getElem?_eq_getElem hj)
 rw [show ((j.toNat:Nat):Int)=j by omega] at this
 exact this
noncomputable def Ths (ds:List D):Prop:=∀d∈ds,bL d=true
theorem Ths.app {a b:List D} (h1:Ths a) (h2:Ths b):Ths (a++b):=fun d h=>(List.mem_append.mp h).elim (h1 d) (h2 d)
theorem Ths.one {d:D} (h:bL d=true):Ths [d]:=fun x hx=>by rw [List.mem_singleton.mp hx];exact h
theorem Ths.cut {ds:List D} {lo hi:Option Int} (h:Ths ds):Ths (aZ ds lo hi):=fun d hd=>h d (wH hd)
theorem ib {x:List Int} {d:D} (h:x.length<=999) (hd:isIt d=true):bL (.tup (x.map .int++[d]))=true:=by
 show ((x.map D.int++[d]).all isIt&&decide ((x.map D.int++[d]).length<=1000))=true
 rw [List.length_append,List.length_map,List.length_singleton,decide_eq_true (by omega),Bool.and_true]
 refine List.all_eq_true.mpr fun e he=>?_
 rcases List.mem_append.mp he with q|q
 ·obtain ⟨k,_,rfl⟩:=List.mem_map.mp q;rfl
 ·rw [List.mem_singleton.mp q];exact hd
theorem hW {α:Type} {l:List α} {f:α->D} (h:l.length<=1000) (hf:∀a∈l,isIt (f a)=true):bL (.tup (l.map f))=true:=by
 show ((l.map f).all isIt&&decide ((l.map f).length<=1000))=true
 rw [List.length_map,decide_eq_true h,Bool.and_true]
 exact List.all_eq_true.mpr fun e he=>by obtain ⟨k,hk,rfl⟩:=List.mem_map.mp he;exact hf k hk
theorem lW {d:D} {k:Nat} (h:k<=1000) (hd:isIt d=true):bL (.tup (List.replicate k d))=true:=by
 show ((List.replicate k d).all isIt&&decide ((List.replicate k d).length<=1000))=true
 rw [List.length_replicate,decide_eq_true h,Bool.and_true]
 exact List.all_eq_true.mpr fun e he=>by rw [(List.mem_replicate.mp he).2];exact hd
end
section
variable {G:Prg} {C CM NM CE:Addr} {n:Nat}
noncomputable def mX (a:Int):D:=if a<2 then .bl (decide (a=1)) else .int a
theorem yE {g x:List Int} {c kd at_:Int} {ot:List Int} {ds sm:List D} {d:D} {cl:Str->List D->Option Rs} (gg:Good g) (ho:ot.length=g.length) (fh:G.fn "_law_has"=some ("_law_has":Str)) (hc:cl "_law_has" [tupI g,d]=some (.ok (.bl (bu g d)))) (ha:atI ds at_=some d)
  (hs:Ths sm) (hl:sm.length=7):
  ∃S6 sm',IN.aa G cl (.ife (.fn "_law_has" [(.var 1),(.ix (.var 2) (.var 4))]) [1,2,4] [(.asg (.nm 6) (.bin .add (.var 6) (.lst [(.blt .list [(.ix (.var 2) (.var 4))]),(.blt .tuple [(.comp 2 [] (.tp [(.nm 0),(.nm 1)]) (.blt .zip [(.ix (.var 2) (.var 4)),(.var 1)]) (.lit (.bl true)) (.emit (.bin .add (.var 0) (.var 1))))])])) [6,2,4,1]),(.asg (.nm 6) (.bin .add (.var 6) (.lst [(.blt .tuple [(.comp 1 [] (.nm 0) (.ix (.var 2) (.var 4)) (.lit (.bl true)) (.emit (.ix (.lst [(.var 0),(.cmp .eq (.var 0) (.lit (.int 1)))]) (.blt .int [(.cmp .lt (.var 0) (.lit (.int 2)))]))))])])) [6,2,4])] [])
   [.val (.int c),.val (tupI g),.val (.lst ds),.val (.int kd),.val (.int at_),.val (tupI ot),.owx (.l sm)]=some (.nx [.val (.int c),.val (tupI g),.val (.lst ds),.val (.int kd),.val (.int at_),.val (tupI ot),S6])∧(S6=.owx (.l sm')∨S6=.val (.lst sm'))∧Ths sm'∧7<=sm'.length∧sm'.length<=10:=by
 cases hk:bu g d with
 |false=>
  rw [hk] at hc
  exact ⟨_,sm,by dsimp? [fh,ha,hc],.inl rfl,hs,by omega,by omega⟩
 |true=>
  rw [hk] at hc
  obtain ⟨x,rfl,ex⟩:=iR hk
  have lx:x.length<=1000:=by have:=ex.len;have:=gg.aS;omega
  have i1:itD (tupI x)=some (x.map .int):=rfl
  have s1:aL (tupI x)=some (x.map .int):=rfl
  have hz:bz .zip [tupI x,tupI g]=some ((x.zip g).map fun p=>D.tup [.int p.1,.int p.2]):=by rw [←f9];exact eA rfl rfl
  have k1:∀S6:Sl,ev G cl (.comp 2 [] (.tp [(.nm 0),(.nm 1)]) (.blt .zip [(.ix (.var 2) (.var 4)),(.var 1)]) (.lit (.bl true)) (.emit (.bin .add (.var 0) (.var 1)))) [.val (.int c),.val (tupI g),.val (.lst ds),.val (.int kd),.val (.int at_),.val (tupI ot),S6]=some (.lst ((x.zip g).map fun p=>D.int (p.1+p.2))):=fun S6=>
   bt (g:=fun p:Int×Int=>D.tup [.int p.1,.int p.2]) (by simp only [evI,evA,ev.eq_1,ev.eq_16,aO,List.getElem?_cons_zero,List.getElem?_cons_succ,gP,ha,hz]) rfl (by rw [List.length_zip];exact Nat.le_trans (show _<=1000 by omega) (by decide)) fun p _=>⟨[.val (.int p.1),.val (.int p.2)],rfl,rfl⟩
  have k2:∀S6:Sl,ev G cl (.comp 1 [] (.nm 0) (.ix (.var 2) (.var 4)) (.lit (.bl true)) (.emit (.ix (.lst [(.var 0),(.cmp .eq (.var 0) (.lit (.int 1)))]) (.blt .int [(.cmp .lt (.var 0) (.lit (.int 2)))])))) [.val (.int c),.val (tupI g),.val (.lst ds),.val (.int kd),.val (.int at_),.val (tupI ot),S6]=some (.lst (x.map mX)):=fun S6=>
   bt (g:=D.int) (by simp only [evI,evA,ev.eq_1,ev.eq_16,aO,List.getElem?_cons_zero,List.getElem?_cons_succ,gP,ha,i1]) rfl (Nat.le_trans lx (by decide)) fun a _=>⟨[.val (.int a)],rfl,by
    have f2:(2:Nat)<=sizeLine:=by decide
    by_cases h2:a<2
    ·have e1:decide (a<2)=true:=decide_eq_true h2
     have e2:∀p q:D,atI [p,q] 1=some q:=fun _ _=>rfl
     have e3:mX a=.bl (decide (a=1)):=if_pos h2
     dsimp? [e1,e2,e3,f2]
    ·have e1:decide (a<2)=false:=decide_eq_false h2
     have e2:∀p q:D,atI [p,q] 0=some p:=fun _ _=>rfl
     have e3:mX a=.int a:=if_neg h2
     dsimp? [e1,e2,e3,f2]⟩
  have z1:sm.length+2<=sizeLine:=by rw [hl];decide
  have z2:sm.length+3<=sizeLine:=by rw [hl];decide
  have z3:(2:Nat)<=sizeLine:=by decide
  have z4:(1:Nat)<=sizeLine:=by decide
  have z5:(sm++[D.lst (x.map .int),D.tup ((x.zip g).map fun p=>D.int (p.1+p.2))]).length+1<=sizeLine:=by rw [List.length_append,hl];show 7+2+1<=sizeLine;decide
  have n1:∀a:List D,ak (.lst a)=false:=fun _=>rfl
  refine ⟨.val (.lst (sm++[D.lst (x.map .int),D.tup ((x.zip g).map fun p=>D.int (p.1+p.2))]++[D.tup (x.map mX)])),_,?_,.inr rfl,?_,?_,?_⟩
  ·dsimp? [fh,ha,hc,s1,k1,k2,z1,z2,z3,z4,z5,n1]
  ·refine (hs.app fun e he=>?_).app (Ths.one (hW lx fun a _=>?_))
   ·simp only [List.mem_cons,List.not_mem_nil,or_false] at he
    rcases he with rfl|rfl
    ·rfl
    ·exact hW (by rw [List.length_zip];omega) fun _ _=>rfl
   ·unfold mX;split<;>rfl
  ·simp only [List.length_append,hl,List.length_cons,List.length_nil];omega
  ·simp only [List.length_append,hl,List.length_cons,List.length_nil];omega
end
section
variable {G:Prg} {C CM NM CE:Addr} {n:Nat}
theorem sk {key:Str} {c:Int} {g:List Int} {ds:List D} (A:GA G C) (hd:G.defs key=some (none,L.dy)) (hh:G.defs "_law_has"=some (none,L.has)) (fh:G.fn "_law_has"=some ("_law_has":Str)) (hw:G.defs "_law_whole"=some (none,L.whole)) (fw:G.fn "_law_whole"=some ("_law_whole":Str))
  (he:G.defs "_law_drawn"=some (none,L.element)) (fe:G.fn "_law_drawn"=some ("_law_drawn":Str)) (gg:Good g) (ht:Ths ds) (hl:ds.length<=1000):∃ds',kal G (n+3) key [.int c,tupI g,.lst ds]=some (.ok (.lst ds'))∧Ths ds'∧ds'.length<=ds.length+1:=by
 obtain ⟨mx,e1,e2,e3⟩:∃mx:Int,(if ((ds.length:Int)>1) then (ds.length:Int) else 1)=mx∧0<mx∧(0<ds.length->mx=ds.length):=by
  refine ⟨_,rfl,?_,fun h=>?_⟩
  ·split<;>omega
  ·split<;>omega
 have p4:(0:Int)<4:=by decide
 have q4:(0:Int)<4∧(4:Int).toNat<1073741824:=by decide
 have q40:(0:Int)<40∧(40:Int).toNat<1073741824:=by decide
 have q400:(0:Int)<400∧(400:Int).toNat<1073741824:=by decide
 have p3:(0:Int)<3:=by decide
 have h1:=gB (n:=n+1) (ns:=g) (c:=c / 40) he gg
 have le:(elI g (c / 40)).length=g.length:=(l7 (c:=c / 40) gg.g2).len
 have aS:(elI g (c / 40)).length<=1000:=by have:=gg.aS;omega
 have a0:0<=c / 4%mx:=Int.emod_nonneg _ (by omega)
 have a1:c / 4%mx<mx:=Int.emod_lt_of_pos _ e2
 suffices H:∃ds',IN.run G (kal G (n+2)) L.dy.body [.val (.int c),.val (tupI g),.val (.lst ds),.nil,.nil,.nil,.nil]=some (.rt (.lst ds'))∧Ths ds'∧ds'.length<=ds.length+1 by
  obtain ⟨ds',h,r⟩:=H
  exact ⟨ds',aC hd ⟨rfl,rfl⟩ (ρ0:=[.val (.int c),.val (tupI g),.val (.lst ds),.nil,.nil,.nil,.nil]) rfl h,r⟩
 have go:∀{ds'},IN.run G (kal G (n+2)) (L.dy.body.drop 3) [.val (.int c),.val (tupI g),.val (.lst ds),.val (.int (c%4)),.val (.int (c / 4%mx)),.val (tupI (elI g (c / 40))),.nil]=some (.rt (.lst ds'))->IN.run G (kal G (n+2)) L.dy.body [.val (.int c),.val (tupI g),.val (.lst ds),.nil,.nil,.nil,.nil]=some (.rt (.lst ds')):=fun {ds'} h=>by
  refine st (ρ':=[.val (.int c),.val (tupI g),.val (.lst ds),.val (.int (c%4)),.nil,.nil,.nil]) (by dsimp? [p4]) ?_
  refine st (ρ':=[.val (.int c),.val (tupI g),.val (.lst ds),.val (.int (c%4)),.val (.int (c / 4%mx)),.nil,.nil]) (by dsimp? [q4,e1,e2]) ?_
  exact st (ρ':=[.val (.int c),.val (tupI g),.val (.lst ds),.val (.int (c%4)),.val (.int (c / 4%mx)),.val (tupI (elI g (c / 40))),.nil]) (by dsimp? [q40,fe,h1]) h
 generalize hot:elI g (c / 40)=ot at*
 have cl1:=fun lo hi=>xm (xs:=ds) (lo:=lo) (hi:=hi)
 have zz:∀lo hi lo' hi',(aZ ds lo hi).length+(aZ ds lo' hi').length<=sizeLine:=fun lo hi lo' hi'=>Nat.le_trans (show _<=2000 by have:=cl1 lo hi;have:=cl1 lo' hi';omega) (by decide)
 have z1:∀lo hi,(aZ ds lo hi).length+1<=sizeLine:=fun lo hi=>Nat.le_trans (show _<=2000 by have:=cl1 lo hi;omega) (by decide)
 have z2:∀(d:D) lo hi lo' hi',(aZ ds lo hi++[d]).length+(aZ ds lo' hi').length<=sizeLine:=fun d lo hi lo' hi'=>Nat.le_trans (show _<=3000 by have:=cl1 lo hi;have:=cl1 lo' hi';rw [List.length_append,List.length_singleton];omega) (by decide)
 have f1:(1:Nat)<=sizeLine:=by decide
 have f3:(3:Nat)<=sizeLine:=by decide
 have f7:(7:Nat)<=sizeLine:=by decide
 have cutsum:(aZ ds none (some (c / 4%mx))).length+(aZ ds (some (c / 4%mx+1)) none).length<=ds.length:=by
  have key:∀i:Int,0<=i->(aZ ds none (some i)).length+(aZ ds (some (i+1)) none).length<=ds.length:=fun i hi=>by
   have s1:¬i<0:=by omega
   have s2:¬i+1<0:=by omega
   unfold aZ HT.sIx
   simp only [List.length_take,List.length_drop,s1,s2,if_false]
   omega
  exact key _ a0
 by_cases k0:c%4=0
 ·have d0:decide (c%4=0)=true:=decide_eq_true k0
  refine ⟨_,go (az (x:=.lst (aZ ds none (some (c / 4%mx))++aZ ds (some (c / 4%mx+1)) none)) (by dsimp? [d0,zz])),ht.cut.app ht.cut,?_⟩
  rw [List.length_append]
  omega
 have d0:decide (c%4=0)=false:=decide_eq_false k0
 by_cases k1:c%4=1
 ·have d1:decide (c%4=1)=true:=decide_eq_true k1
  obtain ⟨d,hdm,hat⟩:=k6 (l:=[tupI ot,.non,.str "x"]) (j:=c / 400%3) (Int.emod_nonneg _ (by decide)) (Int.emod_lt_of_pos _ (by decide))
  have z:ds.length+1<=sizeLine:=Nat.le_trans (show _<=2000 by omega) (by decide)
  refine ⟨ds++[d],go (st (ρ':=[.val (.int c),.val (tupI g),.val (.lst ds),.val (.int (c%4)),.val (.int (c / 4%mx)),.val (tupI ot),.nil]) (by dsimp? [d0]) (az (by dsimp? [d1,q400,p3,hat,f1,f3,z]))),ht.app (Ths.one ?_),by simp⟩
  simp only [List.mem_cons,List.not_mem_nil,or_false] at hdm
  rcases hdm with rfl|rfl|rfl
  ·exact eS aS
  ·rfl
  ·rfl
 have d1:decide (c%4=1)=false:=decide_eq_false k1
 have pre:∀{ds'},IN.run G (kal G (n+2)) (L.dy.body.drop 5) [.val (.int c),.val (tupI g),.val (.lst ds),.val (.int (c%4)),.val (.int (c / 4%mx)),.val (tupI ot),.nil]=some (.rt (.lst ds'))->IN.run G (kal G (n+2)) (L.dy.body.drop 3) [.val (.int c),.val (tupI g),.val (.lst ds),.val (.int (c%4)),.val (.int (c / 4%mx)),.val (tupI ot),.nil]=some (.rt (.lst ds')):=fun {ds'} h=>
  st (ρ':=[.val (.int c),.val (tupI g),.val (.lst ds),.val (.int (c%4)),.val (.int (c / 4%mx)),.val (tupI ot),.nil]) (by dsimp? [d0]) (st (ρ':=[.val (.int c),.val (tupI g),.val (.lst ds),.val (.int (c%4)),.val (.int (c / 4%mx)),.val (tupI ot),.nil]) (by dsimp? [d1]) h)
 by_cases hp:0<ds.length
 ·have dp:decide ((0:Int)<(ds.length:Int))=true:=decide_eq_true (by omega)
  have hm:=e3 hp
  by_cases k2:c%4=2
  ·have d2:decide (c%4=2)=true:=decide_eq_true k2
   obtain ⟨d,hdm,hat⟩:=k6 (l:=ds) (j:=c / 4%mx) a0 (by omega)
   have kneg:∀S:Rho,ev G (kal G (n+2)) (.comp 1 [] (.nm 0) (.var 1) (.lit (.bl true)) (.emit (.neg (.lit (.int 1))))) (.val (.int c)::.val (tupI g)::S)=some (.lst (g.map fun _=>D.int (-1))):=fun S=>
    bt (g:=D.int) rfl rfl (Nat.le_trans gg.aS (by decide)) fun k _=>⟨[.val (.int k)],rfl,rfl⟩
   have zo:(ot.map D.int).length+1<=sizeLine:=Nat.le_trans (show _<=2000 by rw [List.length_map];omega) (by decide)
   have gl:(g.map D.int).length=g.length:=by simp
   have rep:(0:Int)<=(g.length:Int)∧((g.length:Int)).toNat<2^20:=⟨by omega,by have:=gg.aS;rw [show ((g.length:Int)).toNat=g.length from rfl];exact Nat.lt_of_le_of_lt this (by decide)⟩
   have tn:((g.length:Int)).toNat=g.length:=rfl
   have rp:g.length<2^20:=rep.2
   have so:aL (tupI ot)=some (ot.map .int):=rfl
   obtain ⟨S6,sm',r1,r2,r3,r4,r5⟩:=yE (G:=G) (c:=c) (kd:=c%4) (at_:=c / 4%mx) (ot:=ot) (ds:=ds) (d:=d) (x:=[])
    (sm:=[.non,.int 3,.lst (ot.map .int),.tup (ot.map .int++[.int 0]),.tup (g.map fun _=>D.int (-1)),.tup (List.replicate g.length (.bl true)),.str "0"]) (cl:=kal G (n+2)) gg (by rw [le]) fh (qg (n:=n) A hh hw fw gg (ht d hdm)) hat
    (fun e he=>by
     simp only [List.mem_cons,List.not_mem_nil,or_false] at he
     rcases he with rfl|rfl|rfl|rfl|rfl|rfl|rfl
     ·rfl
     ·rfl
     ·rfl
     ·exact ib (by have:=gg.len;omega) rfl
     ·exact hW gg.aS fun _ _=>rfl
     ·exact lW gg.aS rfl
     ·rfl) rfl
   obtain ⟨f,hfm,hft⟩:=k6 (l:=sm') (j:=c / 400%(sm'.length:Int)) (Int.emod_nonneg _ (by omega)) (Int.emod_lt_of_pos _ (by omega))
   have ps:(0:Int)<(sm'.length:Int):=by omega
   refine ⟨aZ ds none (some (c / 4%mx))++[f]++aZ ds (some (c / 4%mx+1)) none,go (pre (az ?_)),(ht.cut.app (Ths.one (r3 f hfm))).app ht.cut,?_⟩
   ·have hc:evT G (kal G (n+2)) (.and (.cmp .eq (.var 3) (.lit (.int 2))) (.cmp .gt (.blt .len [(.var 2)]) (.lit (.int 0)))) (af [3,2] [.val (.int c),.val (tupI g),.val (.lst ds),.val (.int (c%4)),.val (.int (c / 4%mx)),.val (tupI ot),.nil])=some true:=by dsimp? [d2,dp]
    have hb:IN.run G (kal G (n+2)) [(.asg (.nm 6) (.lst [(.lit .non),(.lit (.int 3)),(.blt .list [(.var 5)]),(.bin .add (.var 5) (.tup [(.lit (.int 0))])),(.blt .tuple [(.comp 1 [] (.nm 0) (.var 1) (.lit (.bl true)) (.emit (.neg (.lit (.int 1)))))]),(.bin .mul (.tup [(.lit (.bl true))]) (.blt .len [(.var 1)])),(.lit (.str "0"))]) [5,1]),(.ife (.fn "_law_has" [(.var 1),(.ix (.var 2) (.var 4))]) [1,2,4] [(.asg (.nm 6) (.bin .add (.var 6) (.lst [(.blt .list [(.ix (.var 2) (.var 4))]),(.blt .tuple [(.comp 2 [] (.tp [(.nm 0),(.nm 1)]) (.blt .zip [(.ix (.var 2) (.var 4)),(.var 1)]) (.lit (.bl true)) (.emit (.bin .add (.var 0) (.var 1))))])])) [6,2,4,1]),(.asg (.nm 6) (.bin .add (.var 6) (.lst [(.blt .tuple [(.comp 1 [] (.nm 0) (.ix (.var 2) (.var 4)) (.lit (.bl true)) (.emit (.ix (.lst [(.var 0),(.cmp .eq (.var 0) (.lit (.int 1)))]) (.blt .int [(.cmp .lt (.var 0) (.lit (.int 2)))]))))])])) [6,2,4])] []),(.ret (.bin .add (.bin .add (.sl (.var 2) .nop (.var 4)) (.lst [(.ix (.var 6) (.bin .mod (.bin .fdiv (.var 0) (.lit (.int 400))) (.blt .len [(.var 6)])))])) (.sl (.var 2) (.bin .add (.var 4) (.lit (.int 1))) .nop)) [0,6,2,4])] [.val (.int c),.val (tupI g),.val (.lst ds),.val (.int (c%4)),.val (.int (c / 4%mx)),.val (tupI ot),.nil]=some (.rt (.lst (aZ ds none (some (c / 4%mx))++[f]++aZ ds (some (c / 4%mx+1)) none))):=by
     refine st (ρ':=[.val (.int c),.val (tupI g),.val (.lst ds),.val (.int (c%4)),.val (.int (c / 4%mx)),.val (tupI ot),.owx (.l [.non,.int 3,.lst (ot.map .int),.tup (ot.map .int++[.int 0]),.tup (g.map fun _=>D.int (-1)),.tup (List.replicate g.length (.bl true)),.str "0"])]) ?_ ?_
     ·dsimp? [so,zo,kneg,gl,rep.1,rp,tn,f1,f7]
     rw [IN.run,r1]
     dsimp only
     refine az ?_
     rcases r2 with rfl|rfl
     ·dsimp? [q400,ps,hft,f1,z1,z2]
     ·dsimp? [q400,ps,hft,f1,z1,z2]
    rw [aa.eq_13,hc]
    exact hb
   ·rw [List.length_append,List.length_append,List.length_singleton]
    omega
  ·have d2:decide (c%4=2)=false:=decide_eq_false k2
   refine ⟨aZ ds none (some (c / 4%mx))++[tupI ot]++aZ ds (some (c / 4%mx+1)) none,go (pre (st (ρ':=[.val (.int c),.val (tupI g),.val (.lst ds),.val (.int (c%4)),.val (.int (c / 4%mx)),.val (tupI ot),.nil]) (by dsimp? [d2]) (az (by dsimp? [dp,f1,z1,z2])))),(ht.cut.app (Ths.one (eS aS))).app ht.cut,?_⟩
   rw [List.length_append,List.length_append,List.length_singleton]
   omega
 ·have dp:decide ((0:Int)<(ds.length:Int))=false:=decide_eq_false (by omega)
  refine ⟨ds,go (pre (st (ρ':=[.val (.int c),.val (tupI g),.val (.lst ds),.val (.int (c%4)),.val (.int (c / 4%mx)),.val (tupI ot),.nil]) ?_ (st (ρ':=[.val (.int c),.val (tupI g),.val (.lst ds),.val (.int (c%4)),.val (.int (c / 4%mx)),.val (tupI ot),.nil]) (by dsimp? [dp]) (az (by dsimp? [dp]))))),ht,by omega⟩
  by_cases k2:c%4=2
  ·have d2:decide (c%4=2)=true:=decide_eq_true k2
   dsimp? [d2,dp]
  ·have d2:decide (c%4=2)=false:=decide_eq_false k2
   dsimp? [d2]
end
section
variable {G:Prg} {C CM NM NE CE:Addr} {n:Nat}
theorem ku:∀is:List (List Int),bH (is.map tupI)=true
 |[]=>rfl
 |x::is=>by show (aU (tupI x)&&bH (is.map tupI))=true;rw [ku is,fQ];rfl
theorem lE:∀is:List (List Int),PyData.depthAll (cP (is.map tupI))<=1
 |[]=>Nat.zero_le _
 |x::is=>by
  show max (PyData.depth (toPy (tupI x))) (PyData.depthAll (cP (is.map tupI)))<=1
  rw [gh]
  have:=lE is
  omega
theorem sH (is:List (List Int)):bF .ne (.lst (is.map tupI)) (.lst (is.map tupI))=some false:=by
 have h1:aU (.lst (is.map tupI))=true:=ku is
 have h2:eI (.lst (is.map tupI)) (.lst (is.map tupI))=true:=by
  unfold eI
  rw [h1]
  have:(toPy (.lst (is.map tupI))).depth<=2:=by
   show PyData.depthAll (cP (is.map tupI))+1<=2
   have:=lE is
   omega
  simp only [Bool.true_and,decide_eq_true_eq]
  omega
 show (if eI (.lst (is.map tupI)) (.lst (is.map tupI)) then some (!eqD (.lst (is.map tupI)) (.lst (is.map tupI))) else none)=_
 rw [h2,sT h1];rfl
theorem vo {ns:List Int} {d:D} (M:GM G C) (g:Good ns) (ht:bL d=true) (hf:bu ns d=false) (hx:G.exc "NoElement"=some (NE,[])):bw G (kal G (n+3)) (grp C ns) "need" [d]=some (.xc (.exc NE [])):=by
 refine eT rfl M.uK (ja M.need ⟨rfl,rfl⟩ (ρ0:=[.val (grp C ns),.val d]) rfl (ρ:=[.val (grp C ns),.val d]) ?_)
 have hm:=rK (n:=n) M g ht
 rw [hf] at hm
 have k0:(0:Nat)<=1000:=by decide
 unfold P.dj
 dsimp? [hm,hx,k0]
 rfl
theorem zD {s g:List Int} {d:D} {is:List (List Int)} (M:GP G C CM) (gs:Good s) (ht:bL d=true) (hf:bu s d=false) (hx:G.exc "NoElement"=some (NE,[])):bw G (kal G (n+4)) (aM CM C s g is) "led" [d]=some (.xc (.exc NE [])):=by
 refine uX rfl M.zq (ja M.led ⟨rfl,rfl⟩ (ρ0:=[.val (aM CM C s g is),.val d]) rfl (ρ:=[.val (aM CM C s g is),.val d]) (k_ ?_))
 have h1:=mG (s:=s) (g:=g) (is:=is) M
 have h4:=vo (n:=n) M.toGM gs ht hf hx
 dsimp? [h1,h4]
theorem zf {key:Str} {s g:List Int} {d:D} {is:List (List Int)} (hd:G.defs key=some (none,L.d7)) (M:GP G C CM) (gs:Good s) (ht:bL d=true) (hf:bu s d=false) (hx:G.exc "NoElement"=some (NE,[])) (hg:G.glob "CarryError"=some (.cl CE)) (hs:G.sub NE CE=some true)
  (hk:∀a b:D,ev G (kal G (n+4)) (.cmp .eq (.fn "_law_kinds" [(.var 2)]) (.fn "_law_class" [(.lit (.str "NoElement"))])) [.val a,.val b,.val (.exc NE []),.nil]=some (.bl true)):
  kal G (n+5) key [aM CM C s g is,d]=some (.ok (.bl true)):=by
 refine aC hd ⟨rfl,rfl⟩ (ρ0:=[.val (aM CM C s g is),.val d,.nil,.nil]) rfl ?_
 have h1:=zD (n:=n) (g:=g) (is:=is) M gs ht hf hx
 refine st (ρ':=[.val (aM CM C s g is),.val d,.val .non,.nil]) (by rfl) ?_
 refine st (ρ':=[.val (aM CM C s g is),.val d,.val (.exc NE []),.nil]) ?_ (az ?_)
 ·have e1:IN.run G (kal G (n+4)) [(.exp (.mth (.var 0) "led" [(.var 1)]) [0,1])] [.val (aM CM C s g is),.val d,.val .non,.nil]=some (.xc [.val (aM CM C s g is),.val d,.val .non,.nil] (.exc NE [])):=by dsimp? [h1]
  rw [aa.eq_17,e1]
  dsimp? [hg,hs]
 ·have e2:=hk (aM CM C s g is) d
  have e3:b8 (.exc NE [])=false:=rfl
  simp only [aa.eq_11,evV,ev.eq_7,ev.eq_11,evT,af,aI,List.modify_zero_cons,List.modify_succ_cons,ev.eq_1,aO,List.getElem?_cons_zero,List.getElem?_cons_succ,e2,e3,Bool.not_false]
theorem m5 {key:Str} {s g:List Int} {ds:List D} {i:Nat} (hd:G.defs key=some (none,L.dI)) (M:GP G C CM) (gs:Good s) (gg:Good g) (ht:Ths ds) (hi:d_ g s ds=some i) (hx:G.exc "NoMap"=some (NM,[("head":Str)])) (hg:G.glob "CarryError"=some (.cl CE)) (hs:G.sub NM CE=some true) (ho:G.xok NM "head"=true)
  (hw:G.defs "_law_whole"=some (none,L.whole)) (fw:G.fn "_law_whole"=some ("_law_whole":Str))
  (hk:∀(a b c d:D) (i:Int),evT G (kal G (n+7)) (.cmp .ne (.fn "_law_kinds" [(.var 4)]) (.fn "_law_class" [(.lit (.str "NoMap"))])) [.val a,.val b,.val c,.val d,.val (.exc NM [(("head":Str),.int i)]),.nil]=some false):
  kal G (n+8) key [tupI s,tupI g,.lst ds,.int (i:Int)]=some (.ok (.bl true)):=by
 refine aC hd ⟨rfl,rfl⟩ (ρ0:=[.val (tupI s),.val (tupI g),.val (.lst ds),.val (.int (i:Int)),.nil,.nil]) rfl ?_
 have h1:=yV (n:=n) M gs gg ht hx hi
 have o0:=uJ (n:=n+4) (t:=tupI s) M.A rfl gs
 have o1:=uJ (n:=n+4) (t:=tupI g) M.A rfl gg
 have v1:∀d:D,Rs.val (.ok d)=some d:=fun _=>rfl
 refine st (ρ':=[.val (tupI s),.val (tupI g),.val (.lst ds),.val (.int (i:Int)),.val .non,.nil]) (by rfl) ?_
 refine st (ρ':=[.val (tupI s),.val (tupI g),.val (.lst ds),.val (.int (i:Int)),.val (.exc NM [(("head":Str),.int (i:Int))]),.nil]) ?_ ?_
 ·have e1:IN.run G (kal G (n+7)) [(.exp (.fn "Map" [(.fn "Rounds" [(.var 0)]),(.fn "Rounds" [(.var 1)]),(.var 2)]) [0,1,2])] [.val (tupI s),.val (tupI g),.val (.lst ds),.val (.int (i:Int)),.val .non,.nil]=some (.xc [.val (tupI s),.val (tupI g),.val (.lst ds),.val (.int (i:Int)),.val .non,.nil] (.exc NM [(("head":Str),.int (i:Int))])):=by
   simp only [lh,aa.eq_9,evV,evA,ev.eq_1,ev.eq_20,af,aI,List.modify_zero_cons,List.modify_succ_cons,aO,List.getElem?_cons_zero,List.getElem?_cons_succ,o0,o1,v1,h1,i7]
  rw [aa.eq_17,e1]
  dsimp? [hg,hs]
 ·have e2:=hk (tupI s) (tupI g) (.lst ds) (.int (i:Int)) (i:Int)
  have e3:b8 (.exc NM [(("head":Str),.int (i:Int))])=false:=rfl
  have e4:b_ G (.exc NM [(("head":Str),.int (i:Int))]) "head"=some (.int (i:Int)):=by
   have:([(("head":Str),D.int (i:Int))]).lookup ("head":Str)=some (.int (i:Int)):=rfl
   simp only [b_,ho,if_true,this]
  have e5:=nq (n:=n+6) (i:=(i:Int)) M.A hw
  refine st (ρ':=[.val (tupI s),.val (tupI g),.val (.lst ds),.val (.int (i:Int)),.val (.exc NM [(("head":Str),.int (i:Int))]),.nil]) ?_ (az ?_)
  ·simp only [aa.eq_13,evT,af,aI,List.modify_zero_cons,List.modify_succ_cons,ev.eq_1,aO,List.getElem?_cons_zero,List.getElem?_cons_succ,e3,bK]
   simp only [evT,af,aI,List.modify_zero_cons,List.modify_succ_cons,ev.eq_1,aO,List.getElem?_cons_zero,List.getElem?_cons_succ] at e2
   simp only [e2,bK]
  ·dsimp? [e4,fw,e5]
end
section
variable {G:Prg} {C CM NL CE:Addr} {n:Nat}
theorem p6 {s g:List Int} {is:List (List Int)}:ak (aM CM C s g is)=true:=by
 show (ak (grp C s)&&(ak (grp C g)&&(ak (.tup (is.map tupI))&&true)))=true
 rw [dU,dU,show ak (.tup (is.map tupI))=true from fR is];rfl
end
section
variable {G:Prg} {C CM NM NE CE:Addr} {n:Nat}
structure LN (G:Prg):Prop extends LM0 G where
 has:G.defs "_law_has"=some (none,L.has)
 An:G.fn "_law_has"=some ("_law_has":Str)
 spo:G.defs "_law_spoilt"=some (none,L.dy)
 Cy:G.fn "_law_spoilt"=some ("_law_spoilt":Str)
 flt:G.defs "_law_fault"=some (none,L.fault)
 Cp:G.fn "_law_fault"=some ("_law_fault":Str)
 ref:G.defs "_law_refused"=some (none,L.dI)
 Ct:G.fn "_law_refused"=some ("_law_refused":Str)
 noe:G.defs "_law_no_element"=some (none,L.d7)
 Cv:G.fn "_law_no_element"=some ("_law_no_element":Str)
theorem iM {ns:List Int} {xs:List D} (h:xs.length≠ns.length):bu ns (.tup xs)=false:=by
 show (decide (xs.length=ns.length)&&_)=false
 rw [decide_eq_false h];rfl
theorem xu:∀{ns:List Int},ns≠[]->bu ns (.tup (List.replicate ns.length (.bl false)))=false
 |[],h=>absurd rfl h
 |m::ns,_=>by
  show (decide _&&_)=false
  rw [show List.replicate (m::ns).length (D.bl false)=.bl false::List.replicate ns.length (.bl false) from rfl,List.zip_cons_cons,List.map_cons,List.all_cons]
  show (_&&(false&&_))=false
  rw [Bool.false_and,Bool.and_false]
theorem wD:∀{ns:List Int},ns≠[]->bu ns (tupI ns)=false
 |[],h=>absurd rfl h
 |m::ns,_=>by
  show (decide _&&_)=false
  rw [show (m::ns).map D.int=.int m::ns.map .int from rfl,List.zip_cons_cons,List.map_cons,List.all_cons]
  show (_&&((decide (0<=m)&&decide (m<m))&&_))=false
  rw [decide_eq_false (Int.lt_irrefl m),Bool.and_false,Bool.false_and,Bool.and_false]
theorem sI (X:LN G) (M:GP G C CM) {sc:List Int} {cf:Int->Int} (hc:∀k:Int,0<=k->k<=1000->kal G (n+6) "_law_spread" [.lst (sc.map .int),.int k]=some (.ok (.int (cf k)))) {r0 r1:List Int} (g0:Good r0) (g1:Good r1) {is:List (List Int)} (im:Im r0 r1 is) {S4 S5 S6 S10 S11:Sl} (hS:S4=.owx (.l (is.map tupI))∨S4=.val (.lst (is.map tupI))) {k:Int} (hk:0<=k∧k<=49):
  IN.run G (kal G (n+6)) [(.asg (.nm 8) (.fn "_law_drawn" [(.var 1),(.fn "_law_spread" [(.var 0),(.bin .add (.lit (.int 30)) (.var 3))])]) [1,0,3]),(.asg (.nm 9) (.fn "_law_drawn" [(.var 1),(.fn "_law_spread" [(.var 0),(.bin .add (.lit (.int 90)) (.var 3))])]) [1,0,3]),(.ife (.nt (.fn "_law_is" [(.var 2),(.mth (.var 7) "led" [(.var 8)]),(.fn "_law_led" [(.var 2),(.var 4),(.var 8)])])) [7,2,4,8] [(.ret (.lit (.bl false)) [])] []),(.ife (.cmp .ne (.fn "_law_sum" [(.var 2),(.mth (.var 7) "led" [(.var 8)]),(.mth (.var 7) "led" [(.var 9)])]) (.mth (.var 7) "led" [(.fn "_law_sum" [(.var 1),(.var 8),(.var 9)])])) [2,7,1,8,9] [(.ret (.lit (.bl false)) [])] []),(.fgt [8,9])]
   [.val (.lst (sc.map .int)),.val (tupI r0),.val (tupI r1),.val (.int k),S4,S5,S6,.val (aM CM C r0 r1 is),.any,.any,S10,S11]=
  some (.nx [.val (.lst (sc.map .int)),.val (tupI r0),.val (tupI r1),.val (.int k),S4,S5,S6,.val (aM CM C r0 r1 is),.any,.any,S10,S11]):=by
 have f1:=X.tq
 have f2:=X.fdr
 have f3:=X.CN
 have f4:=X.BM
 have f5:=X.fsum
 have c1:=hc (30+k) (by omega) (by omega)
 have c2:=hc (90+k) (by omega) (by omega)
 have x1:=gB (n:=n+5) (c:=cf (30+k)) X.dr g0
 have x2:=gB (n:=n+5) (c:=cf (90+k)) X.dr g0
 have hx:El r0 (elI r0 (cf (30+k))):=l7 g0.g2
 have hy:El r0 (elI r0 (cf (90+k))):=l7 g0.g2
 generalize elI r0 (cf (30+k))=x at x1 hx
 generalize elI r0 (cf (90+k))=y at x2 hy
 have d1:=Ai (n:=n+4) (x:=x) X.led X.sum X.fsum X.man X.zr g1 im.el
 have l1:=oI (n:=n) M g0 g1 im hx
 have l2:=oI (n:=n) M g0 g1 im hy
 have l3:=oI (n:=n) M g0 g1 im (hx.add g0.g2 hy)
 rw [nv g1.g2 im hx hy] at l3
 have t1:=lM (n:=n+5) (x:=bX r1 is x) (y:=bX r1 is y) X.sum g1
 have t2:=lM (n:=n+5) (x:=x) (y:=y) X.sum g0
 have hf:El r1 (bX r1 is x):=lZ g1.g2 im.el _
 have s1:=AQ (n:=n+4) (ns:=r1) (f:=bX r1 is x) (d:=bX r1 is x) M.A X.isl X.whole X.iL hf.len (by have:=hf.len;have:=g1.aS;omega)
 rw [decide_eq_true rfl] at s1
 have n1:bF .ne (tupI (aA r1 (bX r1 is x) (bX r1 is y))) (tupI (aA r1 (bX r1 is x) (bX r1 is y)))=some false:=by rw [jJ,decide_eq_true rfl];rfl
 rcases hS with rfl|rfl<;>dsimp? [f1,f2,f3,f4,f5,c1,c2,x1,x2,d1,l1,l2,l3,t1,t2,s1,n1]
end
section
variable {G:Prg} {C CM NM NE CE:Addr} {n:Nat}
theorem x9 {j:Int} (h:j<=2):(bG j).length<=2:=by
 unfold bG
 rw [List.length_map,List.length_range]
 omega
theorem yy {is:List (List Int)} (h:∀x∈is,x.length<=1000):Ths (is.map tupI):=fun d hd=>by
 obtain ⟨x,hx,rfl⟩:=List.mem_map.mp hd
 exact eS (h x hx)
theorem vE (X:LN G) (A:GA G C) {sc:List Int} {cf:Int->Int} (hc:∀k:Int,0<=k->k<=1000->kal G (n+3) "_law_spread" [.lst (sc.map .int),.int k]=some (.ok (.int (cf k)))) {r0 r1:List Int} (g1:Good r1) {ds:List D} (ht:Ths ds) (hl:ds.length<=100):
  ∃S3 S4 ds',IN.aa G (kal G (n+3)) (.for (.nm 3) (.blt .range [(.blt .max [(.lit (.int 0)),(.bin .sub (.bin .mod (.fn "_law_spread" [(.var 0),(.lit (.int 2))]) (.lit (.int 4))) (.lit (.int 1)))])]) [0] [(.asg (.nm 4) (.fn "_law_spoilt" [(.fn "_law_spread" [(.var 0),(.bin .add (.lit (.int 20)) (.var 3))]),(.var 2),(.var 4)]) [0,3,2,4])])
   (.val (.lst (sc.map .int))::.val (tupI r0)::.val (tupI r1)::.nil::.owx (.l ds)::[.nil,.nil,.nil,.nil,.nil,.nil,.nil])=some (.nx (.val (.lst (sc.map .int))::.val (tupI r0)::.val (tupI r1)::S3::S4::[.nil,.nil,.nil,.nil,.nil,.nil,.nil]))∧(S4=.owx (.l ds')∨S4=.val (.lst ds'))∧Ths ds'∧ds'.length<=102:=by
 have f1:=X.tq
 have f2:=X.Cy
 have c2:=hc 2 (by decide) (by decide)
 have t4:(0:Int)<4:=by decide
 obtain ⟨mx,e1,e2,e3⟩:∃mx:Int,(if (cf 2%4 - 1>0) then cf 2%4 - 1 else 0)=mx∧0<=mx∧mx<=2:=by
  have:=Int.emod_lt_of_pos (cf 2) t4
  refine ⟨_,rfl,?_,?_⟩<;>split<;>omega
 have hr:bz .range [.int mx]=some ((bG mx).map D.int):=rZ (by omega)
 have hi:evI G (kal G (n+3)) (.blt .range [(.blt .max [(.lit (.int 0)),(.bin .sub (.bin .mod (.fn "_law_spread" [(.var 0),(.lit (.int 2))]) (.lit (.int 4))) (.lit (.int 1)))])]) (af [0] (.val (.lst (sc.map .int))::.val (tupI r0)::.val (tupI r1)::.nil::.owx (.l ds)::[.nil,.nil,.nil,.nil,.nil,.nil,.nil]))=some ((bG mx).map D.int):=by dsimp? [f1,c2,t4,e1,hr]
 have hln:=x9 e3
 obtain ⟨ρ',h1,S3,S4,ds',h2,h3,h4,h5⟩:=qO (G:=G) (cl:=kal G (n+3)) (t:=.nm 3) (g:=D.int) (b:=[(.asg (.nm 4) (.fn "_law_spoilt" [(.fn "_law_spread" [(.var 0),(.bin .add (.lit (.int 20)) (.var 3))]),(.var 2),(.var 4)]) [0,3,2,4])])
  (fun done ρ=>∃S3 S4 ds',ρ=.val (.lst (sc.map .int))::.val (tupI r0)::.val (tupI r1)::S3::S4::[.nil,.nil,.nil,.nil,.nil,.nil,.nil]∧(S4=.owx (.l ds')∨S4=.val (.lst ds'))∧Ths ds'∧ds'.length<=100+done.length) (bG mx) hi (ρ0:=.val (.lst (sc.map .int))::.val (tupI r0)::.val (tupI r1)::.nil::.owx (.l ds)::[.nil,.nil,.nil,.nil,.nil,.nil,.nil]) rfl ⟨_,_,ds,rfl,.inl rfl,ht,by simpa using hl⟩
  fun done a rest ρ e ⟨S3,S4,ds',q1,q2,q3,q4⟩=>by
   subst q1
   have ha:=kF (show a∈bG mx by rw [e];simp)
   have hd:done.length+1<=2:=by
    have:=congrArg List.length e
    simp only [List.length_append,List.length_cons] at this
    omega
   have c3:=hc (20+a) (by omega) (by omega)
   obtain ⟨ds2,s1,s2,s3⟩:=sk (n:=n) (c:=cf (20+a)) (g:=r1) (ds:=ds') A X.spo X.has X.An X.whole X.iL X.dr X.fdr g1 q3 (by omega)
   have n1:ak (.lst ds2)=false:=rfl
   refine ⟨.val (.lst (sc.map .int))::.val (tupI r0)::.val (tupI r1)::.val (.int a)::S4::[.nil,.nil,.nil,.nil,.nil,.nil,.nil],.val (.lst (sc.map .int))::.val (tupI r0)::.val (tupI r1)::.val (.int a)::.val (.lst ds2)::[.nil,.nil,.nil,.nil,.nil,.nil,.nil],rfl,?_,_,_,ds2,rfl,.inr rfl,s2,by simp only [List.length_append,List.length_cons,List.length_nil];omega⟩
   rcases q2 with rfl|rfl<;>dsimp? [f1,f2,c3,s1,n1]
 subst h2
 exact ⟨S3,S4,ds',h1,h3,h4,by omega⟩
theorem xy {key:Str} {sc:List Int} (hd:G.defs key=some (none,L.jD)) (hl:sc.length<=63) (X:LN G) (M:GP G C CM) (hx:G.exc "NoMap"=some (NM,[("head":Str)])) (hxe:G.exc "NoElement"=some (NE,[])) (hg:G.glob "CarryError"=some (.cl CE)) (hs:G.sub NM CE=some true) (hse:G.sub NE CE=some true) (ho:G.xok NM "head"=true)
  (hk:∀(a b c d:D) (i:Int),evT G (kal G (n+9)) (.cmp .ne (.fn "_law_kinds" [(.var 4)]) (.fn "_law_class" [(.lit (.str "NoMap"))])) [.val a,.val b,.val c,.val d,.val (.exc NM [(("head":Str),.int i)]),.nil]=some false)
  (hke:∀a b:D,ev G (kal G (n+9)) (.cmp .eq (.fn "_law_kinds" [(.var 2)]) (.fn "_law_class" [(.lit (.str "NoElement"))])) [.val a,.val b,.val (.exc NE []),.nil]=some (.bl true)):
  kal G (n+11) key [.lst (sc.map .int)]=some (.ok (.bl true)):=by
 obtain ⟨cf,hc⟩:∃cf:Int->Int,∀k:Int,0<=k->k<=1000->kal G (n+10) "_law_spread" [.lst (sc.map .int),.int k]=some (.ok (.int (cf k))):=
  ⟨fun k=>if h:0<=k∧k<=1000 then (md (n:=n+9) (sc:=sc) X.spr hl h).choose else 0,fun k h1 h2=>by
   dsimp only;rw [dif_pos ⟨h1,h2⟩];exact (md (n:=n+9) (sc:=sc) X.spr hl ⟨h1,h2⟩).choose_spec⟩
 have f1:=X.tq
 have f2:=X.Cq
 have f3:=X.oG
 refine aC hd ⟨rfl,rfl⟩ (ρ0:=[.val (.lst (sc.map .int)),.nil,.nil,.nil,.nil,.nil,.nil,.nil,.nil,.nil,.nil,.nil]) rfl ?_
 have c0:=hc 0 (by decide) (by decide)
 have c1:=hc 1 (by decide) (by decide)
 obtain ⟨r0,hr0,w0⟩:=nP (n:=n+9) (c:=cf 0) X.grp
 obtain ⟨r1,hr1,w1⟩:=nP (n:=n+9) (c:=cf 1) X.grp
 have g0:=ko _ hr0
 have g1:=ko _ hr1
 refine st (ρ':=[.val (.lst (sc.map .int)),.val (tupI r0),.nil,.nil,.nil,.nil,.nil,.nil,.nil,.nil,.nil,.nil]) (by dsimp? [f1,f2,c0,w0]) ?_
 refine st (ρ':=[.val (.lst (sc.map .int)),.val (tupI r0),.val (tupI r1),.nil,.nil,.nil,.nil,.nil,.nil,.nil,.nil,.nil]) (by dsimp? [f1,f2,c1,w1]) ?_
 have hb:bz .enum [tupI r0]=some (r0.zipIdx.map fun p=>D.tup [.int (p.2:Int),.int p.1]):=by rw [←eX];rfl
 have k4:ev G (kal G (n+10)) (.comp 2 [2,0] (.tp [(.nm 0),(.nm 1)]) (.blt .enum [(.var 1)]) (.lit (.bl true)) (.emit (.fn "_law_image" [(.var 1),(.var 2),(.fn "_law_spread" [(.var 3),(.bin .add (.lit (.int 10)) (.var 0))])]))) [.val (.lst (sc.map .int)),.val (tupI r0),.val (tupI r1),.nil,.nil,.nil,.nil,.nil,.nil,.nil,.nil,.nil]=some (.lst ((lR r0 r1 fun j=>cf (10+j)).map tupI)):=by
  unfold lR
  rw [List.map_map]
  refine bt (g:=fun p:Int×Nat=>D.tup [.int (p.2:Int),.int p.1]) (by simp only [evI,evA,ev.eq_1,aO,List.getElem?_cons_zero,List.getElem?_cons_succ,hb]) rfl (by rw [List.length_zipIdx];exact Nat.le_trans g0.aS (by decide)) fun p hp=>⟨[.val (.int (p.2:Int)),.val (.int p.1),.val (tupI r1),.val (.lst (sc.map .int))],rfl,?_⟩
  obtain ⟨m,i⟩:=p
  have hi:r0[i]?=some m:=List.mk_mem_zipIdx_iff_getElem?.mp hp
  obtain ⟨hi1,hi2⟩:=List.getElem?_eq_some_iff.mp hi
  have hm:m∈r0:=hi2▸List.getElem_mem hi1
  have y1:=g0.ge m hm
  have y2:=g0.lt m hm
  have y3:=g0.aS
  have c3:=hc (10+(i:Int)) (by omega) (by have:=g0.len;omega)
  have e2:=vM (n:=n+8) (m:=m) (c:=cf (10+(i:Int))) (g:=r1) X.img X.div X.fdiv X.dr X.fdr g1 (by omega) (by omega)
  dsimp? [f1,f3,c3,e2]
  rfl
 have m0:=yv (a:=r0) g1.g2 fun j=>cf (10+j)
 have l0:(lR r0 r1 fun j=>cf (10+j)).length<=100:=by have:=m0.len;have:=g0.len;omega
 generalize (lR r0 r1 fun j=>cf (10+j))=i0 at m0 k4 l0
 have fr:b6 (.l (i0.map tupI))=true:=fR _
 refine st (ρ':=[.val (.lst (sc.map .int)),.val (tupI r0),.val (tupI r1),.nil,.owx (.l (i0.map tupI)),.nil,.nil,.nil,.nil,.nil,.nil,.nil]) (by simp only [aa.eq_1,evV,af,aI,List.modify_zero_cons,List.modify_succ_cons,k4,fr];rfl) ?_
 obtain ⟨S3,S4,ds,h1,h2,h3,h4⟩:=vE (n:=n+7) (r0:=r0) X M.A hc g1 (yy (is:=i0) fun x hx=>by have:=(m0.el x hx).len;have:=g1.aS;omega) (by simpa using l0)
 refine st h1 ?_
 obtain ⟨S4',h5,h6⟩:∃S4',IN.aa G (kal G (n+10)) (.asg (.nm 5) (.blt .list [(.var 4)]) [4]) [.val (.lst (sc.map .int)),.val (tupI r0),.val (tupI r1),S3,S4,.nil,.nil,.nil,.nil,.nil,.nil,.nil]=some (.nx [.val (.lst (sc.map .int)),.val (tupI r0),.val (tupI r1),S3,S4',.owx (.l ds),.nil,.nil,.nil,.nil,.nil,.nil])∧(S4'=.owx (.l ds)∨S4'=.val (.lst ds)):=by
  cases hf:b6 (.l ds) with
  |true=>
   rcases h2 with rfl|rfl
   ·exact ⟨.owx (.l ds),by dsimp? [hf],.inl rfl⟩
   ·exact ⟨.val (.lst ds),by dsimp? [hf],.inr rfl⟩
  |false=>
   rcases h2 with rfl|rfl
   ·exact ⟨.val (.lst ds),by dsimp? [hf],.inr rfl⟩
   ·exact ⟨.val (.lst ds),by dsimp? [hf],.inr rfl⟩
 refine st h5 ?_
 have f6:=X.Cp
 have flt:=vS (n:=n+7) (s:=r0) (g:=r1) (ds:=ds) M.A X.flt X.has X.An X.whole X.iL X.man X.zr g1 h3
 have nh:∀o,ak (headD o)=true:=fun o=>by cases o<;>rfl
 have h7:IN.aa G (kal G (n+10)) (.asg (.nm 6) (.fn "_law_fault" [(.var 1),(.var 2),(.var 4)]) [1,2,4]) [.val (.lst (sc.map .int)),.val (tupI r0),.val (tupI r1),S3,S4',.owx (.l ds),.nil,.nil,.nil,.nil,.nil,.nil]=some (.nx [.val (.lst (sc.map .int)),.val (tupI r0),.val (tupI r1),S3,S4',.owx (.l ds),.val (headD (d_ r1 r0 ds)),.nil,.nil,.nil,.nil,.nil]):=by
  rcases h6 with rfl|rfl<;>dsimp? [f6,flt,nh]
 refine st h7 ?_
 cases hh:d_ r1 r0 ds with
 |some i=>
  have e0:headD (some i)=.int (i:Int):=rfl
  have e1:b8 (.int (i:Int))=false:=rfl
  have rf:=m5 (n:=n+2) (s:=r0) (g:=r1) (ds:=ds) X.ref M g0 g1 h3 hh hx hg hs ho X.whole X.iL hk
  have fr9:=X.Ct
  have e3:decide ((ds.length:Int)=(ds.length:Int))=true:=decide_eq_true rfl
  refine az ?_
  rcases h6 with rfl|rfl<;>dsimp? [e0,e1,rf,fr9,e3]
 |none=>
  have e0:headD none=.non:=rfl
  have e1:b8 .non=true:=rfl
  obtain ⟨is,rfl,im⟩:=Be hh
  refine st (ρ':=[.val (.lst (sc.map .int)),.val (tupI r0),.val (tupI r1),S3,S4',.owx (.l (is.map tupI)),.val .non,.nil,.nil,.nil,.nil,.nil]) (by dsimp? [e0,e1]) ?_
  have o0:=lG (n:=n+7) (t:=tupI r0) M.A rfl g0
  have o1:=lG (n:=n+7) (t:=tupI r1) M.A rfl g1
  have fi1:=M.A.mM.1
  have fi2:=M.A.mM.2
  have fm1:=M.fmi.1
  have fm2:=M.fmi.2
  have p0:=vn (n:=n+3) M g0 g1 im
  have q0:ak (aM CM C r0 r1 is)=true:=p6
  refine st (ρ':=[.val (.lst (sc.map .int)),.val (tupI r0),.val (tupI r1),S3,S4',.owx (.l (is.map tupI)),.val .non,.val (aM CM C r0 r1 is),.nil,.nil,.nil,.nil]) (by dsimp? [fi1,fi2,fm1,fm2,o0,o1,p0,q0]) ?_
  have v0:=sH is
  have x1:=mG (s:=r0) (g:=r1) (is:=is) M
  have x2:=nW (s:=r0) (g:=r1) (is:=is) M
  have y0:=fL (ns:=r0) M.A
  have y1:=fL (ns:=r1) M.A
  have z0:∀r,bF .ne (tupI r) (tupI r)=some false:=fun r=>by rw [jJ,decide_eq_true rfl];rfl
  have z1:∀r,bF .eq (tupI r) (tupI r)=some true:=fun r=>by rw [ji,decide_eq_true rfl]
  refine st (ρ':=[.val (.lst (sc.map .int)),.val (tupI r0),.val (tupI r1),S3,S4',.owx (.l (is.map tupI)),.val .non,.val (aM CM C r0 r1 is),.nil,.nil,.nil,.nil]) (by rcases h6 with rfl|rfl<;>dsimp? [v0,x1,x2,y0,y1,z0]) ?_
  have lz:(is.map tupI).length<sizeLine:=Nat.lt_of_le_of_lt (show _<=102 from h4) (by decide)
  have nt:ak (.tup [])=true:=rfl
  have k0:(0:Nat)<=sizeLine:=by decide
  refine st (ρ':=[.val (.lst (sc.map .int)),.val (tupI r0),.val (tupI r1),S3,S4',.owx (.l (is.map tupI++[D.tup []])),.val .non,.val (aM CM C r0 r1 is),.nil,.nil,.nil,.nil]) (by dsimp? [lz,nt,k0]) ?_
  have lp:(0:Int)<=0∧(0:Int).toNat<(is.map tupI++[D.tup []]).length:=⟨Int.le_refl _,by simp⟩
  refine st (ρ':=[.val (.lst (sc.map .int)),.val (tupI r0),.val (tupI r1),S3,S4',.owx (.l ((is.map tupI++[D.tup []]).set (0:Int).toNat .non)),.val .non,.val (aM CM C r0 r1 is),.nil,.nil,.nil,.nil]) (by dsimp? [lp]) ?_
  generalize (is.map tupI++[D.tup []]).set (0:Int).toNat .non=hh5
  refine st (ρ':=[.val (.lst (sc.map .int)),.val (tupI r0),.val (tupI r1),S3,S4',.owx (.l hh5),.val .non,.val (aM CM C r0 r1 is),.any,.any,.nil,.nil]) (by rfl) ?_
  have b50:bz .range [.int 50]=some ((bG 50).map D.int):=rZ (by decide)
  obtain ⟨ρ',u1,S3',u2⟩:=qO (G:=G) (cl:=kal G (n+10)) (t:=.nm 3) (g:=D.int) (it:=.blt .range [(.lit (.int 50))]) (L:=[]) (ρ:=[.val (.lst (sc.map .int)),.val (tupI r0),.val (tupI r1),S3,S4',.owx (.l hh5),.val .non,.val (aM CM C r0 r1 is),.any,.any,.nil,.nil])
   (b:=[(.asg (.nm 8) (.fn "_law_drawn" [(.var 1),(.fn "_law_spread" [(.var 0),(.bin .add (.lit (.int 30)) (.var 3))])]) [1,0,3]),(.asg (.nm 9) (.fn "_law_drawn" [(.var 1),(.fn "_law_spread" [(.var 0),(.bin .add (.lit (.int 90)) (.var 3))])]) [1,0,3]),(.ife (.nt (.fn "_law_is" [(.var 2),(.mth (.var 7) "led" [(.var 8)]),(.fn "_law_led" [(.var 2),(.var 4),(.var 8)])])) [7,2,4,8] [(.ret (.lit (.bl false)) [])] []),(.ife (.cmp .ne (.fn "_law_sum" [(.var 2),(.mth (.var 7) "led" [(.var 8)]),(.mth (.var 7) "led" [(.var 9)])]) (.mth (.var 7) "led" [(.fn "_law_sum" [(.var 1),(.var 8),(.var 9)])])) [2,7,1,8,9] [(.ret (.lit (.bl false)) [])] []),(.fgt [8,9])])
   (fun _ ρ=>∃S3,ρ=[.val (.lst (sc.map .int)),.val (tupI r0),.val (tupI r1),S3,S4',.owx (.l hh5),.val .non,.val (aM CM C r0 r1 is),.any,.any,.nil,.nil]) (bG 50) (by simp only [af,evI,evA,ev.eq_2,b50]) rfl ⟨_,rfl⟩
   fun done a rest ρ e ⟨S3,q⟩=>by
    subst q
    have ha:=kF (show a∈bG 50 by rw [e];simp)
    exact ⟨_,_,rfl,sI (n:=n+4) X M hc g0 g1 im h6 (k:=a) (by omega),_,rfl⟩
  subst u2
  refine st u1 ?_
  have c3:=hc 3 (by decide) (by decide)
  have t5:(0:Int)<5:=by decide
  have f1z:(1:Nat)<=sizeLine:=by decide
  have f5z:(5:Nat)<=sizeLine:=by decide
  have lr:(r0.map D.int).length+1<=sizeLine:=Nat.le_trans (show _<=2000 by rw [List.length_map];have:=g0.aS;omega) (by decide)
  have sq:aL (tupI r0)=some (r0.map .int):=rfl
  have ln:(r0.map D.int).length=r0.length:=by simp
  obtain ⟨od,hdm,hat⟩:=k6 (l:=[.non,.tup (r0.map .int++[.int 0]),.lst (r0.map .int),.tup (r0.map .int++[.bl true]),.int 4]) (j:=cf 3%5) (Int.emod_nonneg _ (by decide)) (Int.emod_lt_of_pos _ (by decide))
  have hod:bL od=true∧bu r0 od=false:=by
   have q9:=g0.len
   simp only [List.mem_cons,List.not_mem_nil,or_false] at hdm
   rcases hdm with rfl|rfl|rfl|rfl|rfl
   ·exact ⟨rfl,rfl⟩
   ·exact ⟨ib (by omega) rfl,iM (by simp)⟩
   ·exact ⟨rfl,rfl⟩
   ·exact ⟨ib (by omega) rfl,iM (by simp)⟩
   ·exact ⟨rfl,rfl⟩
  refine st (ρ':=[.val (.lst (sc.map .int)),.val (tupI r0),.val (tupI r1),S3',S4',.owx (.l hh5),.val .non,.val (aM CM C r0 r1 is),.any,.any,.val od,.nil]) (by dsimp? [f1,c3,t5,f1z,f5z,lr,sq,hat]) ?_
  have rp:r0.length<2^20:=Nat.lt_of_le_of_lt g0.aS (by decide)
  have rp0:(0:Int)<=(r0.length:Int):=by omega
  have tn:((r0.length:Int)).toNat=r0.length:=rfl
  have nrep:ak (.tup (List.replicate r0.length (.bl false)))=true:=by
   show bg (List.replicate r0.length (D.bl false))=true
   induction r0.length with
   |zero=>rfl
   |succ m ih=>show (true&&bg (List.replicate m (D.bl false)))=true;rw [ih];rfl
  refine st (ρ':=[.val (.lst (sc.map .int)),.val (tupI r0),.val (tupI r1),S3',S4',.owx (.l hh5),.val .non,.val (aM CM C r0 r1 is),.any,.any,.val od,.val (.tup (List.replicate r0.length (.bl false)))]) (by dsimp? [sq,ln,rp,rp0,tn,f1z,nrep]) ?_
  have fno:=X.Cv
  have ne:=fun (d:D) (h1:bL d=true) (h2:bu r0 d=false)=>zf (n:=n+5) (s:=r0) (g:=r1) (d:=d) (is:=is) X.noe M g0 h1 h2 hxe hg hse hke
  refine st (ρ':=[.val (.lst (sc.map .int)),.val (tupI r0),.val (tupI r1),S3',S4',.owx (.l hh5),.val .non,.val (aM CM C r0 r1 is),.any,.any,.val od,.val (.tup (List.replicate r0.length (.bl false)))]) ?_ (az ?_)
  ·by_cases hr:r0=[]
   ·have dl:decide ((0:Int)<(r0.length:Int))=false:=by rw [hr];rfl
    dsimp? [sq,ln,dl]
   ·have dl:decide ((0:Int)<(r0.length:Int))=true:=decide_eq_true (by have:=List.length_pos_iff.mpr hr;omega)
    have n1:=ne _ (lW g0.aS rfl) (xu hr)
    have n2:=ne _ (eS g0.aS) (wD hr)
    dsimp? [sq,ln,dl,fno,n1,n2]
  ·have n3:=ne od hod.1 hod.2
   dsimp? [fno,n3,x1,x2,y0,y1,z1]
end
end PL
namespace R51
open PySem PySem.Spec L2 CT IN
open PyProof.Rows hiding St
noncomputable def top (i:Nat):Stmt:=PySem.Challenge.pw_carrytower_k51_maps.main.body.getD i (.Pass ⟨0,0,0,0⟩)
noncomputable def src:Src where
 gl:=[("int",.ty "int"),("bool",.ty "bool"),("list",.ty "list"),("tuple",.ty "tuple"),("ValueError",.ty "ValueError"),("LEAST_ROUND",.int 2),("MOST_MEMBERS",.int 144),("Rounds",.cl 414),("CarryError",.cl 31),("NotLike",.cl 104),("NoCount",.cl 116),("NoElement",.cl 56),("NoHead",.cl 92),("NoPair",.cl 128),("NoKind",.cl 140),("TooMany",.cl 197),("NoLower",.cl 68),("NoUpper",.cl 80),("NoMap",.cl 216),("NoTower",.cl 178),("NoCarry",.cl 159)]
 fn:=["is_whole","product","are_rounds","is_image","need_images","_law_spread","_law_whole","_law_sum","_law_many","_law_divisor","_law_drawn","_law_group","_law_image","_law_led","_law_is","_law_kinds","_law_class","_law_has","_law_spoilt","_law_fault","_law_refused","_law_no_element","law"]
 ini:=[("Rounds",(414,"Rounds.__init__")),("Map",(459,"Map.__init__"))]
 mth:=[((414,"has"),"Rounds.has"),((414,"nought"),"Rounds.nought"),((414,"heads"),"Rounds.heads"),((414,"like"),"Rounds.like"),((414,"sum_of"),"Rounds.sum_of"),((414,"need"),"Group.need"),((414,"times"),"Group.times"),((414,"total"),"Group.total"),((459,"led"),"Map.led")]
 fok:=[(414,"rounds"),(459,"source"),(459,"goal"),(459,"images")]
 exc:=[("NoElement",(56,[])),("NoMap",(216,["head"]))]
 xok:=[(216,"head")]
 sU:=[((56,104),false),((56,116),false),((56,56),true),((56,92),false),((56,128),false),((56,140),false),((56,197),false),((56,68),false),((56,80),false),((56,216),false),((56,178),false),((56,159),false),((56,31),true),((216,104),false),((216,116),false),((216,56),false),((216,92),false),((216,128),false),((216,140),false),((216,197),false),((216,68),false),((216,80),false),((216,216),true),((216,178),false),((216,159),false),((216,31),true)]
 sh:=[(56,true),(216,true)]
 sub:=[((56,31),true),((216,31),true)]
 uh:=[((414,414),true)]
 defs:=([("is_whole",(none,P.iz)),("product",(none,P.product)),("are_rounds",(none,P.fW)),("is_image",(none,P.eB)),("need_images",(none,P.fq)),("_law_spread",(none,L.spread)),("_law_whole",(none,L.whole)),("_law_sum",(none,L.sum)),("_law_many",(none,L.many)),("_law_divisor",(none,L.nz)),("_law_drawn",(none,L.drawn)),("_law_group",(none,L.group)),("_law_image",(none,L.image)),("_law_led",(none,L.led)),("_law_is",(none,L.is)),("_law_kinds",(none,L.kinds)),("_law_class",(none,L.class)),("_law_has",(none,L.has)),("_law_spoilt",(none,L.dy)),("_law_fault",(none,L.fault)),("_law_refused",(none,L.dI)),("_law_no_element",(none,L.d7)),("law",(none,L.jD)),("Rounds.__init__",(some 414,P.dv)),("Map.__init__",(some 459,P.eC)),("Rounds.has",(none,P.cH)),("Rounds.nought",(none,P.cQ)),("Rounds.heads",(none,P.eF)),("Rounds.like",(none,P.eY)),("Rounds.sum_of",(none,P.d4))]:List (Str×(Option Addr×Def)))++([("Group.need",(none,P.dj)),("Group.times",(none,P.e9)),("Group.total",(none,P.eZ)),("Map.led",(none,P.gW))]:List (Str×(Option Addr×Def)))
noncomputable abbrev G:Prg:=src.prg
local macro_rules|`(tactic|walk_at "c")=>`(tactic|exact ⟨rfl,rfl,rfl,by decide+kernel,rfl,by decide+kernel,by decide+kernel⟩)
theorem t0:DT G "is_whole" none P.iz "is_whole" "is_whole" (top 20) ["thing"]:=⟨⟨["thing"],by walk_at "c",by kernel_rfl,rfl⟩,fun _ _ _ _ _ _=>fk fun _=>rfl,rfl,rfl,rfl⟩
theorem t1:DT G "product" none P.product "product" "product" (top 21) ["numbers"]:=⟨⟨["numbers","whole","n"],by walk_at "c",by kernel_rfl,rfl⟩,fun _ _ _ _ _ _=>fk fun _=>rfl,rfl,rfl,rfl⟩
theorem t2:DT G "are_rounds" none P.fW "are_rounds" "are_rounds" (top 22) ["thing"]:=⟨⟨["thing"],by walk_at "c",by kernel_rfl,rfl⟩,fun _ _ _ _ _ _=>fk fun _=>rfl,rfl,rfl,rfl⟩
theorem t3:DT G "is_image" none P.eB "is_image" "is_image" (top 26) ["goal","n","thing"]:=⟨⟨["goal","n","thing"],by walk_at "c",by kernel_rfl,rfl⟩,fun _ _ _ _ _ _=>eP fun _ _ _=>rfl,rfl,rfl,rfl⟩
theorem t4:DT G "need_images" none P.fq "need_images" "need_images" (top 27) ["source","goal","images"]:=⟨⟨["source","goal","images","i","n"],by walk_at "c",by kernel_rfl,rfl⟩,fun _ _ _ _ _ _=>eP fun _ _ _=>rfl,rfl,rfl,rfl⟩
theorem t5:DT G "_law_spread" none L.spread "_law_spread" "_law_spread" (top 30) ["_law_script","_law_k"]:=⟨⟨["_law_script","_law_k","_law_beyond","_law_cell","_law_number"],by walk_at "c",by kernel_rfl,rfl⟩,fun _ _ _ _ _ _=>d5 fun _ _=>rfl,rfl,rfl,rfl⟩
theorem t6:DT G "_law_whole" none L.whole "_law_whole" "_law_whole" (top 31) ["_law_found"]:=⟨⟨["_law_found"],by walk_at "c",by kernel_rfl,rfl⟩,fun _ _ _ _ _ _=>fk fun _=>rfl,rfl,rfl,rfl⟩
theorem t7:DT G "_law_sum" none L.sum "_law_sum" "_law_sum" (top 33) ["_law_rounds","_law_a","_law_b"]:=⟨⟨["_law_rounds","_law_a","_law_b"],by walk_at "c",by kernel_rfl,rfl⟩,fun _ _ _ _ _ _=>eP fun _ _ _=>rfl,rfl,rfl,rfl⟩
theorem t8:DT G "_law_many" none L.many "_law_many" "_law_many" (top 34) ["_law_rounds","_law_n","_law_a"]:=⟨⟨["_law_rounds","_law_n","_law_a"],by walk_at "c",by kernel_rfl,rfl⟩,fun _ _ _ _ _ _=>eP fun _ _ _=>rfl,rfl,rfl,rfl⟩
theorem t9:DT G "_law_divisor" none L.nz "_law_divisor" "_law_divisor" (top 35) ["_law_one","_law_other"]:=⟨⟨["_law_one","_law_other"],by walk_at "c",by kernel_rfl,rfl⟩,fun _ _ _ _ _ _=>d5 fun _ _=>rfl,rfl,rfl,rfl⟩
theorem t10:DT G "_law_drawn" none L.drawn "_law_drawn" "_law_drawn" (top 36) ["_law_rounds","_law_cell"]:=⟨⟨["_law_rounds","_law_cell","_law_found","_law_number"],by walk_at "c",by kernel_rfl,rfl⟩,fun _ _ _ _ _ _=>d5 fun _ _=>rfl,rfl,rfl,rfl⟩
theorem t11:DT G "_law_group" none L.group "_law_group" "_law_group" (top 37) ["_law_cell"]:=⟨⟨["_law_cell","_law_some"],by walk_at "c",by kernel_rfl,rfl⟩,fun _ _ _ _ _ _=>fk fun _=>rfl,rfl,rfl,rfl⟩
theorem t12:DT G "_law_image" none L.image "_law_image" "_law_image" (top 38) ["_law_source_round","_law_goal","_law_cell"]:=⟨⟨["_law_source_round","_law_goal","_law_cell","_law_steps","_law_drawn_here"],by walk_at "c",by kernel_rfl,rfl⟩,fun _ _ _ _ _ _=>eP fun _ _ _=>rfl,rfl,rfl,rfl⟩
theorem t13:DT G "_law_led" none L.led "_law_led" "_law_led" (top 39) ["_law_goal","_law_images","_law_x"]:=⟨⟨["_law_goal","_law_images","_law_x","_law_total","_law_many_here","_law_image_here"],by walk_at "c",by kernel_rfl,rfl⟩,fun _ _ _ _ _ _=>eP fun _ _ _=>rfl,rfl,rfl,rfl⟩
theorem t14:DT G "_law_is" none L.is "_law_is" "_law_is" (top 40) ["_law_rounds","_law_found","_law_due"]:=⟨⟨["_law_rounds","_law_found","_law_due"],by walk_at "c",by kernel_rfl,rfl⟩,fun _ _ _ _ _ _=>eP fun _ _ _=>rfl,rfl,rfl,rfl⟩
theorem t15:DT G "_law_kinds" none L.kinds "_law_kinds" "_law_kinds" (top 41) ["_law_e"]:=⟨⟨["_law_e","_law_kinds_here"],by walk_at "c",by kernel_rfl,rfl⟩,fun _ _ _ _ _ _=>fk fun _=>rfl,rfl,rfl,rfl⟩
theorem t16:DT G "_law_class" none L.class "_law_class" "_law_class" (top 42) ["_law_word"]:=⟨⟨["_law_word","_law_some"],by walk_at "c",by kernel_rfl,rfl⟩,fun _ _ _ _ _ _=>fk fun _=>rfl,rfl,rfl,rfl⟩
theorem t17:DT G "_law_has" none L.has "_law_has" "_law_has" (top 43) ["_law_rounds","_law_thing"]:=⟨⟨["_law_rounds","_law_thing"],by walk_at "c",by kernel_rfl,rfl⟩,fun _ _ _ _ _ _=>d5 fun _ _=>rfl,rfl,rfl,rfl⟩
theorem t18:DT G "_law_spoilt" none L.dy "_law_spoilt" "_law_spoilt" (top 44) ["_law_cell","_law_goal","_law_images"]:=⟨⟨["_law_cell","_law_goal","_law_images","_law_kind","_law_at","_law_other","_law_some"],by walk_at "c",by kernel_rfl,rfl⟩,fun _ _ _ _ _ _=>eP fun _ _ _=>rfl,rfl,rfl,rfl⟩
theorem t19:DT G "_law_fault" none L.fault "_law_fault" "_law_fault" (top 45) ["_law_source","_law_goal","_law_images"]:=⟨⟨["_law_source","_law_goal","_law_images","_law_nought","_law_head","_law_n"],by walk_at "c",by kernel_rfl,rfl⟩,fun _ _ _ _ _ _=>eP fun _ _ _=>rfl,rfl,rfl,rfl⟩
theorem t20:DT G "_law_refused" none L.dI "_law_refused" "_law_refused" (top 46) ["_law_source","_law_goal","_law_images","_law_head"]:=⟨⟨["_law_source","_law_goal","_law_images","_law_head","_law_met","_law_e"],by walk_at "c",by kernel_rfl,rfl⟩,fun _ _ _ _ _ _=>AA fun _ _ _ _=>rfl,rfl,rfl,rfl⟩
theorem t21:DT G "_law_no_element" none L.d7 "_law_no_element" "_law_no_element" (top 47) ["_law_way","_law_thing"]:=⟨⟨["_law_way","_law_thing","_law_met","_law_e"],by walk_at "c",by kernel_rfl,rfl⟩,fun _ _ _ _ _ _=>d5 fun _ _=>rfl,rfl,rfl,rfl⟩
theorem t22:DT G "law" none L.jD "law" "law" (top 48) ["_law_script"]:=⟨⟨["_law_script","_law_source","_law_goal","_law_k","_law_images","_law_handed","_law_head","_law_way","_law_x","_law_y","_law_odd","_law_truths"],by walk_at "c",by kernel_rfl,rfl⟩,fun _ _ _ _ _ _=>fk fun _=>rfl,rfl,rfl,rfl⟩
theorem t23:DT G "Rounds.__init__" (some 414) P.dv "__init__" "Rounds.__init__" (inClass (top 24) 0) ["self","rounds"]:=⟨⟨["self","rounds"],by walk_at "c",by kernel_rfl,rfl⟩,fun _ _ _ _ _ _=>d5 fun _ _=>rfl,rfl,rfl,rfl⟩
theorem t24:DT G "Map.__init__" (some 459) P.eC "__init__" "Map.__init__" (inClass (top 28) 0) ["self","source","goal","images"]:=⟨⟨["self","source","goal","images"],by walk_at "c",by kernel_rfl,rfl⟩,fun _ _ _ _ _ _=>AA fun _ _ _ _=>rfl,rfl,rfl,rfl⟩
theorem t25:DT G "Rounds.has" none P.cH "has" "Rounds.has" (inClass (top 24) 2) ["self","thing"]:=⟨⟨["self","thing"],by walk_at "c",by kernel_rfl,rfl⟩,fun _ _ _ _ _ _=>d5 fun _ _=>rfl,rfl,rfl,rfl⟩
theorem t26:DT G "Rounds.nought" none P.cQ "nought" "Rounds.nought" (inClass (top 24) 3) ["self"]:=⟨⟨["self"],by walk_at "c",by kernel_rfl,rfl⟩,fun _ _ _ _ _ _=>fk fun _=>rfl,rfl,rfl,rfl⟩
theorem t27:DT G "Rounds.heads" none P.eF "heads" "Rounds.heads" (inClass (top 24) 4) ["self"]:=⟨⟨["self","many"],by walk_at "c",by kernel_rfl,rfl⟩,fun _ _ _ _ _ _=>fk fun _=>rfl,rfl,rfl,rfl⟩
theorem t28:DT G "Rounds.like" none P.eY "like" "Rounds.like" (inClass (top 24) 5) ["self","other"]:=⟨⟨["self","other"],by walk_at "c",by kernel_rfl,rfl⟩,fun _ _ _ _ _ _=>d5 fun _ _=>rfl,rfl,rfl,rfl⟩
theorem t29:DT G "Rounds.sum_of" none P.d4 "sum_of" "Rounds.sum_of" (inClass (top 24) 7) ["self","x","y"]:=⟨⟨["self","x","y"],by walk_at "c",by kernel_rfl,rfl⟩,fun _ _ _ _ _ _=>eP fun _ _ _=>rfl,rfl,rfl,rfl⟩
theorem t30:DT G "Group.need" none P.dj "need" "Group.need" (inClass (top 23) 7) ["self","thing"]:=⟨⟨["self","thing"],by walk_at "c",by kernel_rfl,rfl⟩,fun _ _ _ _ _ _=>d5 fun _ _=>rfl,rfl,rfl,rfl⟩
theorem t31:DT G "Group.times" none P.e9 "times" "Group.times" (inClass (top 23) 11) ["self","n","x"]:=⟨⟨["self","n","x","step","left","whole"],by walk_at "c",by kernel_rfl,rfl⟩,fun _ _ _ _ _ _=>eP fun _ _ _=>rfl,rfl,rfl,rfl⟩
theorem t32:DT G "Group.total" none P.eZ "total" "Group.total" (inClass (top 23) 13) ["self","some"]:=⟨⟨["self","some","whole","x"],by walk_at "c",by kernel_rfl,rfl⟩,fun _ _ _ _ _ _=>d5 fun _ _=>rfl,rfl,rfl,rfl⟩
theorem t33:DT G "Map.led" none P.gW "led" "Map.led" (inClass (top 28) 1) ["self","x"]:=⟨⟨["self","x"],by walk_at "c",by kernel_rfl,rfl⟩,fun _ _ _ _ _ _=>d5 fun _ _=>rfl,rfl,rfl,rfl⟩
theorem xR (ns:List Int) (hl:ns.length<=63):kal G 11 "law" [.lst (ns.map .int)]=some (.ok (.bl true)):=by
 have A:PL.GA G 414:=⟨rfl,rfl,rfl,rfl,rfl,rfl,rfl,rfl,rfl,rfl,rfl,rfl,fun n hn c hc=>if_pos ⟨hn,hc⟩,rfl,⟨rfl,rfl⟩,rfl⟩
 have M:PL.GM G 414:=⟨A,rfl,rfl,rfl,rfl,rfl,rfl,rfl,rfl,rfl,rfl,rfl,rfl,rfl,rfl,rfl,rfl,rfl,rfl⟩
 have P:PL.GP G 414 459:=⟨M,rfl,rfl,rfl,rfl,rfl,⟨rfl,rfl⟩,rfl,rfl,rfl,rfl,rfl⟩
 have X:PL.LN G:=⟨⟨rfl,rfl,rfl,rfl,rfl,rfl,rfl,rfl,rfl,rfl,rfl,rfl,rfl,rfl,rfl,rfl,rfl,rfl,rfl,rfl⟩,rfl,rfl,rfl,rfl,rfl,rfl,rfl,rfl,rfl,rfl⟩
 exact PL.xy (n:=0) (NM:=216) (NE:=56) (CE:=31) rfl hl X P rfl rfl rfl rfl rfl rfl (fun a b c d i=>by kernel_rfl) fun a b=>by kernel_rfl
end R51
namespace R51
open PySem PySem.Spec PySem.W L2 CT IN
open PyProof.Rows hiding St
theorem al_ {α:Type} {p:α->Prop} {a:α} {l:List α} (h:p a) (t:∀x∈l,p x):∀x∈a::l,p x:=List.forall_mem_cons.mpr ⟨h,t⟩
theorem all_mk {l:PySem.W.OpenLaw} {w:World} {K:PySem.W.Frag} {h:Heap} {mg:Str->Option Value} {fa:Addr} {kLEAST_ROUND kMOST_MEMBERS:Tok} (X:K.In h) (Y:h.Ns mainGlobals mg) (hfa:mg "law"=some (.ref fa))
  (aRounds:nsIn K mainGlobals "Rounds"=some (some (.ref 414)))
  (aCarryError:nsIn K mainGlobals "CarryError"=some (some (.ref 31)))
  (aNotLike:nsIn K mainGlobals "NotLike"=some (some (.ref 104)))
  (aNoCount:nsIn K mainGlobals "NoCount"=some (some (.ref 116)))
  (aNoElement:nsIn K mainGlobals "NoElement"=some (some (.ref 56)))
  (aNoHead:nsIn K mainGlobals "NoHead"=some (some (.ref 92)))
  (aNoPair:nsIn K mainGlobals "NoPair"=some (some (.ref 128)))
  (aNoKind:nsIn K mainGlobals "NoKind"=some (some (.ref 140)))
  (aTooMany:nsIn K mainGlobals "TooMany"=some (some (.ref 197)))
  (aNoLower:nsIn K mainGlobals "NoLower"=some (some (.ref 68)))
  (aNoUpper:nsIn K mainGlobals "NoUpper"=some (some (.ref 80)))
  (aNoMap:nsIn K mainGlobals "NoMap"=some (some (.ref 216)))
  (aNoTower:nsIn K mainGlobals "NoTower"=some (some (.ref 178)))
  (aNoCarry:nsIn K mainGlobals "NoCarry"=some (some (.ref 159)))
  (aMap:nsIn K mainGlobals "Map"=some (some (.ref 459)))
  (et0:GF K "is_whole" (top 20))
  (et1:GF K "product" (top 21))
  (et2:GF K "are_rounds" (top 22))
  (et3:GF K "is_image" (top 26))
  (et4:GF K "need_images" (top 27))
  (et5:GF K "_law_spread" (top 30))
  (et6:GF K "_law_whole" (top 31))
  (et7:GF K "_law_sum" (top 33))
  (et8:GF K "_law_many" (top 34))
  (et9:GF K "_law_divisor" (top 35))
  (et10:GF K "_law_drawn" (top 36))
  (et11:GF K "_law_group" (top 37))
  (et12:GF K "_law_image" (top 38))
  (et13:GF K "_law_led" (top 39))
  (et14:GF K "_law_is" (top 40))
  (et15:GF K "_law_kinds" (top 41))
  (et16:GF K "_law_class" (top 42))
  (et17:GF K "_law_has" (top 43))
  (et18:GF K "_law_spoilt" (top 44))
  (et19:GF K "_law_fault" (top 45))
  (et20:GF K "_law_refused" (top 46))
  (et21:GF K "_law_no_element" (top 47))
  (et22:GF K "law" (top 48))
  (et23:MF K 414 "__init__" "Rounds.__init__" (inClass (top 24) 0))
  (et24:MF K 459 "__init__" "Map.__init__" (inClass (top 28) 0))
  (et25:MF K 414 "has" "Rounds.has" (inClass (top 24) 2))
  (et26:MF K 414 "nought" "Rounds.nought" (inClass (top 24) 3))
  (et27:MF K 414 "heads" "Rounds.heads" (inClass (top 24) 4))
  (et28:MF K 414 "like" "Rounds.like" (inClass (top 24) 5))
  (et29:MF K 414 "sum_of" "Rounds.sum_of" (inClass (top 24) 7))
  (et30:MF K 414 "need" "Group.need" (inClass (top 23) 7))
  (et31:MF K 414 "times" "Group.times" (inClass (top 23) 11))
  (et32:MF K 414 "total" "Group.total" (inClass (top 23) 13))
  (et33:MF K 459 "led" "Map.led" (inClass (top 28) 1))
  (oRounds:lX K 414=true)
  (oMap:lX K 459=true)
  (mkRounds:makesIn K 414=true)
  (kcRounds:keepIn K (.ref 414)=true)
  (mkMap:makesIn K 459=true)
  (kcMap:keepIn K (.ref 459)=true)
  (n0:findIn K (.ref 414) "rounds"=some none)
  (n1:findIn K (.ref 459) "source"=some none)
  (n2:findIn K (.ref 459) "goal"=some none)
  (n3:findIn K (.ref 459) "images"=some none)
  (vLEAST_ROUND:nsIn K mainGlobals "LEAST_ROUND"=some (some (.int 2 kLEAST_ROUND)))
  (vMOST_MEMBERS:nsIn K mainGlobals "MOST_MEMBERS"=some (some (.int 144 kMOST_MEMBERS)))
  (q0:kitOne K (.ref 414) (.ref 414)=some true)
  (ty:zN K=true)
  (zs:ph.all (fun x=>nsIn K mainGlobals x==some none)=true)
  (zbool:nsIn K mainGlobals "bool"=some none)
  (zVE:nsIn K mainGlobals "ValueError"=some none)
  (x0NoElement:excIn K 56 bmV "ValueError.__new__"=true)
  (xkNoElement:keepIn K (.ref 56)=true)
  (xcNoElement:jv K 56=true)
  (xtNoElement:typeIn K (.ref 56)=some (.type "type"))
  (xcNoMap:jv K 216=true)
  (xtNoMap:typeIn K (.ref 216)=some (.type "type"))
  (xcCarryError:jv K 31=true)
  (xtCarryError:typeIn K (.ref 31)=some (.type "type"))
  (xm0:mroIn K 56 (.ref 31)=some true)
  (xm1:mroIn K 216 (.ref 31)=some true)
  (qx0:kitOne K (.ref 56) (.ref 104)=some false)
  (qx1:kitOne K (.ref 56) (.ref 116)=some false)
  (qx2:kitOne K (.ref 56) (.ref 56)=some true)
  (qx3:kitOne K (.ref 56) (.ref 92)=some false)
  (qx4:kitOne K (.ref 56) (.ref 128)=some false)
  (qx5:kitOne K (.ref 56) (.ref 140)=some false)
  (qx6:kitOne K (.ref 56) (.ref 197)=some false)
  (qx7:kitOne K (.ref 56) (.ref 68)=some false)
  (qx8:kitOne K (.ref 56) (.ref 80)=some false)
  (qx9:kitOne K (.ref 56) (.ref 216)=some false)
  (qx10:kitOne K (.ref 56) (.ref 178)=some false)
  (qx11:kitOne K (.ref 56) (.ref 159)=some false)
  (qx12:kitOne K (.ref 56) (.ref 31)=some true)
  (qx13:kitOne K (.ref 216) (.ref 104)=some false)
  (qx14:kitOne K (.ref 216) (.ref 116)=some false)
  (qx15:kitOne K (.ref 216) (.ref 56)=some false)
  (qx16:kitOne K (.ref 216) (.ref 92)=some false)
  (qx17:kitOne K (.ref 216) (.ref 128)=some false)
  (qx18:kitOne K (.ref 216) (.ref 140)=some false)
  (qx19:kitOne K (.ref 216) (.ref 197)=some false)
  (qx20:kitOne K (.ref 216) (.ref 68)=some false)
  (qx21:kitOne K (.ref 216) (.ref 80)=some false)
  (qx22:kitOne K (.ref 216) (.ref 216)=some true)
  (qx23:kitOne K (.ref 216) (.ref 178)=some false)
  (qx24:kitOne K (.ref 216) (.ref 159)=some false)
  (qx25:kitOne K (.ref 216) (.ref 31)=some true)
  (qv0:kitOne K (.ref 56) (.type "ValueError")=some true)
  (qv1:kitOne K (.ref 216) (.type "ValueError")=some true)
  (xiNoMap:MF K 216 "__init__" "NoMap.__init__" (inClass (top 15) 0))
  (xmNoMap:fP K 216=true)
  (xkNoMap:keepIn K (.ref 216)=true)
  (xnNoMap:findIn K (.ref 216) "head"=some none):
  ∃fd:FuncData,(∀(s:Shared) (v:Value),BindsTo s fd ⟨[v],[]⟩ [("_law_script",v)])∧∀base:Heap,K.In base->base.Ns mainGlobals mg->aw l.prog w K mg base CX0 36 fa fd ["_law_script"] (spD K (lD G 11)):=by
 have z:∀x∈ph,mg x=none:=fun x hx=>mg_none_of X Y (beq_iff_eq.mp (List.all_eq_true.mp zs x hx))
 exact zd (n:=11) X Y hfa (fun base=>yX (s:=src) z
  (al_ ⟨z _ (by decide),rfl⟩ (al_ ⟨mg_none_of X Y zbool,rfl⟩ (al_ ⟨z _ (by decide),rfl⟩ (al_ ⟨z _ (by decide),rfl⟩ (al_ ⟨mg_none_of X Y zVE,rfl⟩ (al_ ⟨_,mg_of X Y vLEAST_ROUND⟩ (al_ ⟨_,mg_of X Y vMOST_MEMBERS⟩ (al_ (mg_of X Y aRounds) (al_ (mg_of X Y aCarryError) (al_ (mg_of X Y aNotLike) (al_ (mg_of X Y aNoCount) (al_ (mg_of X Y aNoElement) (al_ (mg_of X Y aNoHead) (al_ (mg_of X Y aNoPair) (al_ (mg_of X Y aNoKind) (al_ (mg_of X Y aTooMany) (al_ (mg_of X Y aNoLower) (al_ (mg_of X Y aNoUpper) (al_ (mg_of X Y aNoMap) (al_ (mg_of X Y aNoTower) (al_ (mg_of X Y aNoCarry) (List.forall_mem_nil _)))))))))))))))))))))) ty
  (al_ ⟨q0,fx oRounds⟩ (List.forall_mem_nil _)) (al_ ⟨qx0,ar xcNoElement⟩ (al_ ⟨qx1,ar xcNoElement⟩ (al_ ⟨qx2,ar xcNoElement⟩ (al_ ⟨qx3,ar xcNoElement⟩ (al_ ⟨qx4,ar xcNoElement⟩ (al_ ⟨qx5,ar xcNoElement⟩ (al_ ⟨qx6,ar xcNoElement⟩ (al_ ⟨qx7,ar xcNoElement⟩ (al_ ⟨qx8,ar xcNoElement⟩ (al_ ⟨qx9,ar xcNoElement⟩ (al_ ⟨qx10,ar xcNoElement⟩ (al_ ⟨qx11,ar xcNoElement⟩ (al_ ⟨qx12,ar xcNoElement⟩ (al_ ⟨qx13,ar xcNoMap⟩ (al_ ⟨qx14,ar xcNoMap⟩ (al_ ⟨qx15,ar xcNoMap⟩ (al_ ⟨qx16,ar xcNoMap⟩ (al_ ⟨qx17,ar xcNoMap⟩ (al_ ⟨qx18,ar xcNoMap⟩ (al_ ⟨qx19,ar xcNoMap⟩ (al_ ⟨qx20,ar xcNoMap⟩ (al_ ⟨qx21,ar xcNoMap⟩ (al_ ⟨qx22,ar xcNoMap⟩ (al_ ⟨qx23,ar xcNoMap⟩ (al_ ⟨qx24,ar xcNoMap⟩ (al_ ⟨qx25,ar xcNoMap⟩ (List.forall_mem_nil _))))))))))))))))))))))))))) (al_ ⟨qv0,ar xcNoElement⟩ (al_ ⟨qv1,ar xcNoMap⟩ (List.forall_mem_nil _)))
  (al_ (GF.row X Y t0 et0) (al_ (GF.row X Y t1 et1) (al_ (GF.row X Y t2 et2) (al_ (GF.row X Y t3 et3) (al_ (GF.row X Y t4 et4) (al_ (GF.row X Y t5 et5) (al_ (GF.row X Y t6 et6) (al_ (GF.row X Y t7 et7) (al_ (GF.row X Y t8 et8) (al_ (GF.row X Y t9 et9) (al_ (GF.row X Y t10 et10) (al_ (GF.row X Y t11 et11) (al_ (GF.row X Y t12 et12) (al_ (GF.row X Y t13 et13) (al_ (GF.row X Y t14 et14) (al_ (GF.row X Y t15 et15) (al_ (GF.row X Y t16 et16) (al_ (GF.row X Y t17 et17) (al_ (GF.row X Y t18 et18) (al_ (GF.row X Y t19 et19) (al_ (GF.row X Y t20 et20) (al_ (GF.row X Y t21 et21) (al_ (GF.row X Y t22 et22) (List.forall_mem_nil _))))))))))))))))))))))))
  (al_ (MF.ini X Y aRounds mkRounds kcRounds t23 et23) (al_ (MF.ini X Y aMap mkMap kcMap t24 et24) (List.forall_mem_nil _)))
  (al_ (MF.row oRounds t25 et25) (al_ (MF.row oRounds t26 et26) (al_ (MF.row oRounds t27 et27) (al_ (MF.row oRounds t28 et28) (al_ (MF.row oRounds t29 et29) (al_ (MF.row oRounds t30 et30) (al_ (MF.row oRounds t31 et31) (al_ (MF.row oRounds t32 et32) (al_ (MF.row oMap t33 et33) (List.forall_mem_nil _))))))))))
  (al_ ⟨(fx oRounds).cl,n0⟩ (al_ ⟨(fx oMap).cl,n1⟩ (al_ ⟨(fx oMap).cl,n2⟩ (al_ ⟨(fx oMap).cl,n3⟩ (List.forall_mem_nil _))))) (al_ ⟨(ar xcNoMap).cl,xnNoMap⟩ (List.forall_mem_nil _)) (al_ ⟨mg_of X Y aNoElement,(ar xcNoElement).cl,xtNoElement,fun _=>⟨x0NoElement,xkNoElement⟩,fun z=>absurd rfl z⟩ (al_ ⟨mg_of X Y aNoMap,(ar xcNoMap).cl,xtNoMap,(fun z=>nomatch z),fun _=>MF.x1 (y:="head") xiNoMap ⟨rfl,rfl,rfl,by decide+kernel,rfl,by decide+kernel,by decide+kernel⟩ ⟨_,_,_,_,rfl⟩ (fun _ _ _ _ _ _=>d5 fun _ _=>rfl) xmNoMap xkNoMap (ar xcNoMap).cl xnNoMap (by decide) (by decide)⟩ (List.forall_mem_nil _))) (al_ ⟨xm0,nG xcCarryError xtCarryError⟩ (al_ ⟨xm1,nG xcCarryError xtCarryError⟩ (List.forall_mem_nil _)))) t22 et22
theorem walk {l:PySem.W.OpenLaw} {q:Program} {loose:List Str} {XP:(Str->Option Value)->Heap->Prop} {YP:World->Heap->Prop} {d:DefRec} {K:Params->PySem.W.Frag} (hn:l.most=some 63) (hdf:d.params.defaults=[])
  (hY:∀(w:World) (h:Heap),YP w h->(K w.params).In h)
  (F:∀(w:World) (mg:Str->Option Value) (fa:Addr) (h:Heap),(K w.params).In h->h.Ns mainGlobals mg->mg d.name=some (.ref fa)->
   ∃fd:FuncData,(∀(s:Shared) (u:Value),BindsTo s fd ⟨[u],[]⟩ [("_law_script",u)])∧∀base:Heap,(K w.params).In base->base.Ns mainGlobals mg->aw l.prog w (K w.params) mg base CX0 36 fa fd ["_law_script"] (spD (K w.params) (lD G 11))):
  PySem.W.WalkO q loose XP YP l.row.toRowW d [] (fun f vs=>PySem.call f vs):=
 L2.vf (n:=63) (k:=36) (x:="_law_script") (CX:=fun _=>CX0) (sp:=fun w=>spD (K w.params) (lD G 11)) hn (by decide) hdf ⟨rfl,by decide,by decide⟩ hY F (fun _ _ a ns hl _ hS=>yD (xR ns hl) hS) fun _ _ _ _ _ z=>z
end R51
local macro_rules|`(universe $_)=>do
 let b:=`PySem.Challenge.cw_carrytower_k51_maps_holds
 let c<- ((List.range 749).map (b.str s!"o_{·}")++["tree_584","tree_426","tree_717","tree_633","sts_101","tree_511","sts_718","sts_86","sts_272","tree_205","sts_176","sts_206","tree_100","tree_227","sts_585","tree_271","tree_748","sts_228","sts_161","tree_145","heap_749","sts_191","tree_190","sts_146","sts_116","sts_250","tree_160","sts_515","tree_130","sts_131","thread_511","tree_175","env_41","tree_70","tree_312","tree_47","sts_71","tree_115","heap_46","sts_634","view_39","tree_249","sts_313","tree_85","sts_49","heap_39"].map b.str++[`PySem.Challenge.pw_carrytower_k51_maps]).mapM fun x=>do
  let n:=Lean.mkIdent (.str `PySem.W.Fast s!"tw{x.hash}")
  `(command|theorem $n:ident:True:=trivial)
 return Lean.mkNullNode (c.toArray.map (·.raw))
universe u
open PySem PySem.W PyProof.Rows
local macro_rules|`(tactic|walk_at "g")=>`(tactic|(refine' IN.AV ?a ?l ?c ?k;(case a=>k_is);(case l=>k_is);(case c=>k_is);(case k=>k_is)))
local macro_rules|`(tactic|walk_at "m")=>`(tactic|(refine' IN.AL ?a ?i ?l ?c ?k;(case a=>k_is);(case i=>k_is);(case l=>k_is);(case c=>k_is);(case k=>k_is)))
set_option maxRecDepth 100000 in
set_option maxHeartbeats 0 in
theorem PySem.Challenge.cw_carrytower_k51_maps_holds : PySem.Challenge.rw_carrytower_k51_maps.Holds := by
 w_on;o_law;k_head;(case hw=>w_witness2)
 k_fill
 refine R51.walk (l:=PySem.Challenge.rw_carrytower_k51_maps) rfl rfl (fun w h Y=>PySem.W.kIn_of Y) ?F
 case F=>
  intro w mg fa h KX G hmg
  refine' R51.all_mk KX G hmg ?aRounds ?aCarryError ?aNotLike ?aNoCount ?aNoElement ?aNoHead ?aNoPair ?aNoKind ?aTooMany ?aNoLower ?aNoUpper ?aNoMap ?aNoTower ?aNoCarry ?aMap ?et0 ?et1 ?et2 ?et3 ?et4 ?et5 ?et6 ?et7 ?et8 ?et9 ?et10 ?et11 ?et12 ?et13 ?et14 ?et15 ?et16 ?et17 ?et18 ?et19 ?et20 ?et21 ?et22 ?et23 ?et24 ?et25 ?et26 ?et27 ?et28 ?et29 ?et30 ?et31 ?et32 ?et33 ?oRounds ?oMap ?mkRounds ?kcRounds ?mkMap ?kcMap ?n0 ?n1 ?n2 ?n3 ?vLEAST_ROUND ?vMOST_MEMBERS ?q0 ?ty ?zs ?zbool ?zVE ?x0NoElement ?xkNoElement ?xcNoElement ?xtNoElement ?xcNoMap ?xtNoMap ?xcCarryError ?xtCarryError ?xm0 ?xm1 ?qx0 ?qx1 ?qx2 ?qx3 ?qx4 ?qx5 ?qx6 ?qx7 ?qx8 ?qx9 ?qx10 ?qx11 ?qx12 ?qx13 ?qx14 ?qx15 ?qx16 ?qx17 ?qx18 ?qx19 ?qx20 ?qx21 ?qx22 ?qx23 ?qx24 ?qx25 ?qv0 ?qv1 ?xiNoMap ?xmNoMap ?xkNoMap ?xnNoMap
  (case aRounds=>k_is)
  (case aCarryError=>k_is)
  (case aNotLike=>k_is)
  (case aNoCount=>k_is)
  (case aNoElement=>k_is)
  (case aNoHead=>k_is)
  (case aNoPair=>k_is)
  (case aNoKind=>k_is)
  (case aTooMany=>k_is)
  (case aNoLower=>k_is)
  (case aNoUpper=>k_is)
  (case aNoMap=>k_is)
  (case aNoTower=>k_is)
  (case aNoCarry=>k_is)
  (case aMap=>k_is)
  (case et0=>walk_at "g")
  (case et1=>walk_at "g")
  (case et2=>walk_at "g")
  (case et3=>walk_at "g")
  (case et4=>walk_at "g")
  (case et5=>walk_at "g")
  (case et6=>walk_at "g")
  (case et7=>walk_at "g")
  (case et8=>walk_at "g")
  (case et9=>walk_at "g")
  (case et10=>walk_at "g")
  (case et11=>walk_at "g")
  (case et12=>walk_at "g")
  (case et13=>walk_at "g")
  (case et14=>walk_at "g")
  (case et15=>walk_at "g")
  (case et16=>walk_at "g")
  (case et17=>walk_at "g")
  (case et18=>walk_at "g")
  (case et19=>walk_at "g")
  (case et20=>walk_at "g")
  (case et21=>walk_at "g")
  (case et22=>walk_at "g")
  (case et23=>walk_at "m")
  (case et24=>walk_at "m")
  (case et25=>walk_at "m")
  (case et26=>walk_at "m")
  (case et27=>walk_at "m")
  (case et28=>walk_at "m")
  (case et29=>walk_at "m")
  (case et30=>walk_at "m")
  (case et31=>walk_at "m")
  (case et32=>walk_at "m")
  (case et33=>walk_at "m")
  (case oRounds=>kernel_rfl)
  (case oMap=>kernel_rfl)
  (case mkRounds=>k_is)
  (case kcRounds=>k_is)
  (case mkMap=>k_is)
  (case kcMap=>k_is)
  (case n0=>k_is)
  (case n1=>k_is)
  (case n2=>k_is)
  (case n3=>k_is)
  (case vLEAST_ROUND=>k_is)
  (case vMOST_MEMBERS=>k_is)
  (case q0=>kernel_rfl)
  (case ty=>kernel_rfl)
  (case zs=>kernel_rfl)
  (case zbool=>k_is)
  (case zVE=>k_is)
  (case x0NoElement=>first|k_is|kernel_rfl)
  (case xkNoElement=>first|k_is|kernel_rfl)
  (case xcNoElement=>kernel_rfl)
  (case xtNoElement=>first|k_is|kernel_rfl)
  (case xcNoMap=>kernel_rfl)
  (case xtNoMap=>first|k_is|kernel_rfl)
  (case xcCarryError=>kernel_rfl)
  (case xtCarryError=>first|k_is|kernel_rfl)
  (case xm0=>first|k_is|kernel_rfl)
  (case xm1=>first|k_is|kernel_rfl)
  (case qx0=>kernel_rfl)
  (case qx1=>kernel_rfl)
  (case qx2=>kernel_rfl)
  (case qx3=>kernel_rfl)
  (case qx4=>kernel_rfl)
  (case qx5=>kernel_rfl)
  (case qx6=>kernel_rfl)
  (case qx7=>kernel_rfl)
  (case qx8=>kernel_rfl)
  (case qx9=>kernel_rfl)
  (case qx10=>kernel_rfl)
  (case qx11=>kernel_rfl)
  (case qx12=>kernel_rfl)
  (case qx13=>kernel_rfl)
  (case qx14=>kernel_rfl)
  (case qx15=>kernel_rfl)
  (case qx16=>kernel_rfl)
  (case qx17=>kernel_rfl)
  (case qx18=>kernel_rfl)
  (case qx19=>kernel_rfl)
  (case qx20=>kernel_rfl)
  (case qx21=>kernel_rfl)
  (case qx22=>kernel_rfl)
  (case qx23=>kernel_rfl)
  (case qx24=>kernel_rfl)
  (case qx25=>kernel_rfl)
  (case qv0=>kernel_rfl)
  (case qv1=>kernel_rfl)
  (case xiNoMap=>walk_at "m")
  (case xmNoMap=>first|k_is|kernel_rfl)
  (case xkNoMap=>first|k_is|kernel_rfl)
  (case xnNoMap=>first|k_is|kernel_rfl)
