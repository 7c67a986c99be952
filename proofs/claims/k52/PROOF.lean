import PyProof.Rows.All
import Wide.All
import OpenK.AllK
import Wide.FinOn
import Lean
import PyProof.EqAt
import PyProof.EqKinds
import PyProof.TupleCall
import PyProof.CompUse
import PyProof.Cells
import PyProof.CompFree
import PyProof.PlainList
import PyProof.ListMulRoad
import PyProof.AutoListH
import PyProof.TupleIter
import PyProof.FactsAll.tuple_2
import KE.KIsAll
import OpenK.KOwn
import PyProof.ExcInit
import PyProof.ExcArgsOwn
import PyProof.ExcAttrAll.ValueError
import PyProof.DictRoadsH
import PyProof.P3Eq
import KE.KDictOf
import PyProof.DictIter
import PyProof.ZipIter
import PyProof.NeData
import PyProof.Rows.SumAny
import PyProof.EnumMake
import PyProof.Draws
import PyProof.EnumFor
import PyProof.EnumStmt
import PyProof.Rows.SeqMore
import PyProof.DictCompW
import PyProof.StationsW
import PyProof.RulesAs
import PyProof.NsDelKeeps
import PySem.Challenge.RW_carrytower_k52_maps_behind_maps
set_option Elab.async false
set_option linter.all false
set_option maxRecDepth 100000
set_option maxHeartbeats 4000000
set_option exponentiation.threshold 200000
set_option bootstrap.genMatcherCode false
set_option genSizeOf false
set_option compiler.extract_closed false
namespace L2
open PySem PySem.Spec PyProof.Rows
noncomputable abbrev Key:=Sum Int Str
noncomputable def tQ:Key->Value->Bool
 |.inl k,v=>Value.isInt k v
 |.inr x,v=>Value.isStrOf x v
noncomputable def Br (w:World):Key->Int
 |.inl k=>hashInt k
 |.inr x=>hashStr w x
theorem a7:∀{k:Key} {v:Value},tQ k v=true->(∃i t,k=Sum.inl i∧v=Value.int i t)∨(∃x t,k=Sum.inr x∧v=Value.str x t)
 |.inl i,v,h=>by
  obtain ⟨t,e⟩:=Value.isInt_shape (k:=i) (v:=v) h
  exact .inl ⟨i,t,rfl,e⟩
 |.inr x,v,h=>by
  obtain ⟨t,e⟩:=Value.isStrOf_shape (x:=x) (v:=v) h
  exact .inr ⟨x,t,rfl,e⟩
theorem v8 (a b:Int):decide ((Sum.inl a:Key)=Sum.inl b)=(a==b):=by
 by_cases e:a=b
 ·subst e;simp
 ·have h:¬(Sum.inl a:Key)=Sum.inl b:=fun q=>e (Sum.inl.inj q)
  rw [decide_eq_false h]
  exact (beq_eq_false_iff_ne.mpr e).symm
theorem yG (a b:Str):decide ((Sum.inr a:Key)=Sum.inr b)=decide (a=b):=by
 by_cases e:a=b
 ·subst e;simp
 ·have h:¬(Sum.inr a:Key)=Sum.inr b:=fun q=>e (Sum.inr.inj q)
  rw [decide_eq_false h,decide_eq_false e]
theorem xH (a:Int) (b:Str):decide ((Sum.inl a:Key)=Sum.inr b)=false:=decide_eq_false (fun q=>nomatch q)
theorem yW (a:Str) (b:Int):decide ((Sum.inr a:Key)=Sum.inl b)=false:=decide_eq_false (fun q=>nomatch q)
noncomputable def mR (prog:Program) (w:World):PySem.KeyKind prog w Key where
 is:=tQ
 hash:=Br w
 inj:=fun v a b ha hb=>by
  rcases a7 ha with ⟨i,t,rfl,rfl⟩|⟨x,t,rfl,rfl⟩
  ·rcases a7 hb with ⟨j,u,rfl,e⟩|⟨y,u,rfl,e⟩
   ·injection e with e1 _;rw [e1]
   ·exact nomatch e
  ·rcases a7 hb with ⟨j,u,rfl,e⟩|⟨y,u,rfl,e⟩
   ·exact nomatch e
   ·injection e with e1 _;rw [e1]
 byValue:=fun k v h=>by
  rcases a7 h with ⟨i,t,rfl,rfl⟩|⟨x,t,rfl,rfl⟩<;>rfl
 pyHash:=fun hv h=>by
  rcases a7 hv with ⟨i,t,rfl,rfl⟩|⟨x,t,rfl,rfl⟩
  ·exact wpAny_pyHash_int h
  ·exact wpAny_pyHash_str h
 eqBool:=fun hu hv h=>by
  rcases a7 hu with ⟨i,t,rfl,rfl⟩|⟨x,t,rfl,rfl⟩
  ·rcases a7 hv with ⟨j,u,rfl,rfl⟩|⟨y,u,rfl,rfl⟩
   ·rw [v8] at h;exact wpAny_eqBool_int h
   ·rw [xH] at h;exact SeqAt.EqAt.int_str i t y u _ _ _ _ h
  ·rcases a7 hv with ⟨j,u,rfl,rfl⟩|⟨y,u,rfl,rfl⟩
   ·rw [yW] at h;exact SeqAt.EqAt.str_int x t j u _ _ _ _ h
   ·rw [yG] at h;exact wpAny_eqBool_str h
 «strs»:=fun k x t v h=>by
  rcases a7 h with ⟨i,u,rfl,e⟩|⟨y,u,rfl,e⟩
  ·exact nomatch e
  ·injection e with e1 _
   subst e1
   cases v<;>rfl
end L2
namespace L2
open PySem PySem.Spec PyProof.Rows
inductive V where
 |non|bl (b:Bool)|int (i:Int)|str (x:Str)|byt (b:Array UInt8)|flt (b:UInt64)|ref (a:Addr)|ty (n:String)
 deriving DecidableEq
noncomputable def RelV:V->Value->Prop
 |.non,u=>u=Value.none
 |.bl b,u=>u=Value.bool b
 |.int i,u=>∃t,u=Value.int i t
 |.str x,u=>∃t,u=Value.str x t
 |.byt b,u=>∃t,u=Value.bytes b t
 |.flt b,u=>∃t,u=Value.float b t
 |.ref a,u=>u=Value.ref a
 |.ty n,u=>u=Value.type n
noncomputable abbrev Vals:List V->List Value->Prop:=Paired RelV
theorem Vals.length {xs:List V} {us:List Value} (r:Vals xs us):xs.length=us.length:=Paired.length r
theorem Vals.get:∀{xs:List V} {us:List Value} {i:Nat} {x:V},Vals xs us->xs[i]?=some x->∃u,us[i]?=some u∧RelV x u
 |_,_,_,_,.nil,e=>by simp at e
 |_,_,0,_,.cons r _,e=>by simp at e;subst e;exact ⟨_,rfl,r⟩
 |_,_,i+1,x,.cons _ t,e=>by
  obtain ⟨u,h1,h2⟩:=Vals.get (i:=i) (x:=x) t (by simpa using e)
  exact ⟨u,by simpa using h1,h2⟩
theorem Vals.append:∀{xs ys:List V} {us ws:List Value},Vals xs us->Vals ys ws->Vals (xs++ys) (us++ws)
 |_,_,_,_,.nil,s=>s
 |_,_,_,_,.cons r t,s=>.cons r (Vals.append t s)
theorem Vals.take:∀{xs:List V} {us:List Value} (n:Nat),Vals xs us->Vals (xs.take n) (us.take n)
 |_,_,0,_=>.nil
 |_,_,_+1,.nil=>.nil
 |_,_,n+1,.cons r t=>.cons r (Vals.take n t)
theorem Vals.drop:∀{xs:List V} {us:List Value} (n:Nat),Vals xs us->Vals (xs.drop n) (us.drop n)
 |_,_,0,r=>r
 |_,_,_+1,.nil=>.nil
 |_,_,n+1,.cons _ t=>Vals.drop n t
noncomputable def c6:Option V->Option Value->Prop
 |some v,some u=>RelV v u
 |none,none=>True
 |_,_=>False
noncomputable def KV {κ:Type}:List (κ×V)->List (κ×Value)->Prop:=Paired fun (p:κ×V) (q:κ×Value)=>p.1=q.1∧RelV p.2 q.2
noncomputable def kV:Key->V
 |.inl i=>.int i
 |.inr x=>.str x
inductive HO where
 |lst (xs:List V)
 |tup (xs:List V)
 |dK (kvs:List (Key×V))|dT (kvs:List (List Key×V))
 |set (S:Int->Bool) (n:Nat)
 |ins (C dx:Addr) (fs:List (Str×V))
 |own (x:Addr)
 |xd (fs:List (Str×V))
 |met (f x:Addr)
 |rng (lo hi:Int)
 |frz (o:Obj) (u:HO)
 |tbl (ps:Array Value)
 |ext (φ:Heap->Prop)
noncomputable abbrev Hp:=Addr->Option HO
noncomputable def upd (H:Hp) (a:Addr) (o:HO):Hp:=fun b=>if b=a then some o else H b
theorem au {H:Hp} {a:Addr} {o:HO}:upd H a o a=some o:=by unfold upd;rw [if_pos rfl]
theorem ag {H:Hp} {a b:Addr} {o:HO} (h:b≠a):upd H a o b=H b:=by unfold upd;rw [if_neg h]
theorem uA {H:Hp} {a:Addr} {o u:HO}:upd (upd H a o) a u=upd H a u:=by
 funext b;unfold upd;split<;>rfl
theorem aj {H:Hp} {a b:Addr} {o:HO} (h:H a=some o) (h':H b=none):a≠b:=by
 intro e;subst e;rw [h] at h';cases h'
section
variable (P:Program) (w:World)
noncomputable def aR (H:Hp) (h:Heap) (a:Addr):HO->Prop
 |.lst xs=>xs.length<=sizeLine∧∃(its:List Value) (n:Nat),Vals xs its∧h.get? a=some {cls:=.type "list",data:=.seq its.toArray n}
 |.tup xs=>xs.length<=sizeLine∧∃its:List Value,Vals xs its∧IsTup h a its.toArray
 |.dK kvs=>kvs.length<=sizeLine∧(a==sysModules)=false∧∃vs,KV kvs vs∧h.DictOf (mR P w) a vs
 |.dT kvs=>kvs.length<=sizeLine∧(a==sysModules)=false∧∃xs:List (List Key×Addr×Value),
   Paired (fun (p:List Key×V) (q:List Key×Addr×Value)=>p.1=q.1∧H q.2.1=some (.tup (p.1.map kV))∧RelV p.2 q.2.2) kvs xs∧
   ∃o es ep,h.get? a=some o∧o.ExactDict∧o.data=.dict es ep∧es.toList=xs.map (entryOfKey (tupleKind (mR P w)))∧(xs.map (·.1)).Nodup
 |.set S n=>h.SetOf (intKind P w) a S n
 |.ins C dx fs=>H dx=some (.own a)∧fs.length<=1000∧dx≠a∧h.get? a=some (PySem.W.instObj C dx)∧
   ∃mA,h.Ns1 dx mA∧(∀f,c6 (fs.lookup f) (mA f))∧PySem.Within mA (fs.map (·.1))
 |.own _=>∃o,h.get? a=some o
 |.xd fs=>∃mA,h.Ns1 a mA∧∀f,c6 (fs.lookup f) (mA f)
 |.rng lo hi=>∃t u v,h.get? a=some {cls:=.type "range",data:=.fields #[.int lo t,.int hi u,.int 1 v]}
 |.frz o u=>h.get? a=some o∧aR H h a u
 |.tbl ps=>h.get? a=some {cls:=.none,data:=.fields ps}
 |.met f x=>h.get? a=some (PySem.W.methodObj (.ref f) (.ref x))
 |.ext φ=>φ h∧(∃o,h.get? a=some o)∧∀h1 h2:Heap,φ h1->(∀o,h1.get? a=some o->h2.get? a=some o)->φ h2
noncomputable def HOk (H:Hp) (h:Heap):Prop:=∀a o,H a=some o->aR P w H h a o
end
section
variable {P:Program} {w:World} {H H':Hp} {h h':Heap} {a:Addr} {o:HO}
theorem aR.lt (x:aR P w H h a o):a<h.objs.size:=by
 cases o with
 |lst xs=>obtain ⟨_,_,_,_,e⟩:=x;exact Heap.lt_size e
 |tup xs=>obtain ⟨_,_,_,p⟩:=x;exact p.lt
 |dK kvs=>obtain ⟨_,_,_,_,o,_,_,e,_⟩:=x;exact Heap.lt_size e
 |dT kvs=>obtain ⟨_,_,_,_,o,_,_,e,_⟩:=x;exact Heap.lt_size e
 |set S n=>obtain ⟨o,_,_,_,e,_⟩:=x;exact Heap.lt_size e
 |ins C dx fs=>obtain ⟨_,_,_,e,_⟩:=x;exact Heap.lt_size e
 |own y=>obtain ⟨_,e⟩:=x;exact Heap.lt_size e
 |xd fs=>obtain ⟨_,⟨_,_,_,e,_⟩,_⟩:=x;exact Heap.lt_size e
 |rng lo hi=>obtain ⟨_,_,_,e⟩:=x;exact Heap.lt_size e
 |frz ob u=>obtain ⟨e,_⟩:=x;exact Heap.lt_size e
 |tbl ps=>exact Heap.lt_size (show h.get? a=some _ from x)
 |met f y=>exact Heap.lt_size (show h.get? a=some _ from x)
 |ext φ=>obtain ⟨_,⟨_,e⟩,_⟩:=x;exact Heap.lt_size e
theorem Paired.ya {α β:Type} {F G:α->β->Prop}:∀{l₁:List α} {l₂:List β},Paired F l₁ l₂->(∀a b,F a b->G a b)->Paired G l₁ l₂
 |_,_,.nil,_=>.nil
 |_,_,.cons r t,f=>.cons (f _ _ r) (Paired.ya t f)
theorem aR.eA (x:aR P w H h a o) (k:∀b u,(b=a∨H b=some (.own a))->h.get? b=some u->h'.get? b=some u)
  (ho:∀b,H b=some (.own a)->H' b=some (.own a)) (ht:∀b xs,H b=some (.tup xs)->H' b=some (.tup xs)):aR P w H' h' a o:=by
 induction o with
 |lst xs=>obtain ⟨z,its,n,r,e⟩:=x;exact ⟨z,its,n,r,k _ _ (.inl rfl) e⟩
 |tup xs=>obtain ⟨z,its,r,ob,e,c⟩:=x;exact ⟨z,its,r,ob,k _ _ (.inl rfl) e,c⟩
 |dK kvs=>obtain ⟨z,y,vs,r,ob,es,ep,e,c⟩:=x;exact ⟨z,y,vs,r,ob,es,ep,k _ _ (.inl rfl) e,c⟩
 |dT kvs=>
  obtain ⟨z,y,xs,r,ob,es,ep,e,c⟩:=x
  exact ⟨z,y,xs,Paired.ya r fun p q z=>⟨z.1,ht _ _ z.2.1,z.2.2⟩,ob,es,ep,k _ _ (.inl rfl) e,c⟩
 |set S n=>obtain ⟨ob,es,ep,t,e,c⟩:=x;exact ⟨ob,es,ep,t,k _ _ (.inl rfl) e,c⟩
 |ins C dx fs=>
  obtain ⟨d,z,ne,e,mA,⟨od,es,ep,e2,c⟩,r⟩:=x
  exact ⟨ho _ d,z,ne,k _ _ (.inl rfl) e,mA,⟨od,es,ep,k _ _ (.inr d) e2,c⟩,r⟩
 |own y=>obtain ⟨ob,e⟩:=x;exact ⟨ob,k _ _ (.inl rfl) e⟩
 |xd fs=>obtain ⟨mA,⟨od,es,ep,e,c⟩,r⟩:=x;exact ⟨mA,⟨od,es,ep,k _ _ (.inl rfl) e,c⟩,r⟩
 |rng lo hi=>obtain ⟨t,u,v,e⟩:=x;exact ⟨t,u,v,k _ _ (.inl rfl) e⟩
 |frz ob u ih=>obtain ⟨e,q⟩:=x;exact ⟨k _ _ (.inl rfl) e,ih q⟩
 |tbl ps=>
  have e:h.get? a=some {cls:=.none,data:=.fields ps}:=x
  show h'.get? a=some {cls:=.none,data:=.fields ps}
  exact k a _ (.inl rfl) e
 |met f y=>
  have e:h.get? a=some (PySem.W.methodObj (.ref f) (.ref y)):=x
  show h'.get? a=some (PySem.W.methodObj (.ref f) (.ref y))
  exact k a _ (.inl rfl) e
 |ext φ=>obtain ⟨p,⟨o,e⟩,st⟩:=x;exact ⟨st _ _ p fun o q=>k _ _ (.inl rfl) q,⟨o,k _ _ (.inl rfl) e⟩,st⟩
theorem HOk.lt (x:HOk P w H h) (e:H a=some o):a<h.objs.size:=(x a o e).lt
theorem HOk.fresh (x:HOk P w H h) (e:h.objs.size<=a):H a=none:=by
 cases q:H a with
 |none=>rfl
 |some u=>exact absurd (Nat.lt_of_lt_of_le (x.lt q) e) (Nat.lt_irrefl _)
theorem HOk.kept (x:HOk P w H h) (k:∀b u,h.get? b=some u->h'.get? b=some u):HOk P w H h':=fun a o e=>
 (x a o e).eA (fun b u _ q=>k b u q) (fun _ q=>q) fun _ _ q=>q
theorem HOk.laid (x:HOk P w H h) (k:∀b u,h.get? b=some u->h'.get? b=some u) (hp:h.objs.size<=a) (new:aR P w (upd H a o) h' a o):HOk P w (upd H a o) h':=fun b u e=>by
 have hn:=x.fresh hp
 by_cases hb:b=a
 ·subst hb;rw [au] at e;cases e;exact new
 ·rw [ag hb] at e
  exact (x b u e).eA (fun c v _ q=>k c v q) (fun c q=>by rw [ag (aj q hn)];exact q) fun c xs q=>by rw [ag (aj q hn)];exact q
end
noncomputable def Rd (H:Hp) (a:Addr) (u:HO):Prop:=H a=some u∨∃o,H a=some (.frz o u)
theorem Rd.ok {P:Program} {w:World} {H:Hp} {h:Heap} {a:Addr} {u:HO} (r:Rd H a u) (x:HOk P w H h):aR P w H h a u:=by
 rcases r with r|⟨o,r⟩
 ·exact x a u r
 ·obtain ⟨_,q⟩:=x a _ r
  exact q
noncomputable def Mut:Option HO->Prop
 |some (.lst _)=>True
 |some (.dK _)=>True
 |some (.dT _)=>True
 |some (.set _ _)=>True
 |some (.ins _ _ _)=>True
 |some (.ext _)=>True
 |_=>False
section
variable {P:Program} {w:World} {H:Hp} {h h':Heap} {x e:Addr} {o':HO}
theorem HOk.write (ok:HOk P w H h) (mu:Mut (H x)) (he:e=x∨H e=some (.own x)) (k:∀b u,b≠e->h.get? b=some u->h'.get? b=some u) (heo:∃u,h'.get? e=some u)
  (new:aR P w (upd H x o') h' x o'):HOk P w (upd H x o') h':=fun b u q=>by
 have nown:∀c y,H c=some (.own y)->c≠x:=fun c y r z=>by subst z;rw [r] at mu;exact mu
 have ntup:∀c xs,H c=some (.tup xs)->c≠x:=fun c xs r z=>by subst z;rw [r] at mu;exact mu
 by_cases hb:b=x
 ·subst hb;rw [au] at q;cases q;exact new
 ·rw [ag hb] at q
  by_cases hbe:b=e
  ·have q':H b=some (.own x):=by
    rcases he with z|z
    ·exact absurd (hbe.trans z) hb
    ·rw [hbe];exact z
   rw [q] at q';cases q'
   obtain ⟨v,hv⟩:=heo
   exact ⟨v,by rw [hbe];exact hv⟩
  ·refine (ok b u q).eA (fun c v hc r=>k c v ?_ r) (fun c r=>by rw [ag (nown c b r)];exact r) fun c xs r=>by rw [ag (ntup c xs r)];exact r
   rcases hc with rfl|hc
   ·exact hbe
   ·rintro rfl
    rcases he with z|z
    ·exact nown c b hc z
    ·rw [hc] at z;cases z;exact hb rfl
end
structure Un (fs ex:List Addr) (H H':Hp) (h h':Heap):Prop where
 keep:∀b o,h.get? b=some o->H b=none->b∉fs->b∉ex->h'.get? b=some o
 slot:∀b o,h.get? b=some o->H b=none->b∈fs->b∉ex->∃sl,h'.get? b=some {o with slots:=sl}
 free:∀b o,h.get? b=some o->H b=none->b∉ex->H' b=none
 there:∀b o,h.get? b=some o->b∉ex->∃o',h'.get? b=some o'
 eY:∀b xs,H b=some (.tup xs)->H' b=some (.tup xs)
 eJ:∀b o u,H b=some (.frz o u)->H' b=some (.frz o u)
 eP:∀b ps,H b=some (.tbl ps)->∃more,H' b=some (.tbl (ps++more))
section
variable {fs fs' ex ex':List Addr} {H H1 H2:Hp} {h h1 h2 h':Heap} {a x e:Addr} {o:HO}
theorem Un.any (u:Un fs ex H H1 h h1) {b:Addr} {ob:Obj} (q:h.get? b=some ob) (n:H b=none) (hx:b∉ex):∃sl,h1.get? b=some {ob with slots:=sl}:=by
 by_cases hb:b∈fs
 ·exact u.slot b ob q n hb hx
 ·exact ⟨ob.slots,u.keep b ob q n hb hx⟩
theorem Un.kept (k:∀b u,h.get? b=some u->h'.get? b=some u):Un fs ex H H h h':=
 ⟨fun b ob q _ _ _=>k b ob q,fun b ob q _ _ _=>⟨ob.slots,k b ob q⟩,fun _ _ _ n _=>n,fun b ob q _=>⟨ob,k b ob q⟩,fun _ _ q=>q,fun _ _ _ q=>q,fun _ ps q=>⟨#[],by rw [q];simp⟩⟩
theorem Un.refl:Un fs ex H H h h:=Un.kept fun _ _ q=>q
theorem Un.laid (k:∀b u,h.get? b=some u->h'.get? b=some u) (hp:h.objs.size<=a) (hn:H a=none):Un fs ex H (upd H a o) h h' where
 keep:=fun b u q _ _ _=>k b u q
 slot:=fun b u q _ _ _=>⟨u.slots,k b u q⟩
 free:=fun b u q n _=>by rw [ag (Nat.ne_of_lt (Nat.lt_of_lt_of_le (Heap.lt_size q) hp))];exact n
 there:=fun b u q _=>⟨u,k b u q⟩
 eY:=fun b xs q=>by rw [ag (aj q hn)];exact q
 eJ:=fun b u xs q=>by rw [ag (aj q hn)];exact q
 eP:=fun b ps q=>⟨#[],by rw [ag (aj q hn),q];simp⟩
theorem Un.write (mu:Mut (H x)) (he:e=x∨H e=some (.own x)) (k:∀b u,b≠e->h.get? b=some u->h'.get? b=some u) (heo:∃u,h'.get? e=some u):Un fs ex H (upd H x o) h h':=by
 have hx:∀b,H b=none->b≠x:=fun b n z=>by subst z;rw [n] at mu;exact mu
 have hb:∀b,H b=none->b≠e:=fun b n z=>by
  subst z
  rcases he with r|r
  ·exact hx b n r
  ·rw [n] at r;cases r
 have hm:∀b u,H b=some u->¬Mut (some u)->b≠x:=fun b u q nm z=>by subst z;rw [q] at mu;exact nm mu
 refine ⟨fun b u q n _ _=>k b u (hb b n) q,fun b u q n _ _=>⟨u.slots,k b u (hb b n) q⟩,fun b u q n _=>by rw [ag (hx b n)];exact n,fun b u q _=>?_,
  fun b xs q=>by rw [ag (hm b _ q fun z=>z)];exact q,fun b u xs q=>by rw [ag (hm b _ q fun z=>z)];exact q,fun b ps q=>⟨#[],by rw [ag (hm b _ q fun z=>z),q];simp⟩⟩
 by_cases hbe:b=e
 ·subst hbe;exact heo
 ·exact ⟨u,k b u hbe q⟩
end
noncomputable def trk (h:Heap) (H:Hp):List Addr:=(List.range h.objs.size).filter fun a=>(H a).isSome
noncomputable def fE (h:Heap) (H:Hp):Heap:=PySem.W.hideAll h (trk h H)
theorem oN (h:Heap) (H:Hp):(fE h H).objs.size=h.objs.size:=PySem.W.hideAll_size _ _
theorem qR {h:Heap} {H:Hp} {b:Addr} {o:Obj} (e:h.get? b=some o) (n:H b=none):(fE h H).get? b=some o:=
 PySem.W.hideAll_get _ e fun hm=>by
  have q:(H b).isSome=true:=(List.mem_filter.mp hm).2
  rw [n] at q;simp at q
theorem vK {h:Heap} {H:Hp} {b:Addr} {o:Obj} (e:(fE h H).get? b=some o):h.get? b=some o∧H b=none:=by
 have e':h.get? b=some o:=PySem.W.of_hideAll (trk h H) e
 refine ⟨e',?_⟩
 cases q:H b with
 |none=>rfl
 |some x=>
  have hm:b∈trk h H:=List.mem_filter.mpr ⟨List.mem_range.mpr (Heap.lt_size e'),by simp [q]⟩
  have z:(fE h H).get? b=none:=PySem.W.hideAll_none (trk h H) hm
  rw [z] at e;cases e
noncomputable def vA (g h:Heap) (L:Addr):List (Addr×Obj):=(List.range h.objs.size).filterMap fun a=>if a=L∨(g.get? a).isSome=true then none else (h.get? a).map fun o=>(a,o)
noncomputable def rest (g h:Heap) (L d:Addr):List (Addr×Obj):=(vA g h L).filter fun p=>decide (p.1≠d)
end L2
namespace L2
open PySem PySem.Spec PyProof.Rows
structure Mod (K:PySem.W.Frag) (mg:Str->Option Value) (base:Heap):Prop where
 kin:K.In base
 glob:base.Ns mainGlobals mg
 blt:∃mb,base.Ns builtinsNs mb∧∀x:Str,x≠"__name__"->mb x=bootBuiltins x
 nolimit:base.NoLimit
structure Cx where
 prog:Program
 w:World
 K:PySem.W.Frag
 mg:Str->Option Value
 base:Heap
 A:Around
 N:List Str
 s₀:Shared
 H₀:Hp
 env:Env
 outer:List Env
 stack:List Env
 ex:List Addr
 fn:Str->Bool
 calm:Bool
 pn:List (Addr×Obj)
 xe:Value->Shared->Prop
noncomputable def frs (l:List Env):List Addr:=l.filterMap (·.frame)
noncomputable abbrev Cx.fs (X:Cx):List Addr:=frs X.outer
noncomputable def Vis (sc:Scope) (x:Str):Prop:=sc.names.lookup x=some .local∨sc.names.lookup x=some .cell∨sc.names.lookup x=some .free
noncomputable def Loc (sc:Scope) (x:Str):Prop:=sc.names.lookup x=some .local∨sc.names.lookup x=some .cell
noncomputable def Look (env:Env) (h:Heap) (m:Str->Option Value) (x:Str) (u:Value):Prop:=
 (env.kindOf x=some .local∧m x=some u)∨((env.kindOf x=some .cell∨env.kindOf x=some .free)∧∃c,env.cells.lookup x=some c∧h.IsCell c (some u))
structure Cx.Ok (X:Cx):Prop where
 mod:Mod X.K X.mg X.base
 kind:X.env.scope.kind=.function
 glob:X.env.globals=mainGlobals
 blt:X.env.builtins=builtinsNs
 above:X.s₀.heap.objs.size<=X.env.locals
 inj:∀x y c,X.env.cells.lookup x=some c->X.env.cells.lookup y=some c->x=y
 has:∀x,(X.env.kindOf x=some .cell∨X.env.kindOf x=some .free)->∃c,X.env.cells.lookup x=some c
 cab:∀x c,X.fn x=true->X.env.cells.lookup x=some c->X.s₀.heap.objs.size<=c
 hd:X.calm=true->X.A.handled=none
 frames:X.A.frames=some X.stack
 stk:X.stack=X.outer∨(X.stack=X.env::X.outer∧X.env.frame=some X.env.locals)
 exf:∀b∈X.ex,b≠X.env.locals∧∀x c,X.env.cells.lookup x=some c->c≠b
 bs:∀b o,X.base.get? b=some o->X.s₀.heap.get? b=some o∧X.H₀ b=none
 bsz:X.base.objs.size<=X.s₀.heap.objs.size
 fA:∀b o,X.base.get? b=some o->b∉X.ex
 ie:∀b∈X.ex,b∉X.fs
 cJ:X.s₀.heap.FunFrames X.base X.outer
 frf:∀b∈X.fs,X.H₀ b=none
structure Inv (X:Cx) (pins:List (Addr×Obj)) (σ:List (Option V)) (H:Hp) (s:Shared):Prop where
 ok:X.Ok
 os:s.os=X.s₀.os
 bare:AllBare s.gens
 base:Un X.fs X.ex X.H₀ H X.s₀.heap s.heap
 loc:∃m,s.heap.Ns X.env.locals m∧∀(i:Nat) (x:Str) (v:V),X.N[i]?=some x->σ[i]?=some (some v)->Vis X.env.scope x->∃u,RelV v u∧Look X.env s.heap m x u
 cell:∀x c,X.env.cells.lookup x=some c->∃v,s.heap.IsCell c v
 free:H X.env.locals=none
 bF:∀x c,X.env.cells.lookup x=some c->H c=none
 pin:∀p∈X.pn++pins,s.heap.get? p.1=some p.2∧H p.1=none∧p.1≠X.env.locals∧p.1∉X.fs∧∀v,p.2.data≠.cell v
 hok:HOk X.prog X.w H s.heap
 len:σ.length=X.N.length
section
variable {X:Cx} {pins:List (Addr×Obj)} {σ:List (Option V)} {H H':Hp} {s:Shared} {h':Heap}
theorem Cx.Ok.AG (ok:X.Ok) {b:Addr} {o:Obj} (e:X.base.get? b=some o):b∉X.fs:=fun hb=>by
 have:=(ok.cJ.mem hb).1
 rw [e] at this;cases this
theorem Inv.bs (I:Inv X pins σ H s):∀b o,X.base.get? b=some o->s.heap.get? b=some o∧H b=none:=fun b o e=>
 ⟨I.base.keep b o (I.ok.bs b o e).1 (I.ok.bs b o e).2 (I.ok.AG e) (I.ok.fA b o e),I.base.free b o (I.ok.bs b o e).1 (I.ok.bs b o e).2 (I.ok.fA b o e)⟩
theorem Inv.bk (I:Inv X pins σ H s):∀b o,X.base.get? b=some o->s.heap.get? b=some o:=fun b o e=>(I.bs b o e).1
theorem Inv.mod (I:Inv X pins σ H s):Mod X.K X.mg X.base:=I.ok.mod
theorem Inv.kIn (I:Inv X pins σ H s):X.K.In s.heap:=I.ok.mod.kin.keeps I.bk
theorem Inv.lt (I:Inv X pins σ H s):X.env.locals<s.heap.objs.size:=let ⟨_,hn,_⟩:=I.loc;hn.lt
theorem Inv.sz (I:Inv X pins σ H s):X.s₀.heap.objs.size<=s.heap.objs.size:=Nat.le_trans I.ok.above (Nat.le_of_lt I.lt)
theorem Inv.wF (I:Inv X pins σ H s) {a:Addr} (h:s.heap.objs.size<=a):a∉X.fs:=fun hb=>by
 obtain ⟨_,o,ho,_⟩:=I.ok.cJ.mem hb
 exact absurd (Nat.lt_of_lt_of_le (Heap.lt_size ho) (Nat.le_trans I.sz h)) (Nat.lt_irrefl _)
theorem Inv.cne (I:Inv X pins σ H s):∀x c,X.env.cells.lookup x=some c->c≠X.env.locals:=fun x c e z=>by
 obtain ⟨v,o,ho,hd⟩:=I.cell x c e
 obtain ⟨m,⟨o',es,ep,ho',hd',_⟩,_⟩:=I.loc
 rw [z,ho'] at ho;cases ho;rw [hd'] at hd;cases hd
theorem Inv.cJ (I:Inv X pins σ H s):s.heap.FunFrames X.base X.outer:=by
 have all:∀(l:List Env),(∀b∈frs l,b∈X.fs)->X.s₀.heap.FunFrames X.base l->s.heap.FunFrames X.base l:=by
  intro l
  induction l with
  |nil=>intro _ _;trivial
  |cons env r ih=>
   intro hs hl
   obtain ⟨hk,⟨L,o,hf,hn,ho,hd⟩,hr⟩:=hl
   have hL:L∈X.fs:=hs L (by unfold frs;rw [List.filterMap_cons,hf];exact List.mem_cons_self)
   obtain ⟨sl,e⟩:=I.base.slot L o ho (I.ok.frf L hL) hL fun z=>I.ok.ie L z hL
   exact ⟨hk,⟨L,_,hf,hn,e,hd⟩,ih (fun b hb=>hs b (by unfold frs;rw [List.filterMap_cons,hf];exact List.mem_cons_of_mem _ hb)) hr⟩
 exact all X.outer (fun _ hb=>hb) I.ok.cJ
theorem Inv.stack (I:Inv X pins σ H s):s.heap.FunFrames X.base X.stack:=by
 rcases I.ok.stk with e|⟨e,hf⟩
 ·rw [e];exact I.cJ
 ·rw [e]
  obtain ⟨m,hn,_⟩:=I.loc
  refine .cons (by rw [I.ok.kind];decide) hf hn ?_ I.cJ
  exact Heap.get?_none_of_le (Nat.le_trans I.ok.bsz I.ok.above)
theorem Inv.fv (I:Inv X pins σ H s):∀b∈frs X.stack,b∈X.env.locals::X.fs:=fun b hb=>by
 rcases I.ok.stk with e|⟨e,hf⟩
 ·rw [e] at hb;exact List.mem_cons_of_mem _ hb
 ·rw [e] at hb
  unfold frs at hb
  rw [List.filterMap_cons,hf] at hb
  exact hb
theorem Inv.jh (I:Inv X pins σ H s):∀b∈frs X.stack,H b=none:=fun b hb=>by
 rcases List.mem_cons.mp (I.fv b hb) with e|hb
 ·rw [e];exact I.free
 ·obtain ⟨_,o,ho,_⟩:=I.ok.cJ.mem hb
  exact I.base.free b o ho (I.ok.frf b hb) fun z=>I.ok.ie b z hb
theorem Inv.step {g':Array GenState} {t':Nat} {d':Drawn} {ch:List Addr} (I:Inv X pins σ H s)
  (hch:∀b∈ch,(b∈X.ex∨X.s₀.heap.objs.size<=b)∧b≠X.env.locals∧(∀x c,X.env.cells.lookup x=some c->c≠b)∧∀p∈X.pn++pins,p.1≠b)
  (keep:∀b o,b≠X.env.locals->b∉X.fs->b∉ch->s.heap.get? b=some o->H b=none->h'.get? b=some o)
  (slot:∀b o,b≠X.env.locals->b∈X.fs->b∉ch->s.heap.get? b=some o->H b=none->∃sl,h'.get? b=some {o with slots:=sl}) (free:∀b o,b∉ch->s.heap.get? b=some o->H b=none->H' b=none)
  (there:∀b o,b∉ch->s.heap.get? b=some o->∃o',h'.get? b=some o')
  (eY:∀b xs,H b=some (.tup xs)->H' b=some (.tup xs)) (eJ:∀b o u,H b=some (.frz o u)->H' b=some (.frz o u)) (eP:∀b ps,H b=some (.tbl ps)->∃more,H' b=some (.tbl (ps++more)))
  (ns:∀m,s.heap.Ns X.env.locals m->h'.Ns X.env.locals m) (hok:HOk X.prog X.w H' h') (hg:AllBare g'):
  Inv X pins σ H' {s with heap:=h',gens:=g',drawn:=d',toks:=t'}:=by
 have neL:∀b o,X.s₀.heap.get? b=some o->b≠X.env.locals:=fun b o e=>Nat.ne_of_lt (Nat.lt_of_lt_of_le (Heap.lt_size e) I.ok.above)
 have neC:∀b o,X.s₀.heap.get? b=some o->b∉X.ex->b∉ch:=fun b o e hx hb=>by
  rcases (hch b hb).1 with z|z
  ·exact hx z
  ·exact absurd (Nat.lt_of_lt_of_le (Heap.lt_size e) z) (Nat.lt_irrefl _)
 have cellK:∀x c,X.env.cells.lookup x=some c->∀v,s.heap.IsCell c v->h'.IsCell c v:=fun x c e v ⟨o,ho,hd⟩=>by
  have nch:c∉ch:=fun z=>(hch c z).2.2.1 x c e rfl
  by_cases hc:c∈X.fs
  ·obtain ⟨sl,q⟩:=slot c o (I.cne x c e) hc nch ho (I.bF x c e)
   exact ⟨_,q,hd⟩
  ·exact ⟨o,keep c o (I.cne x c e) hc nch ho (I.bF x c e),hd⟩
 refine ⟨I.ok,I.os,hg,⟨fun b o e n hb hx=>?_,fun b o e n hb hx=>?_,fun b o e n hx=>?_,fun b o e hx=>?_,fun b xs e=>eY b xs (I.base.eY b xs e),fun b o xs e=>eJ b o xs (I.base.eJ b o xs e),fun b ps e=>?_⟩,?_,fun x c e=>?_,?_,fun x c e=>?_,fun p hp=>?_,hok,I.len⟩
 ·exact keep b o (neL b o e) hb (neC b o e hx) (I.base.keep b o e n hb hx) (I.base.free b o e n hx)
 ·obtain ⟨sl,e1⟩:=I.base.slot b o e n hb hx
  obtain ⟨sl',e2⟩:=slot b _ (neL b o e) hb (neC b o e hx) e1 (I.base.free b o e n hx)
  exact ⟨sl',e2⟩
 ·obtain ⟨o',e1⟩:=I.base.there b o e hx
  exact free b o' (neC b o e hx) e1 (I.base.free b o e n hx)
 ·obtain ⟨o',e1⟩:=I.base.there b o e hx
  exact there b o' (neC b o e hx) e1
 ·obtain ⟨m1,e1⟩:=I.base.eP b ps e
  obtain ⟨m2,e2⟩:=eP b _ e1
  exact ⟨m1++m2,by rw [e2,Array.append_assoc]⟩
 ·obtain ⟨m,hn,hl⟩:=I.loc
  refine ⟨m,ns m hn,fun i x v e1 e2 e3=>?_⟩
  obtain ⟨u,r,l⟩:=hl i x v e1 e2 e3
  refine ⟨u,r,?_⟩
  rcases l with l|⟨k,c,e,z⟩
  ·exact .inl l
  ·exact .inr ⟨k,c,e,cellK x c e _ z⟩
 ·obtain ⟨v,z⟩:=I.cell x c e
  exact ⟨v,cellK x c e v z⟩
 ·obtain ⟨m,⟨o,_,_,ho,_⟩,_⟩:=I.loc
  exact free _ o (fun z=>(hch _ z).2.1 rfl) ho I.free
 ·obtain ⟨v,o,ho,hd⟩:=I.cell x c e
  exact free c o (fun z=>(hch c z).2.2.1 x c e rfl) ho (I.bF x c e)
 ·obtain ⟨e,n,ne,nf,d⟩:=I.pin p hp
  have nch:p.1∉ch:=fun z=>(hch p.1 z).2.2.2 p hp rfl
  exact ⟨keep p.1 p.2 ne nf nch e n,free p.1 p.2 nch e n,ne,nf,d⟩
theorem Inv.un {t':Nat} (I:Inv X pins σ H s) (u:Un X.fs [] H H' s.heap h') (hok:HOk X.prog X.w H' h'):Inv X pins σ H' {s with heap:=h',toks:=t'}:=by
 obtain ⟨m,⟨o,es,ep,ho,r⟩,_⟩:=id I.loc
 obtain ⟨sl,hL⟩:=u.any ho I.free (by simp)
 exact I.step (g':=s.gens) (d':=s.drawn) (ch:=[]) (fun _ z=>nomatch z) (fun b o _ hb _ e n=>u.keep b o e n hb (by simp)) (fun b o _ hb _ e n=>u.slot b o e n hb (by simp)) (fun b o _ e n=>u.free b o e n (by simp)) (fun b o _ e=>u.there b o e (by simp)) u.eY u.eJ u.eP (fun m' hm=>by
  obtain ⟨o',es',ep',ho',r'⟩:=hm
  rw [ho] at ho';cases ho'
  exact ⟨_,es',ep',hL,r'⟩) hok I.bare
theorem Inv.call {g':Array GenState} {t':Nat} {d':Drawn} {ch:List Addr} (I:Inv X pins σ H s) (u:Un (frs X.stack) ch H H' s.heap h') (hok:HOk X.prog X.w H' h') (hg:AllBare g')
  (hch:∀b∈ch,(b∈X.ex∨X.s₀.heap.objs.size<=b)∧b≠X.env.locals∧(∀x c,X.env.cells.lookup x=some c->c≠b)∧∀p∈X.pn++pins,p.1≠b):
  Inv X pins σ H' {s with heap:=h',gens:=g',drawn:=d',toks:=t'}:=by
 obtain ⟨m,⟨o,es,ep,ho,r⟩,_⟩:=id I.loc
 obtain ⟨sl,hL⟩:=u.any ho I.free fun z=>(hch _ z).2.1 rfl
 exact I.step (ch:=ch) hch (fun b o hL hb hc e n=>u.keep b o e n (fun z=>(List.mem_cons.mp (I.fv b z)).elim hL hb) hc) (fun b o _ _ hc e n=>u.any e n hc) (fun b o hc e n=>u.free b o e n hc) (fun b o hc e=>u.there b o e hc) u.eY u.eJ u.eP (fun m' hm=>by
  obtain ⟨o',es',ep',ho',r'⟩:=hm
  rw [ho] at ho';cases ho'
  exact ⟨_,es',ep',hL,r'⟩) hok hg
theorem Inv.turned {t':Nat} {it:Addr} (I:Inv X pins σ H s) (k:∀b o,b≠it->s.heap.get? b=some o->h'.get? b=some o) (hn:H it=none) (hL:it≠X.env.locals)
  (h1:it∈X.ex∨X.s₀.heap.objs.size<=it) (h2:∀x c,X.env.cells.lookup x=some c->c≠it) (h3:∀p∈X.pn++pins,p.1≠it):Inv X pins σ H {s with heap:=h',toks:=t'}:=by
 have nit:∀b u,H b=some u->b≠it:=fun b u e z=>by rw [z,hn] at e;cases e
 refine I.step (g':=s.gens) (d':=s.drawn) (ch:=[it]) (fun b hb=>?_) (fun b o _ _ hc e _=>k b o (fun z=>hc (by simp [z])) e) (fun b o _ _ hc e _=>⟨o.slots,k b o (fun z=>hc (by simp [z])) e⟩) (fun _ _ _ _ n=>n)
  (fun b o hc e=>⟨o,k b o (fun z=>hc (by simp [z])) e⟩) (fun _ _ e=>e) (fun _ _ _ e=>e) (fun b ps e=>⟨#[],by rw [e];simp⟩) (fun m hm=>?_) (fun b u e=>?_) I.bare
 ·have e:b=it:=by simpa using hb
  subst e
  exact ⟨h1,hL,h2,h3⟩
 ·obtain ⟨o,es,ep,ho,r⟩:=hm
  exact ⟨o,es,ep,k _ o (Ne.symm hL) ho,r⟩
 ·refine (I.hok b u e).eA (fun c v hc q=>k c v ?_ q) (fun _ q=>q) fun _ _ q=>q
  rcases hc with z|z
  ·rw [z];exact nit b u e
  ·exact nit c _ z
theorem Inv.tok (I:Inv X pins σ H s) (t:Nat):Inv X pins σ H {s with toks:=t}:=I.un (h':=s.heap) (t':=t) Un.refl I.hok
theorem Inv.kept {t':Nat} (I:Inv X pins σ H s) (k:∀b u,s.heap.get? b=some u->h'.get? b=some u):Inv X pins σ H {s with heap:=h',toks:=t'}:=I.un (Un.kept k) (I.hok.kept k)
theorem Inv.laid {a:Addr} {o:HO} {t':Nat} (I:Inv X pins σ H s) (k:∀b u,s.heap.get? b=some u->h'.get? b=some u) (hp:s.heap.objs.size<=a) (new:aR X.prog X.w (upd H a o) h' a o):
  Inv X pins σ (upd H a o) {s with heap:=h',toks:=t'}:=I.un (Un.laid k hp (I.hok.fresh hp)) (I.hok.laid k hp new)
theorem Inv.write {x e:Addr} {o:HO} {t':Nat} (I:Inv X pins σ H s) (mu:Mut (H x)) (he:e=x∨H e=some (.own x)) (k:∀b u,b≠e->s.heap.get? b=some u->h'.get? b=some u) (heo:∃u,h'.get? e=some u)
  (new:aR X.prog X.w (upd H x o) h' x o):Inv X pins σ (upd H x o) {s with heap:=h',toks:=t'}:=I.un (Un.write mu he k heo) (I.hok.write mu he k heo new)
theorem Inv.weak {σ':List (Option V)} (I:Inv X pins σ H s) (hl:σ'.length=σ.length) (w:∀(i:Nat) v,σ'[i]?=some (some v)->σ[i]?=some (some v)):Inv X pins σ' H s:=
 ⟨I.ok,I.os,I.bare,I.base,let ⟨m,hn,hl'⟩:=I.loc;⟨m,hn,fun i x v e1 e2 e3=>hl' i x v e1 (w i v e2) e3⟩,I.cell,I.free,I.bF,I.pin,I.hok,hl.trans I.len⟩
theorem Inv.jE {pins':List (Addr×Obj)} (I:Inv X pins σ H s) (h:∀p∈pins',s.heap.get? p.1=some p.2∧H p.1=none∧p.1≠X.env.locals∧p.1∉X.fs∧∀v,p.2.data≠.cell v):Inv X pins' σ H s:=
 ⟨I.ok,I.os,I.bare,I.base,I.loc,I.cell,I.free,I.bF,fun p hp=>(List.mem_append.mp hp).elim (fun z=>I.pin p (List.mem_append_left _ z)) (h p),I.hok,I.len⟩
theorem iy {N:List Str} (hN:N.Nodup) {i j:Nat} {x:Str} (a:N[i]?=some x) (b:N[j]?=some x):i=j:=by
 obtain ⟨h1,e1⟩:=List.getElem?_eq_some_iff.mp a
 obtain ⟨h2,e2⟩:=List.getElem?_eq_some_iff.mp b
 exact (List.getElem_inj hN).mp (e1.trans e2.symm)
theorem kb {M:Model} {A:Around} {E:Value->Shared->Prop} {i:Nat} {x:Str} {v:V} {u:Value} {Q:Unit->Shared->Prop} (I:Inv X pins σ H s) (hN:X.N.Nodup) (hi:X.N[i]?=some x) (hx:Loc X.env.scope x) (r:RelV v u)
  (h:∀s',Inv X pins (σ.set i (some v)) H s'->(∃a,Heap.SameBut a s.heap s'.heap∧(a=X.env.locals∨X.env.cells.lookup x=some a))->Q () s') (hf:X.fn x=true∨X.env.scope.names.lookup x=some .local:=by first|exact .inl rfl|exact .inr rfl|assumption):wpAny M A (storeName X.env x u) Q E s:=by
 obtain ⟨m,hn,hl⟩:=id I.loc
 have hcls:(X.env.scope.kind==.class||(X.env.scope.kind==.module&&X.env.locals !=X.env.globals))=false:=by rw [I.ok.kind];rfl
 have hiσ:i<σ.length:=by rw [I.len];exact (List.getElem?_eq_some_iff.mp hi).1
 have cne:=I.cne
 have tracked:∀{a:Addr} {h':Heap},(∃o,s.heap.get? a=some o∧H a=none)->Heap.SameBut a s.heap h'->HOk X.prog X.w H h':=fun {a h'} ha hs b ob e=>by
  obtain ⟨_,_,hfree⟩:=ha
  refine (I.hok b ob e).eA (fun c w' hc q=>(hs.2 c ?_).trans q) (fun _ q=>q) fun _ _ q=>q
  rintro rfl
  rcases hc with rfl|hc
  ·rw [hfree] at e;cases e
  ·rw [hfree] at hc;cases hc
 rcases hx with hk|hk
 ·refine wpAny_storeName_local hk hn (fun h' hn' hs=>?_) hcls
  obtain ⟨oL,_,_,hoL,_⟩:=id hn
  refine h _ ⟨I.ok,I.os,I.bare,⟨fun b o e n hb hx=>?_,fun b o e n hb hx=>?_,I.base.free,fun b o e hx=>?_,I.base.eY,I.base.eJ,I.base.eP⟩,⟨_,hn',fun j y v' e1 e2 e3=>?_⟩,fun y c e=>?_,I.free,I.bF,fun p hp=>?_,tracked ⟨oL,hoL,I.free⟩ hs,by simpa using I.len⟩ ⟨_,hs,.inl rfl⟩
  ·exact (hs.2 b (Nat.ne_of_lt (Nat.lt_of_lt_of_le (Heap.lt_size e) I.ok.above))).trans (I.base.keep b o e n hb hx)
  ·obtain ⟨sl,e1⟩:=I.base.slot b o e n hb hx
   exact ⟨sl,(hs.2 b (Nat.ne_of_lt (Nat.lt_of_lt_of_le (Heap.lt_size e) I.ok.above))).trans e1⟩
  ·obtain ⟨o',e1⟩:=I.base.there b o e hx
   exact ⟨o',(hs.2 b (Nat.ne_of_lt (Nat.lt_of_lt_of_le (Heap.lt_size e) I.ok.above))).trans e1⟩
  ·by_cases hj:j=i
   ·subst hj
    rw [hi] at e1;cases e1
    rw [List.getElem?_set_self hiσ] at e2
    cases e2
    exact ⟨u,r,.inl ⟨hk,by simp⟩⟩
   ·rw [List.getElem?_set_ne (Ne.symm hj)] at e2
    obtain ⟨u',r',q⟩:=hl j y v' e1 e2 e3
    refine ⟨u',r',?_⟩
    rcases q with ⟨k,e⟩|⟨k,c,e,z⟩
    ·refine .inl ⟨k,?_⟩
     have:y≠x:=fun e=>hj (iy hN e1 (e▸hi))
     simp [this,e]
    ·exact .inr ⟨k,c,e,z.sameBut hs (cne y c e)⟩
  ·obtain ⟨w',z⟩:=I.cell y c e
   exact ⟨w',z.sameBut hs (cne y c e)⟩
  ·obtain ⟨e,n,ne,nf,d⟩:=I.pin p hp
   exact ⟨(hs.2 p.1 ne).trans e,n,ne,nf,d⟩
 ·have hfn:X.fn x=true:=by
   rcases hf with z|z
   ·exact z
   ·rw [z] at hk;cases hk
  obtain ⟨c,hc⟩:=I.ok.has x (.inl hk)
  obtain ⟨w',z⟩:=I.cell x c hc
  refine wpAny_storeName_cell I.ok.kind hk hc z (fun h' hc' hs=>?_)
  obtain ⟨oc,hoc,hocd⟩:=id z
  refine h {s with heap:=h'} ⟨I.ok,I.os,I.bare,⟨fun b o e n hb hx=>?_,fun b o e n hb hx=>?_,I.base.free,fun b o e hx=>?_,I.base.eY,I.base.eJ,I.base.eP⟩,⟨m,hn.sameBut hs (Ne.symm (cne x c hc)),fun j y v' e1 e2 e3=>?_⟩,fun y c' e=>?_,I.free,I.bF,fun p hp=>?_,tracked ⟨oc,hoc,I.bF x c hc⟩ hs,by simpa using I.len⟩ ⟨c,hs,.inr hc⟩
  ·exact (hs.2 b (Nat.ne_of_lt (Nat.lt_of_lt_of_le (Heap.lt_size e) (I.ok.cab x c hfn hc)))).trans (I.base.keep b o e n hb hx)
  ·obtain ⟨sl,e1⟩:=I.base.slot b o e n hb hx
   exact ⟨sl,(hs.2 b (Nat.ne_of_lt (Nat.lt_of_lt_of_le (Heap.lt_size e) (I.ok.cab x c hfn hc)))).trans e1⟩
  ·obtain ⟨o',e1⟩:=I.base.there b o e hx
   exact ⟨o',(hs.2 b (Nat.ne_of_lt (Nat.lt_of_lt_of_le (Heap.lt_size e) (I.ok.cab x c hfn hc)))).trans e1⟩
  ·by_cases hj:j=i
   ·subst hj
    rw [hi] at e1;cases e1
    rw [List.getElem?_set_self hiσ] at e2
    cases e2
    exact ⟨u,r,.inr ⟨.inl hk,c,hc,hc'⟩⟩
   ·rw [List.getElem?_set_ne (Ne.symm hj)] at e2
    obtain ⟨u',r',q⟩:=hl j y v' e1 e2 e3
    refine ⟨u',r',?_⟩
    rcases q with q|⟨k,c',e,z'⟩
    ·exact .inl q
    ·refine .inr ⟨k,c',e,z'.sameBut hs ?_⟩
     rintro rfl
     exact hj (iy hN e1 (I.ok.inj _ _ _ e hc▸hi))
  ·by_cases hcc:c'=c
   ·subst hcc;exact ⟨_,hc'⟩
   ·obtain ⟨w2,z2⟩:=I.cell y c' e
    exact ⟨w2,z2.sameBut hs hcc⟩
  ·obtain ⟨e,n,ne,nf,d⟩:=I.pin p hp
   refine ⟨(hs.2 p.1 ?_).trans e,n,ne,nf,d⟩
   intro q
   rw [q,hoc] at e
   have q':oc=p.2:=Option.some.inj e
   exact d w' (by rw [←q'];exact hocd)
theorem dq {M:Model} {A:Around} {E:Value->Shared->Prop} {i:Nat} {x:Str} {v:V} {u:Value} {Q:Unit->Shared->Prop} (I:Inv X pins σ H s) (hN:X.N.Nodup) (hi:X.N[i]?=some x) (hx:Loc X.env.scope x) (r:RelV v u)
  (h:∀s',Inv X pins (σ.set i (some v)) H s'->Q () s') (hf:X.fn x=true∨X.env.scope.names.lookup x=some .local:=by first|exact .inl rfl|exact .inr rfl|assumption):wpAny M A (storeName X.env x u) Q E s:=
 kb I hN hi hx r (fun s' I' _=>h s' I') hf
theorem Inv.ua {s':Shared} {ch:List Addr} (I:Inv X pins σ H s) (ho:s'.os=s.os) (u:Un (frs X.stack) ch H H' s.heap s'.heap) (hok:HOk X.prog X.w H' s'.heap) (hg:AllBare s'.gens)
  (hch:∀b∈ch,(b∈X.ex∨X.s₀.heap.objs.size<=b)∧b≠X.env.locals∧(∀x c,X.env.cells.lookup x=some c->c≠b)∧∀p∈X.pn++pins,p.1≠b):Inv X pins σ H' s':=by
 obtain ⟨h',g',d',t',o'⟩:=s'
 have e:o'=s.os:=ho
 subst e
 exact I.call (g':=g') (t':=t') (d':=d') u hok hg hch
end
noncomputable abbrev XK:=Value->Option Addr->Hp->Prop
noncomputable abbrev St:=List (Option V)
noncomputable abbrev VK:=V->Hp->Prop
noncomputable abbrev TE:=St->Hp->VK->Prop
noncomputable abbrev TT:=St->Hp->(Bool->Hp->Prop)->Prop
noncomputable abbrev TA:=St->Hp->(List V->Hp->Prop)->Prop
structure Ends where
 nx:St->Hp->Prop
 rt:VK
 bk:St->Hp->Prop:=fun _ _=>False
 ct:St->Hp->Prop:=fun _ _=>False
noncomputable abbrev TS:=Ends->St->Hp->Prop
noncomputable def EP (X:Cx) (pins:List (Addr×Obj)) (σ:St) (Q:VK) (u:Value) (s':Shared):Prop:=∃v H',Inv X pins σ H' s'∧RelV v u∧Q v H'
noncomputable def TP (X:Cx) (pins:List (Addr×Obj)) (σ:St) (Q:Bool->Hp->Prop) (b:Bool) (s':Shared):Prop:=∃H',Inv X pins σ H' s'∧Q b H'
noncomputable def AP (X:Cx) (pins:List (Addr×Obj)) (σ:St) (Q:List V->Hp->Prop) (us:List Value) (s':Shared):Prop:=∃vs H',Inv X pins σ H' s'∧Vals vs us∧Q vs H'
noncomputable def SP (X:Cx) (pins:List (Addr×Obj)) (D:Ends) (f:Flow) (s':Shared):Prop:=
 match f with
 |.next=>∃σ' H',Inv X pins σ' H' s'∧D.nx σ' H'
 |.brk=>∃σ' H',Inv X pins σ' H' s'∧D.bk σ' H'
 |.cont=>∃σ' H',Inv X pins σ' H' s'∧D.ct σ' H'
 |.ret u=>∃v σ' H',Inv X pins σ' H' s'∧RelV v u∧D.rt v H'
noncomputable def PE (X:Cx) (e:Expr) (t:TE):Prop:=
 ∀(pins:List (Addr×Obj)) (s:Shared) (σ:St) (H:Hp) (Q:VK),Inv X pins σ H s->t σ H Q->wpAny (model X.prog X.w) X.A (eval e X.env) (EP X pins σ Q) X.xe s
noncomputable def PT (X:Cx) (e:Expr) (t:TT):Prop:=
 ∀(pins:List (Addr×Obj)) (s:Shared) (σ:St) (H:Hp) (Q:Bool->Hp->Prop),Inv X pins σ H s->t σ H Q->wpAny (model X.prog X.w) X.A (isTrue e X.env (eval e X.env)) (TP X pins σ Q) X.xe s
noncomputable def PW (X:Cx) (e:Expr) (t:TT):Prop:=
 ∀(whole:Sem Value) (pins:List (Addr×Obj)) (s:Shared) (σ:St) (H:Hp) (Q:Bool->Hp->Prop),Inv X pins σ H s->t σ H Q->wpAny (model X.prog X.w) X.A (isTrue e X.env whole) (TP X pins σ Q) X.xe s
theorem PW.pt {X:Cx} {e:Expr} {t:TT} (h:PW X e t):PT X e t:=h _
noncomputable def PA (X:Cx) (es:List Expr) (t:TA):Prop:=
 ∀(pos:Pos) (pins:List (Addr×Obj)) (s:Shared) (σ:St) (H:Hp) (Q:List V->Hp->Prop),Inv X pins σ H s->t σ H Q->wpAny (model X.prog X.w) X.A (spliced (backTo pos (starEach es X.env))) (AP X pins σ Q) X.xe s
noncomputable def PS (X:Cx) (st:Stmt) (t:TS):Prop:=
 ∀(pins:List (Addr×Obj)) (s:Shared) (σ:St) (H:Hp) (D:Ends),Inv X pins σ H s->t D σ H->wpAny (model X.prog X.w) X.A (exec st X.env) (SP X pins D) X.xe s
noncomputable def PSs (X:Cx) (st:List Stmt) (t:TS):Prop:=
 ∀(pins:List (Addr×Obj)) (s:Shared) (σ:St) (H:Hp) (D:Ends),Inv X pins σ H s->t D σ H->wpAny (model X.prog X.w) X.A (execs st X.env) (SP X pins D) X.xe s
theorem thn {α:Type} {t:Sem α} {Q Q':α->Shared->Prop} {M:Model} {A:Around} {E:Value->Shared->Prop} {s:Shared} (h:wpAny M A t Q E s) (hQ:∀a s,Q a s->Q' a s):wpAny M A t Q' E s:=wpAny_mono h hQ fun _ _ x=>x
end L2
namespace L2
open PySem PySem.Spec PyProof.Rows
section
variable {X:Cx}
noncomputable def A4 (i:Nat):TE:=fun σ H Q=>∃v,σ[i]?=some (some v)∧Q v H
noncomputable def tC (v:V):TE:=fun _ H Q=>Q v H
theorem gy {i:Nat} {x:Str} {pos:Pos} (hN:X.N[i]?=some x) (hv:Vis X.env.scope x) (hd:(x==("__debug__":Str))=false:=by decide) (hcd:(x==("__classdict__":Str))=false:=by decide):PE X (.Name x pos) (A4 i):=by
 intro pins s σ H Q I h
 obtain ⟨v,e,h⟩:=h
 obtain ⟨m,hn,hl⟩:=I.loc
 obtain ⟨u,r,l⟩:=hl i x v hN e hv
 have fin:EP X pins σ Q u s:=⟨v,H,I,r,h⟩
 rcases l with ⟨hk,hm⟩|⟨hk,c,hc,hcell⟩
 ·exact wpAny_Name (wpAny_loadName_local I.ok.kind hk hn hm fin) hd
 ·rcases hk with hk|hk
  ·exact wpAny_Name (wpAny_loadName_cell I.ok.kind hk hc hcell fin) hd
  ·exact wpAny_Name (wpAny_loadName_free I.ok.kind hk hc hcell fin hcd) hd
theorem wt {i j pos}:PE X (.Constant (.int i) j pos) (tC (.int i)):=fun _ _ _ H _ I h=>wpAny_Constant_int ⟨.int i,H,I.tok _,⟨_,rfl⟩,h⟩
theorem zG {b j pos}:PE X (.Constant (.bool b) j pos) (tC (.bl b)):=fun _ _ _ H _ I h=>Constant_bool ⟨.bl b,H,I,rfl,h⟩
theorem yg {j pos}:PE X (.Constant .none j pos) (tC .non):=fun _ _ _ H _ I h=>Constant_none ⟨.non,H,I,rfl,h⟩
theorem wj {x j pos}:PE X (.Constant (.str x) j pos) (tC (.str x)):=fun _ _ _ H _ I h=>Calls.Constant_str ⟨.str x,H,I.tok _,⟨_,rfl⟩,h⟩
noncomputable def Gl (X:Cx) (x:Str):Prop:=X.env.kindOf x=some .globalImplicit
theorem cT {E:Value->Shared->Prop} {pins:List (Addr×Obj)} {s:Shared} {σ:St} {H:Hp} {x:Str} {u:Value} {pos:Pos} {Q:Value->Shared->Prop} (I:Inv X pins σ H s) (hg:Gl X x) (hm:X.mg x=some u) (h:Q u s)
  (hd:(x==("__debug__":Str))=false:=by decide):wpAny (model X.prog X.w) X.A (eval (.Name x pos) X.env) Q E s:=
 Calls.Name_function_global I.ok.kind hg (Calls.loadGlobal_global (by rw [I.ok.glob];exact I.mod.glob.keeps I.bk) hm h) hd
theorem dC {E:Value->Shared->Prop} {pins:List (Addr×Obj)} {s:Shared} {σ:St} {H:Hp} {x:Str} {u:Value} {pos:Pos} {Q:Value->Shared->Prop} (I:Inv X pins σ H s) (hg:Gl X x) (hm:X.mg x=none) (hv:bootBuiltins x=some u) (h:Q u s)
  (hn:x≠"__name__":=by decide) (hd:(x==("__debug__":Str))=false:=by decide):wpAny (model X.prog X.w) X.A (eval (.Name x pos) X.env) Q E s:=by
 obtain ⟨mb,h1,h2⟩:=I.mod.blt
 exact Calls.Name_function_global I.ok.kind hg (Calls.loadGlobal_builtin (by rw [I.ok.glob];exact I.mod.glob.keeps I.bk) hm (by rw [I.ok.blt];exact h1.keeps I.bk) ((h2 x hn).trans hv) h) hd
theorem mS {x:Str} {v:V} {u:Value} {pos:Pos} (hg:Gl X x) (hm:X.mg x=some u) (r:RelV v u) (hd:(x==("__debug__":Str))=false:=by decide):PE X (.Name x pos) (tC v):=
 fun _ _ _ H _ I h=>cT I hg hm ⟨v,H,I,r,h⟩ hd
theorem u5 {x:Str} {v:V} {u:Value} {pos:Pos} (hg:Gl X x) (hm:X.mg x=none) (hv:bootBuiltins x=some u) (r:RelV v u) (hn:x≠"__name__":=by decide) (hd:(x==("__debug__":Str))=false:=by decide):PE X (.Name x pos) (tC v):=
 fun _ _ _ H _ I h=>dC I hg hm hv ⟨v,H,I,r,h⟩ hn hd
variable {a b:Expr} {ta tb:TE} {pos:Pos}
noncomputable def tB (t:TE):TT:=fun σ H Q=>t σ H fun x H1=>∃c,x=.bl c∧Q c H1
theorem yp {e:Expr} {t:TE} (h:PE X e t) (he:∀whole,isTrue e X.env whole=(do let v←whole;standAt e.pos;holding [v] (truthy v)):=by intro _;rfl):PT X e (tB t):=by
 intro pins s σ H Q I hw
 refine isTrue_plain (thn (h pins s σ H _ I hw) fun v s1 ⟨x,H1,I1,r1,q1⟩=>?_) (he _)
 obtain ⟨d,rfl,q⟩:=q1
 cases r1
 exact wpAny_truthy_bool ⟨H1,I1,q⟩
variable {tA tB':TT} {rest:List Expr}
noncomputable def AI (t u:TT):TT:=fun σ H Q=>t σ H fun c H1=>if c=true then u σ H1 Q else Q false H1
noncomputable def tOr (t u:TT):TT:=fun σ H Q=>t σ H fun c H1=>if c=true then Q true H1 else u σ H1 Q
noncomputable def AO (t:TT):TT:=fun σ H Q=>t σ H fun c H1=>Q (!c) H1
theorem vo (ha:PT X a tA):PW X (.BoolOp .And [a] pos) tA:=by
 intro wh pins s σ H Q I h
 refine isTrue_and (thn (ha pins s σ H Q I h) fun c s1 e=>?_)
 cases c with
 |true=>exact isTrue_and_nil e
 |false=>exact e
theorem x_ (ha:PT X a tA):PW X (.BoolOp .Or [a] pos) tA:=by
 intro wh pins s σ H Q I h
 refine isTrue_or (thn (ha pins s σ H Q I h) fun c s1 e=>?_)
 cases c with
 |false=>exact isTrue_or_nil e
 |true=>exact e
theorem qw (ha:PT X a tA) (hb:PW X (.BoolOp .And (b::rest) pos) tB'):PW X (.BoolOp .And (a::b::rest) pos) (AI tA tB'):=by
 intro wh pins s σ H Q I h
 refine isTrue_and (thn (ha pins s σ H _ I h) fun c s1 ⟨H1,I1,q1⟩=>?_)
 cases c with
 |true=>exact hb wh pins s1 σ H1 Q I1 q1
 |false=>exact ⟨H1,I1,q1⟩
theorem sX (ha:PT X a tA) (hb:PW X (.BoolOp .Or (b::rest) pos) tB'):PW X (.BoolOp .Or (a::b::rest) pos) (tOr tA tB'):=by
 intro wh pins s σ H Q I h
 refine isTrue_or (thn (ha pins s σ H _ I h) fun c s1 ⟨H1,I1,q1⟩=>?_)
 cases c with
 |true=>exact ⟨H1,I1,q1⟩
 |false=>exact hb wh pins s1 σ H1 Q I1 q1
theorem xA (ha:PT X a tA):PT X (.UnaryOp .Not a pos) (AO tA):=by
 intro pins s σ H Q I h
 exact isTrue_not (ha pins s σ H (fun c H1=>Q (!c) H1) I h)
noncomputable def zU (ta tb:TE):TE:=fun σ H Q=>ta σ H fun x H1=>∃c,x=.bl c∧if c=true then tb σ H1 Q else Q (.bl false) H1
noncomputable def Bi (ta tb:TE):TE:=fun σ H Q=>ta σ H fun x H1=>∃c,x=.bl c∧if c=true then Q (.bl true) H1 else tb σ H1 Q
noncomputable def Ao (ta:TE):TE:=fun σ H Q=>ta σ H fun x H1=>∃c,x=.bl c∧Q (.bl (!c)) H1
theorem xi {op} {t:TE} (h:PE X a t):PE X (.BoolOp op [a] pos) t:=fun pins s σ H Q I hw=>BoolOp_one (h pins s σ H Q I hw)
theorem qk (ha:PE X a ta) (hb:PE X (.BoolOp .And (b::rest) pos) tb):PE X (.BoolOp .And (a::b::rest) pos) (zU ta tb):=by
 intro pins s σ H Q I h
 refine BoolOp_and (thn (ha pins s σ H _ I h) fun v s1 ⟨x,H1,I1,r1,q1⟩=>?_)
 obtain ⟨c,rfl,q1⟩:=q1
 cases r1
 refine wpAny_truthy_bool ?_
 cases c with
 |true=>exact hb pins s1 σ H1 Q I1 q1
 |false=>exact ⟨.bl false,H1,I1,rfl,q1⟩
theorem tM (ha:PE X a ta) (hb:PE X (.BoolOp .Or (b::rest) pos) tb):PE X (.BoolOp .Or (a::b::rest) pos) (Bi ta tb):=by
 intro pins s σ H Q I h
 refine BoolOp_or (thn (ha pins s σ H _ I h) fun v s1 ⟨x,H1,I1,r1,q1⟩=>?_)
 obtain ⟨c,rfl,q1⟩:=q1
 cases r1
 refine wpAny_truthy_bool ?_
 cases c with
 |false=>exact hb pins s1 σ H1 Q I1 q1
 |true=>exact ⟨.bl true,H1,I1,rfl,q1⟩
theorem xj (ha:PE X a ta):PE X (.UnaryOp .Not a pos) (Ao ta):=by
 intro pins s σ H Q I h
 refine UnaryOp_ (thn (ha pins s σ H _ I h) fun v s1 ⟨x,H1,I1,r1,q1⟩=>?_)
 obtain ⟨c,rfl,q1⟩:=q1
 cases r1
 exact not_of (wpAny_truthy_bool ⟨.bl (!c),H1,I1,rfl,q1⟩)
noncomputable def tIf (t:TT) (ta tb:TE):TE:=fun σ H Q=>t σ H fun c H1=>if c=true then ta σ H1 Q else tb σ H1 Q
theorem lH {c:Expr} (hc:PT X c tA) (ha:PE X a ta) (hb:PE X b tb):PE X (.IfExp c a b pos) (tIf tA ta tb):=by
 intro pins s σ H Q I h
 refine wpAny_IfExp (thn (hc pins s σ H _ I h) fun d s1 ⟨H1,I1,q1⟩=>?_)
 cases d with
 |true=>exact ha pins s1 σ H1 Q I1 q1
 |false=>exact hb pins s1 σ H1 Q I1 q1
end
end L2
namespace L2
open PySem PySem.Spec PyProof.Rows
noncomputable def SqL (K:PySem.W.Frag) (H:Hp) (a:Addr) (xs:List V):Prop:=
 Rd H a (.lst xs)∨
  ∃(o:Obj) (its:Array Value) (n:Nat),K.lookup a=some o∧o.cls=.type "list"∧o.dict=none∧o.data=.seq its n∧its.size<=sizeLine∧Vals xs its.toList
noncomputable def SqT (K:PySem.W.Frag) (H:Hp) (a:Addr) (xs:List V):Prop:=
 Rd H a (.tup xs)∨
  ∃(o:Obj) (its:Array Value) (n:Nat),K.lookup a=some o∧o.cls=.type "tuple"∧o.data=.seq its n∧its.size<=sizeLine∧Vals xs its.toList
noncomputable def AZ:Value->Option V
 |.none=>some .non
 |.bool b=>some (.bl b)
 |.int i _=>some (.int i)
 |.str x _=>some (.str x)
 |.bytes b _=>some (.byt b)
 |.float b _=>some (.flt b)
 |.ref a=>some (.ref a)
 |.type n=>some (.ty n)
 |_=>none
theorem RelV.abs {x:V} {u:Value} (r:RelV x u):AZ u=some x:=by
 cases x with
 |non=>cases r;rfl
 |bl _=>cases r;rfl
 |int _=>obtain ⟨t,rfl⟩:=r;rfl
 |str _=>obtain ⟨t,rfl⟩:=r;rfl
 |byt _=>obtain ⟨t,rfl⟩:=r;rfl
 |flt _=>obtain ⟨t,rfl⟩:=r;rfl
 |ref _=>cases r;rfl
 |ty _=>cases r;rfl
theorem RelV.inj {x y:V} {u:Value} (r:RelV x u) (q:RelV y u):x=y:=Option.some.inj (r.abs.symm.trans q.abs)
theorem Vals.inj:∀{xs ys:List V} {us:List Value},Vals xs us->Vals ys us->xs=ys
 |_,_,_,.nil,.nil=>rfl
 |_,_,_,.cons r t,.cons r' t'=>by rw [r.inj r',Vals.inj t t']
section
variable {X:Cx} {pins:List (Addr×Obj)} {σ:St} {H:Hp} {s:Shared} {a:Addr} {xs ys:List V}
theorem Inv.list (I:Inv X pins σ H s) (h:SqL X.K H a xs):∃its:List Value,Vals xs its∧PlainL s.heap a its.toArray∧xs.length<=sizeLine:=by
 rcases h with h|⟨o,its,n,hk,hc,hd,hs,hz,r⟩
 ·obtain ⟨z,its,n,r,e⟩:=h.ok I.hok
  exact ⟨its,r,⟨_,n,e,rfl,rfl,rfl⟩,z⟩
 ·refine ⟨its.toList,r,⟨o,n,I.kIn a o hk,hc,hd,by simpa using hs⟩,?_⟩
  have e:=r.length
  simp only [Array.length_toList] at e
  omega
theorem Inv.tuple (I:Inv X pins σ H s) (h:SqT X.K H a xs):∃its:List Value,Vals xs its∧IsTup s.heap a its.toArray∧xs.length<=sizeLine:=by
 rcases h with h|⟨o,its,n,hk,hc,hs,hz,r⟩
 ·obtain ⟨z,its,r,p⟩:=h.ok I.hok
  exact ⟨its,r,p,z⟩
 ·refine ⟨its.toList,r,⟨o,I.kIn a o hk,hc,n,by simpa using hs⟩,?_⟩
  have e:=r.length
  simp only [Array.length_toList] at e
  omega
theorem Inv.kI (I:Inv X pins σ H s) (h:SqL X.K H a xs) (h':SqL X.K H a ys):xs=ys:=by
 obtain ⟨its,r,⟨o,n,e,_,_,d⟩,_⟩:=I.list h
 obtain ⟨its',r',⟨o',n',e',_,_,d'⟩,_⟩:=I.list h'
 rw [e] at e';cases e'
 rw [d] at d'
 injection d' with d1 _
 have:its=its':=by simpa using congrArg Array.toList d1
 subst this
 exact r.inj r'
theorem Inv.kh (I:Inv X pins σ H s) (h:SqT X.K H a xs) (h':SqT X.K H a ys):xs=ys:=by
 obtain ⟨its,r,⟨o,e,_,n,d⟩,_⟩:=I.tuple h
 obtain ⟨its',r',⟨o',e',_,n',d'⟩,_⟩:=I.tuple h'
 rw [e] at e';cases e'
 rw [d] at d'
 injection d' with d1 _
 have:its=its':=by simpa using congrArg Array.toList d1
 subst this
 exact r.inj r'
end
noncomputable abbrev Cx.ef (X:Cx) (E:Value->Shared->Prop):Cx:={X with xe:=E}
noncomputable abbrev Cx.nox (X:Cx):Cx:=X.ef fun _ _=>False
theorem Cx.Ok.ef {X:Cx} (ok:X.Ok) (E:Value->Shared->Prop):(X.ef E).Ok:=
 ⟨ok.mod,ok.kind,ok.glob,ok.blt,ok.above,ok.inj,ok.has,ok.cab,ok.hd,ok.frames,ok.stk,ok.exf,ok.bs,ok.bsz,ok.fA,ok.ie,ok.cJ,ok.frf⟩
theorem Cx.Ok.c7 {X:Cx} {E:Value->Shared->Prop} (ok:(X.ef E).Ok):X.Ok:=
 ⟨ok.mod,ok.kind,ok.glob,ok.blt,ok.above,ok.inj,ok.has,ok.cab,ok.hd,ok.frames,ok.stk,ok.exf,ok.bs,ok.bsz,ok.fA,ok.ie,ok.cJ,ok.frf⟩
section
variable {X:Cx} {pins:List (Addr×Obj)} {σ:St} {H:Hp} {s:Shared} {E:Value->Shared->Prop}
theorem Inv.ef (I:Inv X pins σ H s) (E:Value->Shared->Prop):Inv (X.ef E) pins σ H s:=⟨I.ok.ef E,I.os,I.bare,I.base,I.loc,I.cell,I.free,I.bF,I.pin,I.hok,I.len⟩
theorem Inv.c7 (I:Inv (X.ef E) pins σ H s):Inv X pins σ H s:=⟨I.ok.c7,I.os,I.bare,I.base,I.loc,I.cell,I.free,I.bF,I.pin,I.hok,I.len⟩
theorem SP.c7 {D:Ends} {f:Flow} {s':Shared} (h:SP (X.ef E) pins D f s'):SP X pins D f s':=by
 cases f with
 |next=>obtain ⟨σ',H',I,q⟩:=h;exact ⟨σ',H',I.c7,q⟩
 |brk=>obtain ⟨σ',H',I,q⟩:=h;exact ⟨σ',H',I.c7,q⟩
 |cont=>obtain ⟨σ',H',I,q⟩:=h;exact ⟨σ',H',I.c7,q⟩
 |ret u=>obtain ⟨v,σ',H',I,r,q⟩:=h;exact ⟨v,σ',H',I.c7,r,q⟩
theorem PSs.nox {st:List Stmt} {t:TS} (h:PSs X.nox st t):PSs X st t:=fun pins s σ H D I hw=>
 wpAny_mono (h pins s σ H D (I.ef _) hw) (fun _ _ q=>q.c7) fun _ _ z=>False.elim z
end
section
variable {X:Cx} {st:Stmt} {rest:List Stmt} {t u:TS} {e:Expr} {te:TE} {pos:Pos}
noncomputable def oC:TS:=fun D σ H=>D.nx σ H
noncomputable def A1 (t u:TS):TS:=fun D σ H=>t {D with nx:=u D} σ H
theorem vS:PSs X [] oC:=fun _ _ σ H _ I h=>wpAny_execs_nil ⟨σ,H,I,h⟩
theorem fT (h1:PS X st t) (h2:PSs X rest u):PSs X (st::rest) (A1 t u):=by
 intro pins s σ H D I h
 refine wpAny_execs_cons (thn (h1 pins s σ H {D with nx:=u D} I h) fun f s1 q=>?_)
 cases f with
 |next=>
  obtain ⟨σ',H',I',q⟩:=q
  exact h2 pins s1 σ' H' D I' q
 |ret v=>exact q
 |brk=>exact q
 |cont=>exact q
theorem uY:PS X (.Pass pos) oC:=fun _ _ σ H _ I h=>wpAny_Pass ⟨σ,H,I,h⟩
theorem Inv.quiet {pins:List (Addr×Obj)} {σ:St} {H:Hp} {s:Shared} (I:Inv X pins σ H s):interactive X.env=false:=by simp [interactive,I.ok.kind]
theorem yk {x j pos pos'}:PS X (.Expr (.Constant (.str x) j pos) pos') oC:=fun _ s σ H _ I h=>wpAny_Expr (Calls.Constant_str (show SP X _ _ .next {s with toks:=s.toks+1} from ⟨σ,H,I.tok _,h⟩)) I.quiet
noncomputable def zL (te:TE):TS:=fun D σ H=>te σ H fun _ H1=>D.nx σ H1
theorem gM (he:PE X e te) (hs:swapsWith e none pos.line X.env=pure false:=by rfl):PS X (.Expr e pos) (zL te):=by
 intro pins s σ H D I h
 exact wpAny_Expr_any (thn (he pins s σ H _ I h) fun v s1 ⟨x,H1,I1,r1,q1⟩=>⟨σ,H1,I1,q1⟩) I.quiet hs
noncomputable def Ax (te:TE):TS:=fun D σ H=>te σ H D.rt
theorem i4 (he:PE X e te):PS X (.Return (some e) pos) (Ax te):=by
 intro pins s σ H D I h
 exact wpAny_Return_some (thn (he pins s σ H _ I h) fun v s1 ⟨x,H1,I1,r1,q1⟩=>⟨x,σ,H1,I1,r1,q1⟩)
noncomputable def Ak:TS:=fun D _ H=>D.rt .non H
theorem vP:PS X (.Return none pos) Ak:=fun _ _ σ H _ I h=>wpAny_Return_none ⟨.non,σ,H,I,rfl,h⟩
noncomputable def Bb (c:TT) (t u:TS):TS:=fun D σ H=>c σ H fun b H1=>if b=true then t D σ H1 else u D σ H1
theorem sT {c:Expr} {a b:List Stmt} {tc:TT} (hc:PT X c tc) (ha:PSs X a t) (hb:PSs X b u):PS X (.If c a b pos) (Bb tc t u):=by
 intro pins s σ H D I h
 refine wpAny_If (thn (hc pins s σ H _ I h) fun d s1 ⟨H1,I1,q1⟩=>?_)
 cases d with
 |true=>exact ha pins s1 σ H1 D I1 q1
 |false=>exact hb pins s1 σ H1 D I1 q1
noncomputable def yu:TS:=fun _ _ _=>False
theorem j2 {sts:List Stmt}:PSs X sts yu:=fun _ _ _ _ _ _ h=>h.elim
end
noncomputable abbrev TG:=V->St->Hp->(St->Hp->Prop)->Prop
noncomputable abbrev TGs:=List V->St->Hp->(St->Hp->Prop)->Prop
noncomputable def PG (X:Cx) (target:Expr) (t:TG):Prop:=
 ∀(pins:List (Addr×Obj)) (s:Shared) (σ:St) (H:Hp) (v:V) (u:Value) (Q:St->Hp->Prop),Inv X pins σ H s->RelV v u->t v σ H Q->
  wpAny (model X.prog X.w) X.A (assign target X.env u) (fun _ s'=>∃σ' H',Inv X pins σ' H' s'∧Q σ' H') X.xe s
noncomputable def PGs (X:Cx) (ts:List Expr) (t:TGs):Prop:=
 ∀(pins:List (Addr×Obj)) (s:Shared) (σ:St) (H:Hp) (vs:List V) (us:List Value) (Q:St->Hp->Prop),Inv X pins σ H s->Vals vs us->t vs σ H Q->
  wpAny (model X.prog X.w) X.A (assignInOrder ((assignEach ts X.env).map (·.2)) us) (fun _ s'=>∃σ' H',Inv X pins σ' H' s'∧Q σ' H') X.xe s
section
variable {X:Cx} {pos:Pos}
noncomputable def fK (i:Nat):TG:=fun v σ H Q=>Q (σ.set i (some v)) H
theorem vX {i:Nat} {x:Str} (hN:X.N.Nodup) (hi:X.N[i]?=some x) (hx:Loc X.env.scope x) (hf:X.fn x=true∨X.env.scope.names.lookup x=some .local:=by first|exact .inl rfl|exact .inr rfl|assumption):PG X (.Name x pos) (fK i):=by
 intro pins s σ H v u Q I r h
 exact wpAny_assign_Name (dq I hN hi hx r (fun s' I'=>⟨_,H,I',h⟩) hf)
noncomputable def Aw:TGs:=fun vs σ H Q=>vs=[]∧Q σ H
noncomputable def zQ (t:TG) (u:TGs):TGs:=fun vs σ H Q=>∃v r,vs=v::r∧t v σ H fun σ' H'=>u r σ' H' Q
theorem u6:PGs X [] Aw:=by
 intro pins s σ H vs us Q I r h
 obtain ⟨e,h⟩:=h
 subst e
 cases r
 exact assignInOrder_nil ⟨σ,H,I,h⟩
theorem rh {e:Expr} {es:List Expr} {t:TG} {u:TGs} (h1:PG X e t) (h2:PGs X es u)
  (hs:(assignEach (e::es) X.env).map (·.2)=assign e X.env::(assignEach es X.env).map (·.2):=by rfl):PGs X (e::es) (zQ t u):=by
 intro pins s σ H vs us Q I r h
 obtain ⟨v,vr,e1,h⟩:=h
 subst e1
 cases r with
 |cons r rr=>
  rw [hs]
  refine assignInOrder_cons (thn (h1 pins s σ H _ _ _ I r h) fun _ s1 ⟨σ1,H1,I1,q1⟩=>?_)
  exact h2 pins s1 σ1 H1 _ _ Q I1 rr q1
noncomputable def Bs (K:PySem.W.Frag) (n:Nat) (t:TGs):TG:=fun v σ H Q=>∃a xs,v=.ref a∧SqT K H a xs∧xs.length=n∧t xs σ H Q
theorem yq {es:List Expr} {k:Nat} {t:TGs} {n:Nat} (hc:X.calm=true) (h:PGs X es t)
  (hn:(assignEach es X.env).length=n:=by rfl) (hst:(assignEach es X.env).findIdx? (·.1)=none:=by rfl):PG X (.Tuple es k pos) (Bs X.K n t):=by
 intro pins s σ H v u Q I r hw
 obtain ⟨a,xs,e1,hq,hl,hw⟩:=hw
 subst e1
 cases r
 obtain ⟨its,rv,ht,hz⟩:=I.tuple hq
 refine assign_Tuple_tuple (I.ok.hd hc) ht (by simp [hn,←hl,rv.length]) hst fun h' hx=>?_
 have I1:Inv X pins σ H {s with heap:=h'}:=I.kept (t':=s.toks) fun b o e=>hx b o (Nat.ne_of_lt (Heap.lt_size e)) e
 exact h pins _ σ H xs _ Q I1 (by simpa using rv) hw
noncomputable def lh (te:TE) (g:TG):TS:=fun D σ H=>te σ H fun x H1=>g x σ H1 D.nx
theorem pJ {tg e:Expr} {te:TE} {g:TG} (he:PE X e te) (hg:PG X tg g) (hs:swapsWithSole [tg] e pos.line X.env=pure false:=by rfl) (hw:swappedStores [tg] e X.env=pure none:=by rfl)
  (h1:(assignEach [tg] X.env).map (·.2)=[assign tg X.env]:=by rfl):PS X (.Assign [tg] e pos) (lh te g):=by
 intro pins s σ H D I h
 refine wpAny_Assign_stores (thn (he pins s σ H _ I h) fun v s1 ⟨x,H1,I1,r1,q1⟩=>?_) hs hw
 rw [h1]
 exact thn (hg pins s1 σ H1 x v _ I1 r1 q1) fun _ s2 q=>q
theorem kL {i:Nat} {x:Str} {e:Expr} {te:TE} {pos':Pos} (hN:X.N.Nodup) (hi:X.N[i]?=some x) (hx:Loc X.env.scope x) (he:PE X e te) (hs:swapsWith e (some (.Name x pos')) pos.line X.env=pure false:=by rfl) (hf:X.fn x=true∨X.env.scope.names.lookup x=some .local:=by first|exact .inl rfl|exact .inr rfl|assumption):
  PS X (.Assign [.Name x pos'] e pos) (lh te (fK i)):=by
 intro pins s σ H D I h
 refine wpAny_Assign_Name (thn (he pins s σ H _ I h) fun v s1 ⟨y,H1,I1,r1,q1⟩=>?_) hs
 exact dq I1 hN hi hx r1 (fun s2 I2=>⟨_,H1,I2,q1⟩) hf
noncomputable def AA (i j:Nat) (ta:TA):TS:=fun D σ H=>ta σ H fun vs H1=>∃v w,vs=[v,w]∧D.nx ((σ.set i (some v)).set j (some w)) H1
theorem xP {i j:Nat} {x y:Str} {a b:Expr} {ta:TA} {px py pt:Pos} {kt k2 pt2} (hc:X.calm=true) (hN:X.N.Nodup) (hi:X.N[i]?=some x) (hj:X.N[j]?=some y) (hij:i≠j)
  (hx:X.env.scope.names.lookup x=some .local) (hy:X.env.scope.names.lookup y=some .local) (ha:PA X [a,b] ta)
  (hw:swappedStores [.Tuple [.Name x px,.Name y py] kt pt] (.Tuple [a,b] k2 pt2) X.env=pure (some [x,y]))
  (hs:swapsWithSole [.Tuple [.Name x px,.Name y py] kt pt] (.Tuple [a,b] k2 pt2) pos.line X.env=pure false:=by rfl):
  PS X (.Assign [.Tuple [.Name x px,.Name y py] kt pt] (.Tuple [a,b] k2 pt2) pos) (AA i j ta):=by
 intro pins s σ H D I h
 rw [exec_Assign_arm]
 refine wpAny_bind (wpAny_standAt ?_)
 rw [hs]
 refine wpAny_bind (wpAny_pure ?_)
 rw [if_neg (by decide)]
 refine wpAny_bind (Tuple_ (thn (ha _ pins s σ H _ I h) fun us s1 ⟨vs,H1,I1,r1,q1⟩=>?_))
 obtain ⟨v,w,e1,q1⟩:=q1
 subst e1
 obtain ⟨u1,u2,rfl,rv,rw'⟩:∃u1 u2,us=[u1,u2]∧RelV v u1∧RelV w u2:=by
  cases r1 with
  |cons p q=>
   cases q with
   |cons p' q'=>
    cases q'
    exact ⟨_,_,rfl,p,p'⟩
 refine wpAny_newObj_type ?_ (by show 2<=sizeLine;decide)
 have I2:Inv X pins σ H1 {s1 with heap:=s1.heap.push {cls:=.type "tuple",data:=.seq [u1,u2].toArray}}:=I1.kept (t':=s1.toks) fun b o e=>Heap.get?_push_of_some _ e
 rw [hw]
 refine wpAny_bind (wpAny_pure ?_)
 show wpAny (model X.prog X.w) X.A (do rule "assign.swapped-stores";let items←unpackItems (.ref s1.heap.objs.size) 2 none;assignInOrder [fun v=>bindName X.env y v,fun v=>bindName X.env x v] items.reverse;pure Flow.next) _ _ _
 refine wpAny_bind (wpAny_rule (wpAny_bind (unpackItems_tuple (items:=#[u1,u2]) (I.ok.hd hc) (IsTup.new s1.heap _) fun h' hx'=>?_)))
 have I3:=I2.kept (h':=h') (t':=s1.toks) fun b o e=>hx' b o (Nat.ne_of_lt (Heap.lt_size e)) e
 show wpAny _ _ (assignInOrder [fun v=>bindName X.env y v,fun v=>bindName X.env x v] [u2,u1]>>=fun _=>pure Flow.next) _ _ _
 refine wpAny_bind (assignInOrder_cons (wpAny_bindName (dq I3 hN hj (.inl hy) rw' (fun s2 I4=>?_) (.inr hy))))
 refine assignInOrder_cons (wpAny_bindName (dq I4 hN hi (.inl hx) rv (fun s3 I5=>assignInOrder_nil (wpAny_pure ?_)) (.inr hx)))
 rw [List.set_comm _ _ (Ne.symm hij)] at I5
 exact ⟨_,H1,I5,q1⟩
end
section
variable {X:Cx} {pos:Pos}
noncomputable def wK (c:TT) (tb:TS):TS:=fun D σ H=>∃W:Nat->St->Hp->Prop,(∃m,W m σ H)∧∀m σ H,W m σ H->
 c σ H fun b H1=>if b=true then ∃N:St->Hp->Prop,(∀σ' H',N σ' H'->∃m',m'<m∧W m' σ' H')∧tb {D with nx:=N,ct:=N,bk:=D.nx} σ H1 else D.nx σ H1
theorem so {c:Expr} {body:List Stmt} {tc:TT} {tb:TS} (hp:PassesOwn (model X.prog X.w) X.A X.env X.xe) (hc:PT X c tc) (hb:PSs X body tb):PS X (.While c body [] pos) (wK tc tb):=by
 intro pins s σ H D I h
 obtain ⟨W,⟨m0,w0⟩,turn⟩:=h
 refine wpAny_While (codeAny_whileLoop (fun n s'=>∃σ' H',Inv X pins σ' H' s'∧W n σ' H') ?_ m0 ⟨σ,H,I,w0⟩)
 rintro n s1 ⟨σ1,H1,I1,w1⟩
 refine wpAny_passesOwn hp (thn (hc pins s1 σ1 H1 _ I1 (turn n σ1 H1 w1)) fun b s2 ⟨H2,I2,q2⟩=>?_)
 cases b with
 |true=>
  obtain ⟨N,hN,q2⟩:=q2
  rw [if_pos rfl]
  refine wpAny_passesOwn hp (thn (hb pins s2 σ1 H2 _ I2 q2) fun f s3 q3=>?_)
  cases f with
  |next=>
   obtain ⟨σ3,H3,I3,n3⟩:=q3
   obtain ⟨m',hm,w3⟩:=hN σ3 H3 n3
   exact ⟨m',hm,σ3,H3,I3,w3⟩
  |cont=>
   obtain ⟨σ3,H3,I3,n3⟩:=q3
   obtain ⟨m',hm,w3⟩:=hN σ3 H3 n3
   exact ⟨m',hm,σ3,H3,I3,w3⟩
  |brk=>exact q3
  |ret v=>exact q3
 |false=>
  rw [if_neg Bool.false_ne_true]
  exact wpAny_execs_nil ⟨σ1,H2,I2,q2⟩
end
structure It where
 go:Nat->Hp->Prop
 yld:Nat->Hp->V->Hp->Prop
 stop:Nat->Hp->Prop
noncomputable def aY (X:Cx) (pins:List (Addr×Obj)) (H:Hp) (b:Addr):Prop:=
 H b=none∧b≠X.env.locals∧b∉X.fs∧(b∈X.ex∨X.s₀.heap.objs.size<=b)∧(∀x c,X.env.cells.lookup x=some c->c≠b)∧∀p∈X.pn++pins,p.1≠b
theorem Inv.eR {X:Cx} {pins:List (Addr×Obj)} {σ:St} {H H':Hp} {s:Shared} {b:Addr} (I:Inv X pins σ H s) (hb:s.heap.objs.size<=b) (hn:H' b=none):aY X pins H' b:=by
 refine ⟨hn,Nat.ne_of_gt (Nat.lt_of_lt_of_le I.lt hb),I.wF hb,.inr (Nat.le_trans I.sz hb),fun x c e z=>?_,fun p hp z=>?_⟩
 ·obtain ⟨v,q⟩:=I.cell x c e
  exact absurd (Nat.lt_of_lt_of_le q.lt (by rw [z];exact hb)) (Nat.lt_irrefl _)
 ·exact absurd (Nat.lt_of_lt_of_le (Heap.lt_size (I.pin p hp).1) (by rw [z];exact hb)) (Nat.lt_irrefl _)
structure Turn (P:Program) (w:World) (K:PySem.W.Frag) (tg:Expr) (J:It) (fp:List Addr) (it:Addr) (tn:Nat->Heap->Prop):Prop where
 mem:it∈fp
 obj:∀i h,tn i h->∀b∈fp,∃o,h.get? b=some o∧∀v,o.data≠.cell v
 keep:∀i h h',tn i h->(∀b∈fp,∀o,h.get? b=some o->h'.get? b=some o)->tn i h'
 item:∀(X:Cx),X.prog=P->X.w=w->X.K=K->X.calm=true->∀(i:Nat) (pins:List (Addr×Obj)) (s:Shared) (σ:St) (H:Hp) (E:Value->Shared->Prop),Inv X pins σ H s->(∀b∈fp,aY X pins H b)->tn i s.heap->J.go i H->
  wpAny (model P w) X.A (pyNext (.ref it)) (fun r s1=>∃u,r=some u∧
   wpAny (model P w) X.A (letOwnedTupleGo tg (.ref it) u) (fun _ s2=>∃x H',Inv X pins σ H' s2∧RelV x u∧J.yld i H x H'∧tn (i+1) s2.heap∧∀b∈fp,H' b=none) E s1) E s
 done:∀(X:Cx),X.prog=P->X.w=w->X.K=K->X.calm=true->∀(i:Nat) (pins:List (Addr×Obj)) (s:Shared) (σ:St) (H:Hp) (E:Value->Shared->Prop),Inv X pins σ H s->(∀b∈fp,aY X pins H b)->tn i s.heap->J.stop i H->
  wpAny (model P w) X.A (pyNext (.ref it)) (fun r s1=>r=none∧Inv X pins σ H s1) E s
 self:∀(A:Around) (i:Nat) (s:Shared) (Q:Value->Shared->Prop) (E:Value->Shared->Prop),tn i s.heap->Q (.ref it) s->wpAny (model P w) A (pyIter (.ref it)) Q E s
noncomputable abbrev TI:=St->Hp->(It->Hp->Prop)->Prop
noncomputable def PIE (X:Cx) (pins:List (Addr×Obj)) (σ:St) (tg:Expr) (R:It->Hp->Prop) (itv:Value) (s2:Shared):Prop:=
 ∃(it:Addr) (fp:List Addr) (tn:Nat->Heap->Prop) (J:It) (H':Hp),itv=.ref it∧Inv X pins σ H' s2∧Turn X.prog X.w X.K tg J fp it tn∧tn 0 s2.heap∧(∀b∈fp,aY X pins H' b)∧R J H'
noncomputable def PI (X:Cx) (tg iter:Expr) (wi:TI):Prop:=
 ∀(pins:List (Addr×Obj)) (s:Shared) (σ:St) (H:Hp) (R:It->Hp->Prop),Inv X pins σ H s->wi σ H R->
  wpAny (model X.prog X.w) X.A (eval iter X.env) (fun v s1=>wpAny (model X.prog X.w) X.A (pyIter v) (PIE X pins σ tg R) X.xe s1) X.xe s
theorem nL {M:Model} {A:Around} {E:Value->Shared->Prop} {s:Shared} {tg:Expr} {it:Addr} {u:Value} {o:Obj} {n:String} {vs:Array Value} {Q:Unit->Shared->Prop} (ho:s.heap.get? it=some o) (hc:o.cls=.type n) (hd:o.data=.fields vs)
  (hn:["enumerate","zip","dict_itemiterator","dict_reverseitemiterator","odict_iterator","itertools.zip_longest","itertools.pairwise"].contains n=false) (hQ:Q () s):wpAny M A (letOwnedTupleGo tg (.ref it) u) Q E s:=by
 unfold letOwnedTupleGo
 cases tg<;>first
  |exact wpAny_pure hQ
  |(cases u<;>first
    |exact wpAny_pure hQ
    |(refine wpAny_bind (wpAny_load ho ?_)
      rw [hc,hd]
      show wpAny M A (if (["enumerate","zip","dict_itemiterator","dict_reverseitemiterator","odict_iterator","itertools.zip_longest","itertools.pairwise"].contains n&&vs[0]?==some (rawInt _))=true then _ else _) Q E s
      rw [if_neg (by intro h;rw [hn,Bool.false_and] at h;cases h)]
      exact wpAny_pure hQ))
noncomputable def Itl (K:PySem.W.Frag) (a:Addr):It:=
 ⟨fun i H=>∃xs x,SqL K H a xs∧xs[i]?=some x,fun i H x H'=>H'=H∧∀xs,SqL K H a xs->xs[i]?=some x,fun i H=>∃xs,SqL K H a xs∧xs.length<=i⟩
noncomputable def Itt (K:PySem.W.Frag) (a:Addr):It:=
 ⟨fun i H=>∃xs x,SqT K H a xs∧xs[i]?=some x,fun i H x H'=>H'=H∧∀xs,SqT K H a xs->xs[i]?=some x,fun i H=>∃xs,SqT K H a xs∧xs.length<=i⟩
noncomputable def Itr (lo:Int) (n:Nat):It:=⟨fun i _=>i<n,fun i H x H'=>H'=H∧x=.int (lo+i),fun i _=>n<=i⟩
theorem oS {P:Program} {w:World} {K:PySem.W.Frag} {tg:Expr} (a it:Addr):Turn P w K tg (Itl K a) [it] it (fun i h=>h.IsListIter it a i) where
 mem:=by simp
 obj:=fun i h st b hb=>by
  have e:b=it:=by simpa using hb
  subst e
  obtain ⟨o,e,c,d⟩:=st
  exact ⟨o,e,fun v z=>by rw [d] at z;cases z⟩
 keep:=fun i h h' st k=>st.at fun o e=>k it (by simp) o e
 item:=by
  intro X hP hw hK hc i pins s σ H E I hf st hg
  subst hP hw hK
  obtain ⟨xs,x,hq,hx⟩:=hg
  obtain ⟨its,rv,p,hz⟩:=I.list hq
  obtain ⟨u,hu,ru⟩:=rv.get hx
  obtain ⟨f0,f1,f2,f3,f4,f5⟩:=hf it (by simp)
  refine wpAny_pyNext_list_item st p.isList (x:=u) (by simpa using hu) fun h' st' sb=>?_
  have I1:Inv X pins σ H {s with heap:=h'}:=I.turned (t':=s.toks) (fun b o hb e=>(sb.2 b hb).trans e) f0 f1 f3 f4 f5
  obtain ⟨o,e,c,d⟩:=id st'
  exact ⟨u,rfl,nL (s:={s with heap:=h'}) e c d (by decide) ⟨x,H,I1,ru,⟨rfl,fun ys hy=>by rw [I.kI hy hq];exact hx⟩,st',fun b hb=>(hf b hb).1⟩⟩
 done:=by
  intro X hP hw hK hc i pins s σ H E I hf st hg
  subst hP hw hK
  obtain ⟨xs,hq,hx⟩:=hg
  obtain ⟨its,rv,p,hz⟩:=I.list hq
  obtain ⟨f0,f1,f2,f3,f4,f5⟩:=hf it (by simp)
  have hl:=rv.length
  exact wpAny_pyNext_list_end (I.ok.hd hc) st p.isList (by simp;omega) fun h' eb=>⟨rfl,I.turned (t':=s.toks) (fun b o hb e=>eb b o hb e) f0 f1 f3 f4 f5⟩
 self:=fun _ _ _ _ _ st h=>wpAny_pyIter_listiter st h
theorem nv {P:Program} {w:World} {K:PySem.W.Frag} {tg:Expr} (a it:Addr):Turn P w K tg (Itt K a) [it] it (fun i h=>h.IsTupleIter it a i) where
 mem:=by simp
 obj:=fun i h st b hb=>by
  have e:b=it:=by simpa using hb
  subst e
  obtain ⟨o,e,c,d⟩:=st
  exact ⟨o,e,fun v z=>by rw [d] at z;cases z⟩
 keep:=fun i h h' st k=>st.at fun o e=>k it (by simp) o e
 item:=by
  intro X hP hw hK hc i pins s σ H E I hf st hg
  subst hP hw hK
  obtain ⟨xs,x,hq,hx⟩:=hg
  obtain ⟨its,rv,p,hz⟩:=I.tuple hq
  obtain ⟨u,hu,ru⟩:=rv.get hx
  obtain ⟨f0,f1,f2,f3,f4,f5⟩:=hf it (by simp)
  refine wpAny_pyNext_tuple_item st (show s.heap.IsTuple a its.toArray from p) (x:=u) (by simpa using hu) fun h' st' sb=>?_
  have I1:Inv X pins σ H {s with heap:=h'}:=I.turned (t':=s.toks) (fun b o hb e=>(sb.2 b hb).trans e) f0 f1 f3 f4 f5
  obtain ⟨o,e,c,d⟩:=id st'
  exact ⟨u,rfl,nL (s:={s with heap:=h'}) e c d (by decide) ⟨x,H,I1,ru,⟨rfl,fun ys hy=>by rw [I.kh hy hq];exact hx⟩,st',fun b hb=>(hf b hb).1⟩⟩
 done:=by
  intro X hP hw hK hc i pins s σ H E I hf st hg
  subst hP hw hK
  obtain ⟨xs,hq,hx⟩:=hg
  obtain ⟨its,rv,p,hz⟩:=I.tuple hq
  obtain ⟨f0,f1,f2,f3,f4,f5⟩:=hf it (by simp)
  have hl:=rv.length
  exact wpAny_pyNext_tuple_end (I.ok.hd hc) st (show s.heap.IsTuple a its.toArray from p) (by simp;omega) fun h' eb=>⟨rfl,I.turned (t':=s.toks) (fun b o hb e=>eb b o hb e) f0 f1 f3 f4 f5⟩
 self:=fun _ _ _ _ _ st h=>wpAny_pyIter_tupleiter st h
theorem nj {P:Program} {w:World} {K:PySem.W.Frag} {tg:Expr} (it:Addr) (lo:Int) (n:Nat):Turn P w K tg (Itr lo n) [it] it (fun i h=>IsRangeIter h it (lo+(i:Nat)*1) ((n:Int) - (i:Nat)) 1) where
 mem:=by simp
 obj:=fun i h st b hb=>by
  have e:b=it:=by simpa using hb
  subst e
  exact ⟨_,st,fun v z=>by
   have z':Data.fields _=Data.cell v:=z
   cases z'⟩
 keep:=fun i h h' st k=>k it (by simp) _ st
 item:=by
  intro X hP hw hK hc i pins s σ H E I hf st hg
  subst hP hw hK
  obtain ⟨f0,f1,f2,f3,f4,f5⟩:=hf it (by simp)
  have W:=Walks.range (prog:=X.prog) (w:=X.w) (I.ok.hd hc) it lo 1 n
  refine W.item i s _ _ hg st fun v h' tk hv st' kk=>?_
  obtain ⟨t,rfl⟩:=hv
  have I1:Inv X pins σ H {s with heap:=h',toks:=tk}:=I.turned (fun b o hb e=>kk b o (by simpa using hb) e) f0 f1 f3 f4 f5
  refine ⟨_,rfl,nL (s:={s with heap:=h',toks:=tk}) (n:="range_iterator") st' rfl rfl (by decide) ⟨.int (lo+i),H,I1,⟨t,?_⟩,⟨rfl,rfl⟩,st',fun b hb=>(hf b hb).1⟩⟩
  rw [Int.mul_one]
 done:=by
  intro X hP hw hK hc i pins s σ H E I hf st hg
  subst hP hw hK
  obtain ⟨f0,f1,f2,f3,f4,f5⟩:=hf it (by simp)
  exact wpAny_pyNext_range_end (I.ok.hd hc) st (by have:n<=i:=hg;omega) fun h' eb=>⟨rfl,I.turned (t':=s.toks) (fun b o hb e=>eb b o hb e) f0 f1 f3 f4 f5⟩
 self:=fun _ _ _ _ _ st h=>wpAny_pyIter_rangeiter st h
end L2
namespace L2
open PySem PySem.Spec PyProof.Rows
section
variable {X:Cx} {tg:Expr}
noncomputable def Al (K:PySem.W.Frag) (tl:TE):TI:=fun σ H R=>tl σ H fun x H1=>∃a,x=.ref a∧(∃xs,SqL K H1 a xs)∧R (Itl K a) H1
noncomputable def AE (K:PySem.W.Frag) (tl:TE):TI:=fun σ H R=>tl σ H fun x H1=>∃a,x=.ref a∧(∃xs,SqT K H1 a xs)∧R (Itt K a) H1
theorem um {l:Expr} {tl:TE} (hl:PE X l tl):PI X tg l (Al X.K tl):=by
 intro pins s σ H R I h
 refine thn (hl pins s σ H _ I h) fun v s1 ⟨x,H1,I1,r1,q1⟩=>?_
 obtain ⟨a,e,⟨xs,hq⟩,q⟩:=q1
 subst e
 cases r1
 obtain ⟨its,rv,p,hz⟩:=I1.list hq
 refine wpAny_pyIter_list p.isList ?_
 refine ⟨s1.heap.objs.size,[s1.heap.objs.size],_,_,H1,rfl,I1.kept (t':=s1.toks) fun b o e=>Heap.get?_push_of_some _ e,oS a _,⟨_,Heap.get?_push_size _ rfl,rfl,rfl⟩,fun b hb=>?_,q⟩
 have e:b=s1.heap.objs.size:=by simpa using hb
 subst e
 exact I1.eR (Nat.le_refl _) (I1.hok.fresh (Nat.le_refl _))
theorem yA {l:Expr} {tl:TE} (hl:PE X l tl):PI X tg l (AE X.K tl):=by
 intro pins s σ H R I h
 refine thn (hl pins s σ H _ I h) fun v s1 ⟨x,H1,I1,r1,q1⟩=>?_
 obtain ⟨a,e,⟨xs,hq⟩,q⟩:=q1
 subst e
 cases r1
 obtain ⟨its,rv,p,hz⟩:=I1.tuple hq
 refine wpAny_pyIter_tuple (show s1.heap.IsTuple a its.toArray from p) ?_
 refine ⟨s1.heap.objs.size,[s1.heap.objs.size],_,_,H1,rfl,I1.kept (t':=s1.toks) fun b o e=>Heap.get?_push_of_some _ e,nv a _,⟨_,Heap.get?_push_size _ rfl,rfl,rfl⟩,fun b hb=>?_,q⟩
 have e:b=s1.heap.objs.size:=by simpa using hb
 subst e
 exact I1.eR (Nat.le_refl _) (I1.hok.fresh (Nat.le_refl _))
theorem lT {pins:List (Addr×Obj)} {σ:St} {H:Hp} {s:Shared} {R:It->Hp->Prop} {E:Value->Shared->Prop} {lo hi:Int} {t u v:Tok} {tk:Nat} (I:Inv X pins σ H s) (h1: -(2^62)<=lo) (h2:lo<2^62) (h3: -(2^62)<=hi) (h4:hi<2^62)
  (q:R (Itr lo (hi - lo).toNat) H):wpAny (model X.prog X.w) X.A (pyIter (.ref s.heap.objs.size)) (PIE X pins σ tg R) E {s with heap:=s.heap.push {cls:=.type "range",data:=.fields #[.int lo t,.int hi u,.int 1 v]},toks:=tk}:=by
 refine wpAny_pyIter_range (IsRange.new ..) (small_one h1 h2 h3 h4) ?_
 have I1:Inv X pins σ H {s with heap:=s.heap.push {cls:=.type "range",data:=.fields #[.int lo t,.int hi u,.int 1 v]},toks:=tk}:=I.kept fun b o e=>Heap.get?_push_of_some _ e
 refine ⟨(s.heap.push {cls:=.type "range",data:=.fields #[.int lo t,.int hi u,.int 1 v]}).objs.size,[(s.heap.push {cls:=.type "range",data:=.fields #[.int lo t,.int hi u,.int 1 v]}).objs.size],_,_,H,rfl,
  I1.kept (t':=tk) fun b o e=>Heap.get?_push_of_some _ e,nj _ lo (hi - lo).toNat,?_,fun b hb=>?_,q⟩
 ·have e1:lo+((0:Nat):Int)*1=lo:=by simp
  have e2:(((hi - lo).toNat:Nat):Int) - ((0:Nat):Int)=Builtin.Range.rangeSize lo hi 1:=by rw [rangeSize_one];split<;>omega
  show IsRangeIter _ _ (lo+((0:Nat):Int)*1) ((((hi - lo).toNat:Nat):Int) - ((0:Nat):Int)) 1
  rw [e1,e2]
  exact Heap.get?_push_size _ rfl
 ·have e:b=(s.heap.push {cls:=.type "range",data:=.fields #[.int lo t,.int hi u,.int 1 v]}).objs.size:=by simpa using hb
  subst e
  exact I1.eR (Nat.le_refl _) (I1.hok.fresh (Nat.le_refl _))
noncomputable def zk (ta:TA):TI:=fun σ H R=>ta σ H fun vs H1=>∃j:Int,vs=[.int j]∧ -(2^62)<=j∧j<2^62∧R (Itr 0 j.toNat) H1
noncomputable def Ae (ta:TA):TI:=fun σ H R=>ta σ H fun vs H1=>∃i j:Int,vs=[.int i,.int j]∧(-(2^62)<=i∧i<2^62∧ -(2^62)<=j∧j<2^62)∧R (Itr i (j - i).toNat) H1
theorem o8 {a:Expr} {ta:TA} {p pos:Pos} (hg:Gl X "range") (hm:X.mg "range"=none) (ha:PA X [a] ta) (hs:starEach [a] X.env=[(false,eval a X.env)]:=by rfl):PI X tg (.Call (.Name "range" p) [a] [] pos) (zk ta):=by
 intro pins s σ H R I h
 refine Call_ (dC I hg hm boot_range (PyProof.Rows.callWith_type1 (thn (ha pos pins s σ H _ I h) fun us s1 ⟨vs,H1,I1,r1,q1⟩=>?_) hs rfl))
 obtain ⟨j,e,q1,q2,q⟩:=q1
 subst e
 cases r1 with
 |cons r rr=>
  cases rr
  obtain ⟨t,rfl⟩:=r
  exact call_range_1 (lT I1 (by omega) (by omega) q1 q2 (by simpa using q))
theorem qD {a b:Expr} {ta:TA} {p pos:Pos} (hg:Gl X "range") (hm:X.mg "range"=none) (ha:PA X [a,b] ta) (hs:starEach [a,b] X.env=[(false,eval a X.env),(false,eval b X.env)]:=by rfl) (hs2:starEach [b] X.env=[(false,eval b X.env)]:=by rfl):
  PI X tg (.Call (.Name "range" p) [a,b] [] pos) (Ae ta):=by
 intro pins s σ H R I h
 refine Call_ (dC I hg hm boot_range (PyProof.Rows.callWith_type1 (thn (ha pos pins s σ H _ I h) fun us s1 ⟨vs,H1,I1,r1,q1⟩=>?_) (by rw [hs,hs2]) (by rw [hs2];rfl)))
 obtain ⟨i,j,e,⟨q1,q2,q3,q4⟩,q⟩:=q1
 subst e
 cases r1 with
 |cons r rr=>
  cases rr with
  |cons r' rr=>
   cases rr
   obtain ⟨t,rfl⟩:=r
   obtain ⟨t',rfl⟩:=r'
   exact call_range_2 (lT I1 q1 q2 q3 q4 q)
noncomputable def A2 (wi:TI) (g:TG) (tb:TS):TS:=fun D σ H=>wi σ H fun J H1=>∃W:Nat->Nat->St->Hp->Prop,(∃m,W 0 m σ H1)∧∀i m σ H,W i m σ H->
 (J.stop i H∧D.nx σ H)∨(J.go i H∧∃N:St->Hp->Prop,(∀σ' H',N σ' H'->∃m',m'<m∧W (i+1) m' σ' H')∧∀x H',J.yld i H x H'->g x σ H' fun σ2 H2=>tb {D with nx:=N,ct:=N,bk:=D.nx} σ2 H2)
noncomputable def bN (fp:List Addr) (h:Heap):List (Addr×Obj):=fp.filterMap fun b=>(h.get? b).map fun o=>(b,o)
theorem bG {fp:List Addr} {h:Heap} {b:Addr} {o:Obj} (hb:b∈fp) (e:h.get? b=some o):(b,o)∈bN fp h:=List.mem_filterMap.mpr ⟨b,hb,by rw [e];rfl⟩
theorem gC {fp:List Addr} {h:Heap} {p:Addr×Obj} (hp:p∈bN fp h):p.1∈fp∧h.get? p.1=some p.2:=by
 obtain ⟨b,hb,e⟩:=List.mem_filterMap.mp hp
 cases q:h.get? b with
 |none=>rw [q] at e;cases e
 |some o=>
  rw [q] at e
  have e':(b,o)=p:=Option.some.inj e
  subst e'
  exact ⟨hb,q⟩
theorem Inv.pinned {pins:List (Addr×Obj)} {σ:St} {H:Hp} {s:Shared} {fp:List Addr} (I:Inv X pins σ H s) (hf:∀b∈fp,aY X pins H b) (ho:∀b∈fp,∃o,s.heap.get? b=some o∧∀v,o.data≠.cell v):Inv X (pins++bN fp s.heap) σ H s:=
 I.jE fun p hp=>(List.mem_append.mp hp).elim (fun z=>I.pin p (List.mem_append_right _ z)) fun z=>by
  obtain ⟨hb,e⟩:=gC z
  obtain ⟨f0,f1,f2,_⟩:=hf p.1 hb
  obtain ⟨o,e',d⟩:=ho p.1 hb
  rw [e] at e';cases e'
  exact ⟨e,f0,f1,f2,d⟩
theorem Inv.b9 {pins pl:List (Addr×Obj)} {σ:St} {H:Hp} {s:Shared} (I:Inv X (pins++pl) σ H s):Inv X pins σ H s:=I.jE fun p hp=>I.pin p (List.mem_append_right _ (List.mem_append_left _ hp))
theorem qH {iter:Expr} {body:List Stmt} {wi:TI} {g:TG} {tb:TS} {pos:Pos} (hp:PassesOwn (model X.prog X.w) X.A X.env X.xe) (hc:X.calm=true) (hi:PI X tg iter wi) (hg:PG X tg g) (hb:PSs X body tb)
  (hs:∀x,foldedSetIterable iter X.env x=pure x:=by intro _;rfl):PS X (.For tg iter body [] pos) (A2 wi g tb):=by
 intro pins s σ H D I h
 refine wpAny_For (thn (hi pins s σ H _ I h) fun v s1 h1=>thn h1 fun itv s2 h2=>?_) hs
 obtain ⟨it,fp,tn,J,H2,e,I2,T,st2,f2,W,⟨m0,w0⟩,turn⟩:=h2
 subst e
 have stat:∀{H':Hp},(∀b∈fp,H' b=none)->∀b∈fp,aY X pins H' b:=fun hn b hb=>⟨hn b hb,(f2 b hb).2⟩
 refine codeAny_forLoop_any (fun n s'=>∃i σ' H',Inv X pins σ' H' s'∧tn i s'.heap∧(∀b∈fp,H' b=none)∧W i n σ' H') ?_ m0 ⟨0,σ,H2,I2,st2,fun b hb=>(f2 b hb).1,w0⟩
 rintro n s3 ⟨i,σ3,H3,I3,st3,fr3,w3⟩
 rcases turn i n σ3 H3 w3 with ⟨stop,qn⟩|⟨go,N,hN,step⟩
 ·refine wpAny_passesOwn hp (thn (T.done X rfl rfl rfl hc i pins s3 σ3 H3 X.xe I3 (stat fr3) st3 stop) fun r s4 ⟨hr,I4⟩=>?_)
  subst hr
  exact wpAny_execs_nil ⟨σ3,H3,I4,qn⟩
 ·refine wpAny_passesOwn hp (thn (T.item X rfl rfl rfl hc i pins s3 σ3 H3 X.xe I3 (stat fr3) st3 go) fun r s4 ⟨u,hr,h4⟩=>?_)
  subst hr
  refine wpAny_passesOwn hp (thn h4 fun _ s5 ⟨x,H5,I5,r5,y5,st5,fr5⟩=>?_)
  have I5':=I5.pinned (stat fr5) (T.obj _ _ st5)
  refine wpAny_passesOwn hp (thn (hg _ s5 σ3 H5 x u _ I5' r5 (step x H5 y5)) fun _ s6 ⟨σ6,H6,I6,q6⟩=>?_)
  refine wpAny_passesOwn hp (thn (hb _ s6 σ6 H6 _ I6 q6) fun f s7 q7=>?_)
  have again:∀{σ7:St} {H7:Hp},Inv X (pins++bN fp s5.heap) σ7 H7 s7->N σ7 H7->∃m,m<n∧∃i σ' H',Inv X pins σ' H' s7∧tn i s7.heap∧(∀b∈fp,H' b=none)∧W i m σ' H':=fun {σ7 H7} I7 n7=>by
   obtain ⟨m',hm,w7⟩:=hN σ7 H7 n7
   refine ⟨m',hm,i+1,σ7,H7,I7.b9,T.keep _ _ _ st5 fun b hb o e=>(I7.pin (b,o) (List.mem_append_right _ (List.mem_append_right _ (bG hb e)))).1,fun b hb=>?_,w7⟩
   obtain ⟨o,e,d⟩:=T.obj _ _ st5 b hb
   exact (I7.pin (b,o) (List.mem_append_right _ (List.mem_append_right _ (bG hb e)))).2.1
  cases f with
  |next=>obtain ⟨σ7,H7,I7,n7⟩:=q7;exact again I7 n7
  |cont=>obtain ⟨σ7,H7,I7,n7⟩:=q7;exact again I7 n7
  |brk=>obtain ⟨σ7,H7,I7,q7⟩:=q7;exact ⟨σ7,H7,I7.b9,q7⟩
  |ret v=>obtain ⟨x7,σ7,H7,I7,r7,q7⟩:=q7;exact ⟨x7,σ7,H7,I7.b9,r7,q7⟩
end
end L2
namespace L2
open PySem PySem.Spec PyProof.Rows
noncomputable abbrev R2:=V->V->Hp->VK->Prop
noncomputable def OpR (X:Cx) (f:Value->Value->Sem Value) (r:R2):Prop:=
 ∀(pins:List (Addr×Obj)) (s:Shared) (σ:St) (H:Hp) (x y:V) (v u:Value) (Q:VK),Inv X pins σ H s->RelV x v->RelV y u->r x y H Q->
  wpAny (model X.prog X.w) X.A (f v u) (EP X pins σ Q) X.xe s
noncomputable def UnR (X:Cx) (f:Value->Sem Value) (r:V->Hp->VK->Prop):Prop:=
 ∀(pins:List (Addr×Obj)) (s:Shared) (σ:St) (H:Hp) (x:V) (v:Value) (Q:VK),Inv X pins σ H s->RelV x v->r x H Q->
  wpAny (model X.prog X.w) X.A (f v) (EP X pins σ Q) X.xe s
noncomputable def dA (X:Cx) (f:Value) (r:List V->Hp->VK->Prop):Prop:=
 ∀(pins:List (Addr×Obj)) (s:Shared) (σ:St) (H:Hp) (xs:List V) (us:List Value) (Q:VK),Inv X pins σ H s->Vals xs us->r xs H Q->
  wpAny (model X.prog X.w) X.A (call f us) (EP X pins σ Q) X.xe s
noncomputable def tOp (r:R2) (ta tb:TE):TE:=fun σ H Q=>ta σ H fun x H1=>tb σ H1 fun y H2=>r x y H2 Q
noncomputable def tUn (r:V->Hp->VK->Prop) (ta:TE):TE:=fun σ H Q=>ta σ H fun x H1=>r x H1 Q
noncomputable def rI (C:Int->Int->Prop) (g:Int->Int->V):R2:=fun x y H Q=>∃i j,x=.int i∧y=.int j∧C i j∧Q (g i j) H
noncomputable def rI0 (g:Int->Int->V):R2:=fun x y H Q=>∃i j,x=.int i∧y=.int j∧Q (g i j) H
noncomputable def rU (g:Int->V):V->Hp->VK->Prop:=fun x H Q=>∃i,x=.int i∧Q (g i) H
section
variable {X:Cx} {a b c:Expr} {ta tb tc:TE} {pos:Pos}
theorem sG (ha:PE X a ta) (hb:PE X b tb) {pins:List (Addr×Obj)} {s:Shared} {σ:St} {H:Hp} {R:V->V->Hp->Prop} (I:Inv X pins σ H s)
  (h:ta σ H fun x H1=>tb σ H1 fun y H2=>R x y H2) {Q:Value->Shared->Prop} {f:Value->Value->Sem Value}
  (hf:∀v u s2 x y H2,Inv X pins σ H2 s2->RelV x v->RelV y u->R x y H2->wpAny (model X.prog X.w) X.A (f v u) Q X.xe s2):
  wpAny (model X.prog X.w) X.A (eval a X.env) (fun v s₁=>wpAny (model X.prog X.w) X.A (eval b X.env) (fun u s₂=>wpAny (model X.prog X.w) X.A (f v u) Q X.xe s₂) X.xe s₁) X.xe s:=by
 refine thn (ha pins s σ H _ I h) fun v s1 ⟨x,H1,I1,r1,q1⟩=>?_
 refine thn (hb pins s1 σ H1 _ I1 q1) fun u s2 ⟨y,H2,I2,r2,q2⟩=>?_
 exact hf v u s2 x y H2 I2 r1 r2 q2
theorem Ac {op:Operator} {r:R2} (ho:OpR X (binaryOp op) r) (ha:PE X a ta) (hb:PE X b tb):PE X (.BinOp a op b pos) (tOp r ta tb):=by
 intro pins s σ H Q I h
 exact wpAny_BinOp (sG ha hb I h fun v u s2 x y H2 I2 rx ry q=>ho pins s2 σ H2 x y v u Q I2 rx ry q)
theorem zu {op:UnaryOp} {r:V->Hp->VK->Prop} (ho:UnR X (unaryOp op) r) (ha:PE X a ta):PE X (.UnaryOp op a pos) (tUn r ta):=by
 intro pins s σ H Q I h
 exact UnaryOp_ (thn (ha pins s σ H _ I h) fun v s1 ⟨x,H1,I1,r1,q1⟩=>ho pins s1 σ H1 x v Q I1 r1 q1)
theorem opI {f:Value->Value->Sem Value} {C:Int->Int->Prop} {g:Int->Int->Int}
  (rule:∀(i j:Int) (t u:Tok) (s:Shared) (Q:Value->Shared->Prop) (E:Value->Shared->Prop),C i j->Q (.int (g i j) s.toks) {s with toks:=s.toks+1}->wpAny (model X.prog X.w) X.A (f (.int i t) (.int j u)) Q E s):
  OpR X f (rI C fun i j=>.int (g i j)):=by
 intro pins s σ H x y v u Q I rx ry h
 obtain ⟨i,j,rfl,rfl,hc,q⟩:=h
 obtain ⟨t,rfl⟩:=rx
 obtain ⟨t',rfl⟩:=ry
 exact rule i j t t' s _ _ hc ⟨.int (g i j),H,I.tok _,⟨_,rfl⟩,q⟩
theorem y_ {f:Value->Value->Sem Value} {g:Int->Int->Int}
  (rule:∀(i j:Int) (t u:Tok) (s:Shared) (Q:Value->Shared->Prop) (E:Value->Shared->Prop),Q (.int (g i j) s.toks) {s with toks:=s.toks+1}->wpAny (model X.prog X.w) X.A (f (.int i t) (.int j u)) Q E s):
  OpR X f (rI0 fun i j=>.int (g i j)):=by
 intro pins s σ H x y v u Q I rx ry h
 obtain ⟨i,j,rfl,rfl,q⟩:=h
 obtain ⟨t,rfl⟩:=rx
 obtain ⟨t',rfl⟩:=ry
 exact rule i j t t' s _ _ ⟨.int (g i j),H,I.tok _,⟨_,rfl⟩,q⟩
theorem n_ {f:Value->Value->Sem Value} {g:Int->Int->Bool}
  (rule:∀(i j:Int) (t u:Tok) (s:Shared) (Q:Value->Shared->Prop) (E:Value->Shared->Prop),Q (.bool (g i j)) s->wpAny (model X.prog X.w) X.A (f (.int i t) (.int j u)) Q E s):
  OpR X f (rI0 fun i j=>.bl (g i j)):=by
 intro pins s σ H x y v u Q I rx ry h
 obtain ⟨i,j,rfl,rfl,q⟩:=h
 obtain ⟨t,rfl⟩:=rx
 obtain ⟨t',rfl⟩:=ry
 exact rule i j t t' s _ _ ⟨.bl (g i j),H,I,rfl,q⟩
noncomputable def nM (i j:Int):Prop:=0<j∧j<1073741824
noncomputable def ic (i j:Int):Prop:=(-(2^64)<i∧i<2^64)∨(-(2^64)<j∧j<2^64)
theorem ic.ok {i j:Int} (h:ic i j):IntMulOk i j:=by
 rcases h with ⟨h1,h2⟩|⟨h1,h2⟩
 ·exact .of_left (intBits_le_64 h1 h2)
 ·exact .of_right (intBits_le_64 h1 h2)
theorem two_pow_nn (k:Nat):(0:Int)<=2^k:=by
 rw [two_pow_cast]
 exact Int.natCast_nonneg _
theorem yf:OpR X (binaryOp .Add) (rI0 fun i j=>.int (i+j)):=y_ fun _ _ _ _ _ _ _ q=>add_int q
theorem xx:OpR X (binaryOp .Sub) (rI0 fun i j=>.int (i - j)):=y_ fun _ _ _ _ _ _ _ q=>sub_int q
theorem yI:OpR X (binaryOp .Mult) (rI ic fun i j=>.int (i*j)):=opI fun _ _ _ _ _ _ _ hc q=>mul_int q hc.ok
theorem uO:OpR X (binaryOp .FloorDiv) (rI nM fun i j=>.int (i / j)):=opI fun i j _ _ _ _ _ hc q=>by
 have h1:(0:Int)<j:=hc.1
 have h2:j<1073741824:=hc.2
 exact floordiv_int (by omega) (by rw [Int.fdiv_eq_ediv_of_nonneg i (by omega)];exact q) (.inl (PyProof.noPylong_small (by omega)))
theorem xy:OpR X (binaryOp .Mod) (rI (fun _ j=>0<j) fun i j=>.int (i%j)):=opI fun i j _ _ _ _ _ hc q=>by
 have h1:(0:Int)<j:=hc
 exact mod_int' (by omega) (by rw [Int.fmod_eq_emod_of_nonneg i (by omega)];exact q)
theorem wD:OpR X (binaryOp .RShift) (rI (fun _ j=>0<=j) fun i j=>.int (i / 2^j.toNat)):=opI fun i j _ _ _ _ _ hc q=>
 rshift_int hc (by rw [Int.fdiv_eq_ediv_of_nonneg i (two_pow_nn _)];exact q)
theorem unI {f:Value->Sem Value} {g:Int->Int}
  (rule:∀(i:Int) (t:Tok) (s:Shared) (Q:Value->Shared->Prop) (E:Value->Shared->Prop),Q (.int (g i) s.toks) {s with toks:=s.toks+1}->wpAny (model X.prog X.w) X.A (f (.int i t)) Q E s):
  UnR X f (rU fun i=>.int (g i)):=by
 intro pins s σ H x v Q I rx h
 obtain ⟨i,rfl,q⟩:=h
 obtain ⟨t,rfl⟩:=rx
 exact rule i t s _ _ ⟨.int (g i),H,I.tok _,⟨_,rfl⟩,q⟩
theorem yB:UnR X (unaryOp .USub) (rU fun i=>.int (-i)):=unI fun _ _ _ _ _ q=>neg_int q
end
noncomputable def nD:V->V->Bool
 |.non,.non=>true|.non,.int _=>true|.int _,.non=>true|.non,.bl _=>true|.bl _,.non=>true|.non,.str _=>true|.str _,.non=>true
 |.int _,.int _=>true|.bl _,.bl _=>true|.str _,.str _=>true|.byt _,.byt _=>true
 |.int _,.str _=>true|.str _,.int _=>true|.bl _,.str _=>true|.str _,.bl _=>true
 |_,_=>false
noncomputable def rEq:R2:=fun x y H Q=>nD x y=true∧Q (.bl (decide (x=y))) H
noncomputable def rNe:R2:=fun x y H Q=>nD x y=true∧Q (.bl (!decide (x=y))) H
theorem mQ {i j:Int}:decide (V.int i=V.int j)=(i==j):=by
 rw [Bool.eq_iff_iff]
 simp
theorem qz {i j:Bool}:decide (V.bl i=V.bl j)=(i==j):=by
 rw [Bool.eq_iff_iff]
 simp
theorem mO {i j:Str}:decide (V.str i=V.str j)=(i==j):=by
 rw [Bool.eq_iff_iff]
 simp
theorem mX {i j:Array UInt8}:decide (V.byt i=V.byt j)=(i.toList==j.toList):=by
 rw [Bool.eq_iff_iff]
 cases i
 cases j
 simp
section
variable {X:Cx} {a b c:Expr} {ta tb tc:TE} {pos:Pos}
theorem aC {pins:List (Addr×Obj)} {σ:St} {H:Hp} {s:Shared} {Q:VK} {k k':Bool} (I:Inv X pins σ H s) (q:Q (.bl k) H) (e:k=k'):EP X pins σ Q (.bool k') s:=by
 subst e
 exact ⟨.bl k,H,I,rfl,q⟩
theorem sR:OpR X (compareOp .Eq) rEq:=by
 intro pins s σ H x y v u Q I rx ry h
 obtain ⟨hs,q⟩:=h
 cases x with
 |non=>
  cases rx
  cases y with
  |non=>cases ry;exact PySem.EqNone.eq_none_none (aC I q (by simp))
  |bl j=>cases ry;exact PySem.EqNone.eq_none_bool (aC I q (by simp))
  |int j=>obtain ⟨t',rfl⟩:=ry;exact PySem.EqNone.eq_none_int (aC I q (by simp))
  |str j=>obtain ⟨t',rfl⟩:=ry;exact PySem.EqNone.eq_none_str (aC I q (by simp))
  |_=>exact absurd (show false=true from hs) Bool.false_ne_true
 |bl i=>
  cases rx
  cases y with
  |non=>cases ry;exact PySem.EqNone.eq_bool_none (aC I q (by simp))
  |bl j=>cases ry;exact eq_bool (aC I q qz)
  |str j=>obtain ⟨t',rfl⟩:=ry;exact PySem.EqMixed.eq_bool_str (aC I q (by simp))
  |_=>exact absurd (show false=true from hs) Bool.false_ne_true
 |int i=>
  obtain ⟨t,rfl⟩:=rx
  cases y with
  |non=>cases ry;exact PySem.EqNone.eq_int_none (aC I q (by simp))
  |int j=>obtain ⟨t',rfl⟩:=ry;exact eq_int (aC I q mQ)
  |str j=>obtain ⟨t',rfl⟩:=ry;exact PySem.EqMixed.eq_int_str (aC I q (by simp))
  |_=>exact absurd (show false=true from hs) Bool.false_ne_true
 |str i=>
  obtain ⟨t,rfl⟩:=rx
  cases y with
  |non=>cases ry;exact PySem.EqNone.eq_str_none (aC I q (by simp))
  |bl j=>cases ry;exact PySem.EqMixed.eq_str_bool (aC I q (by simp))
  |int j=>obtain ⟨t',rfl⟩:=ry;exact PySem.EqMixed.eq_str_int (aC I q (by simp))
  |str j=>obtain ⟨t',rfl⟩:=ry;exact eq_str (aC I q mO)
  |_=>exact absurd (show false=true from hs) Bool.false_ne_true
 |byt i=>
  obtain ⟨t,rfl⟩:=rx
  cases y with
  |byt j=>obtain ⟨t',rfl⟩:=ry;exact PySem.W.eq_bytes (aC I q mX)
  |_=>exact absurd (show false=true from hs) Bool.false_ne_true
 |_=>cases y<;>exact absurd (show false=true from hs) Bool.false_ne_true
theorem sY:OpR X (compareOp .NotEq) rNe:=by
 intro pins s σ H x y v u Q I rx ry h
 obtain ⟨hs,q⟩:=h
 cases x with
 |non=>
  cases rx
  cases y with
  |non=>cases ry;exact PySem.EqNone.ne_none_none (aC I q (by simp))
  |bl j=>cases ry;exact PySem.EqNone.ne_none_bool (aC I q (by simp))
  |int j=>obtain ⟨t',rfl⟩:=ry;exact PySem.EqNone.ne_none_int (aC I q (by simp))
  |str j=>obtain ⟨t',rfl⟩:=ry;exact PySem.EqNone.ne_none_str (aC I q (by simp))
  |_=>exact absurd (show false=true from hs) Bool.false_ne_true
 |bl i=>
  cases rx
  cases y with
  |non=>cases ry;exact PySem.EqNone.ne_bool_none (aC I q (by simp))
  |bl j=>cases ry;exact ne_bool (aC I q (congrArg not qz))
  |str j=>obtain ⟨t',rfl⟩:=ry;exact PySem.EqMixed.ne_bool_str (aC I q (by simp))
  |_=>exact absurd (show false=true from hs) Bool.false_ne_true
 |int i=>
  obtain ⟨t,rfl⟩:=rx
  cases y with
  |non=>cases ry;exact PySem.EqNone.ne_int_none (aC I q (by simp))
  |int j=>obtain ⟨t',rfl⟩:=ry;exact ne_int (aC I q (congrArg not mQ))
  |str j=>obtain ⟨t',rfl⟩:=ry;exact PySem.EqMixed.ne_int_str (aC I q (by simp))
  |_=>exact absurd (show false=true from hs) Bool.false_ne_true
 |str i=>
  obtain ⟨t,rfl⟩:=rx
  cases y with
  |non=>cases ry;exact PySem.EqNone.ne_str_none (aC I q (by simp))
  |bl j=>cases ry;exact PySem.EqMixed.ne_str_bool (aC I q (by simp))
  |int j=>obtain ⟨t',rfl⟩:=ry;exact PySem.EqMixed.ne_str_int (aC I q (by simp))
  |str j=>obtain ⟨t',rfl⟩:=ry;exact ne_str (aC I q (congrArg not mO))
  |_=>exact absurd (show false=true from hs) Bool.false_ne_true
 |byt i=>
  obtain ⟨t,rfl⟩:=rx
  cases y with
  |byt j=>obtain ⟨t',rfl⟩:=ry;exact PySem.W.ne_bytes (aC I q (congrArg not mX))
  |_=>exact absurd (show false=true from hs) Bool.false_ne_true
 |_=>cases y<;>exact absurd (show false=true from hs) Bool.false_ne_true
theorem nY:OpR X (compareOp .Lt) (rI0 fun i j=>.bl (decide (i<j))):=n_ fun _ _ _ _ _ _ _ q=>lt_int q
theorem oz:OpR X (compareOp .LtE) (rI0 fun i j=>.bl (decide (i<=j))):=n_ fun _ _ _ _ _ _ _ q=>le_int q
theorem sO:OpR X (compareOp .Gt) (rI0 fun i j=>.bl (decide (j<i))):=n_ fun _ _ _ _ _ _ _ q=>gt_int q
theorem tx:OpR X (compareOp .GtE) (rI0 fun i j=>.bl (decide (j<=i))):=n_ fun _ _ _ _ _ _ _ q=>ge_int q
theorem pH:OpR X (compareOp .Is) (fun x y H Q=>y=.non∧Q (.bl (decide (x=.non))) H):=by
 intro pins s σ H x y v u Q I rx ry h
 obtain ⟨rfl,q⟩:=h
 cases ry
 refine is_none_gen (aC I q ?_)
 cases x<;>first
  |(cases rx;rfl)
  |(obtain ⟨t,rfl⟩:=rx;rfl)
theorem mz:OpR X (compareOp .IsNot) (fun x y H Q=>y=.non∧Q (.bl (!decide (x=.non))) H):=by
 intro pins s σ H x y v u Q I rx ry h
 obtain ⟨rfl,q⟩:=h
 cases ry
 refine isnot_none_gen (aC I q ?_)
 cases x<;>first
  |(cases rx;rfl)
  |(obtain ⟨t,rfl⟩:=rx;rfl)
theorem aN (b:Expr) {op:CmpOp} (h:op≠.In:=by decide) (h2:op≠.NotIn:=by decide):behindInMarks op b=false:=by
 have e1:(op==CmpOp.In)=false:=by cases op<;>first|rfl|exact absurd rfl h
 have e2:(op==CmpOp.NotIn)=false:=by cases op<;>first|rfl|exact absurd rfl h2
 cases b<;>simp [behindInMarks,e1,e2]
theorem ur {op:CmpOp} {r:R2} (ho:OpR X (compareOp op) r) (ha:PE X a ta) (hb:PE X b tb) (hm:behindInMarks op b=false):PE X (.Compare a [op] [b] pos) (tOp r ta tb):=by
 intro pins s σ H Q I h
 exact wpAny_Compare1 (sG ha hb I h fun v u s2 x y H2 I2 rx ry q=>ho pins s2 σ H2 x y v u Q I2 rx ry q) hm
noncomputable def zH (t:TE):TT:=fun σ H Q=>t σ H fun x H'=>∃k,x=.bl k∧Q k H'
theorem uy {op:CmpOp} {r:R2} (ho:OpR X (compareOp op) r) (ha:PE X a ta) (hb:PE X b tb) (hm:behindInMarks op b=false):PT X (.Compare a [op] [b] pos) (zH (tOp r ta tb)):=by
 intro pins s σ H Q I h
 refine wpAny_isTrue_Compare1 (thn (ha pins s σ H _ I h) fun v s1 ⟨x,H1,I1,r1,q1⟩=>thn (hb pins s1 σ H1 _ I1 q1) fun u s2 ⟨y,H2,I2,r2,q2⟩=>
  thn (ho pins s2 σ H2 x y v u _ I2 r1 r2 q2) fun c s3 ⟨z,H3,I3,r3,k,e,q3⟩=>?_) hm
 subst e
 cases r3
 exact wpAny_truthy_bool ⟨H3,I3,q3⟩
noncomputable def y8 (r r':R2) (ta tb tc:TE):TE:=fun σ H Q=>ta σ H fun x H1=>tb σ H1 fun y H2=>r x y H2 fun z H3=>∃k,z=.bl k∧
 (if k=true then tc σ H3 fun w' H4=>r' y w' H4 Q else Q (.bl false) H3)
theorem rO {op op':CmpOp} {r r':R2} (ho:OpR X (compareOp op) r) (ho':OpR X (compareOp op') r') (ha:PE X a ta) (hb:PE X b tb) (hc:PE X c tc)
  (hm:lastMarks [op,op'] [b,c]=false:=by with_unfolding_all rfl):PE X (.Compare a [op,op'] [b,c] pos) (y8 r r' ta tb tc):=by
 intro pins s σ H Q I h
 refine Compare_chain (thn (ha pins s σ H _ I h) fun v s1 ⟨x,H1,I1,r1,q1⟩=>chain_link (thn (hb pins s1 σ H1 _ I1 q1) fun u s2 ⟨y,H2,I2,r2,q2⟩=>
  thn (ho pins s2 σ H2 x y v u _ I2 r1 r2 q2) fun d s3 ⟨z,H3,I3,r3,k,e,q3⟩=>?_)) hm
 subst e
 cases r3
 refine wpAny_truthy_bool ?_
 cases k with
 |false=>exact ite_ff ⟨.bl false,H3,I3,rfl,q3⟩
 |true=>exact ite_tt (chain_last (thn (hc pins s3 σ H3 _ I3 q3) fun w' s4 ⟨z',H4,I4,r4,q4⟩=>ho' pins s4 σ H4 y z' u w' Q I4 r2 r4 q4))
theorem kF:(sizeLine:Nat)<2^63:=by rw [sizeLine_eq];decide
theorem vals1 {x:V} {us:List Value} (r:Vals [x] us):∃u,us=[u]∧RelV x u:=by
 cases r with
 |cons r1 r2=>cases r2;exact ⟨_,rfl,r1⟩
theorem rX:dA X (.builtin "abs") (fun xs H Q=>∃i,xs=[.int i]∧Q (.int (if i<0 then -i else i)) H):=by
 intro pins s σ H xs us Q I r h
 obtain ⟨i,rfl,q⟩:=h
 obtain ⟨u,rfl,t,rfl⟩:=vals1 r
 exact call_abs_int fun u tk=>⟨.int (if i<0 then -i else i),H,I.tok _,⟨_,rfl⟩,q⟩
end
end L2
namespace L2
open PySem PySem.Spec PyProof.Rows
structure iB (h:Heap) (x dx C:Addr) (mA:Str->Option Value):Prop where
 obj:h.get? x=some (PySem.W.instObj C dx)
 ns:h.Ns1 dx mA
 ne:dx≠x
theorem j0 {h:Heap} {dx:Addr} {mA:Str->Option Value} (n:h.Ns1 dx mA):∃od,h.get? dx=some od∧∀name,PySem.W.lookIn name od=some (mA name):=by
 obtain ⟨o,es,ep,ho,hd,hk,_,hm⟩:=n
 refine ⟨o,ho,fun name=>?_⟩
 have e:=hm name
 unfold nsFind findBy at e
 rw [←Array.find?_toList] at e
 unfold PySem.W.lookIn
 rw [hd]
 dsimp only
 split
 ·rename_i y q
  rw [q] at e
  exact congrArg some e
 ·rename_i q
  rw [q] at e
  have a:es.toList.any (·.refKey)=false:=by
   rw [List.any_eq_false]
   intro y hy
   obtain ⟨z,t,hkey⟩:=hk y (Array.mem_toList_iff.mp hy)
   simp [DictEntry.refKey,hkey]
  have a':¬es.toList.any (·.refKey)=true:=by rw [a];exact Bool.false_ne_true
  rw [if_neg a']
  exact congrArg some e
theorem iB.look {h:Heap} {x dx C:Addr} {mA:Str->Option Value} (I:iB h x dx C mA):∃od,PySem.W.InstAt h x (PySem.W.instObj C dx) C (some od)∧∀name,PySem.W.lookIn name od=some (mA name):=
 let ⟨od,ho,hl⟩:=j0 I.ns
 ⟨od,⟨I.obj,rfl,rfl,ho⟩,hl⟩
section
variable {prog:Program} {w:World} {A:Around} {E:Value->Shared->Prop} {s:Shared} {K:PySem.W.Frag} {x dx C f:Addr} {mA:Str->Option Value} {name:Str} {v:Value}
theorem get_map {expr:Bool} {Q:Value->Shared->Prop} (X:K.In s.heap) (I:iB s.heap x dx C mA) (hg:PySem.W.plainGet K C name=true) (hh:PySem.W.hasDictIn K C=true)
  (ha:PySem.W.findIn K (.ref C) name=some none) (hv:mA name=some v) (hv':PySem.W.handedIn v=true) (h:Q v {s with toks:=s.toks+1}):
  wpAny (model prog w) A (getAttr (.ref x) name expr) Q E s:=by
 obtain ⟨od,J,hl⟩:=I.look
 exact PySem.W.get_value X J (PySem.W.plainGet_of hg).1 (PySem.W.findObj_own hh ha rfl (by rw [hl,hv])) hv' h
theorem qO {pl:Sem Bool} {Q:Value×List Value->Shared->Prop} (X:K.In s.heap) (I:iB s.heap x dx C mA) (hg:PySem.W.plainGet K C name=true)
  (hf:PySem.W.findIn K (.ref C) name=some (some (.ref f))) (ht:PySem.W.isFn K (.ref f)=true) (hv:mA name=none) (h:Q (.ref f,[.ref x]) s):
  wpAny (model prog w) A (getMethod (.ref x) name pl) Q E s:=by
 obtain ⟨od,J,hl⟩:=I.look
 exact PySem.W.method_fn X J (PySem.W.plainGet_of hg).1 (PySem.W.plainGet_of hg).2 hf (beq_iff_eq.mp ht) (by show (PySem.W.lookIn name od).map (·.isSome)=some false;rw [hl,hv];rfl) h
theorem uK {ns:List Str} {Q:Unit->Shared->Prop} (X:K.In s.heap) (I:iB s.heap x dx C mA)
  (hs:PySem.W.findIn K (.ref C) "__setattr__"=some (some (.builtin "object.__setattr__"))) (hp:PySem.W.plainOver K C=true) (ht:PySem.W.takerIn K C name=some none) (hh:PySem.W.hasDictIn K C=true)
  (hw:PySem.Within mA ns) (hsz:ns.length<=sizeLine)
  (h:∀h',iB h' x dx C (fun y=>if y=name then some v else mA y)->Heap.SameBut dx s.heap h'->Q () {s with heap:=h',toks:=s.toks+2}):
  wpAny (model prog w) A (setAttr (.ref x) name v) Q E s:=by
 obtain ⟨od,J,hl⟩:=I.look
 refine PySem.W.set_plain X J hs (PySem.W.osa_open (s:={s with toks:=s.toks+1}) (r:=none) X J hp ht fun b=>?_)
 obtain ⟨cd,hc,hd'⟩:=PySem.W.any_some hh
 have hx:s.heap.get? x=some ⟨.ref C,some dx,.plain,#[]⟩:=I.obj
 refine wpAny_bind (wpAny_pure (wpAny_bind (wpAny_bind (wpAny_loadPart hx (wpAny_bind (PySem.W.Looks.here (s:={s with toks:=s.toks+1}) (PySem.W.looks_clsIn X hc) ?_))))))
 rw [hd']
 refine wpAny_pure (a:=some dx) (wpAny_bind (wpAny_pure (wpAny_bind ?_)))
 refine wpAny_nsSet1 (s:={s with toks:=s.toks+1}) I.ns fun h' hn2 hs2=>?_
 obtain ⟨oD,esD,epD,hoD,hdD,hcD⟩:=hn2.count (PySem.Within.cons name v hw)
 refine wpAny_bind (wpAny_lookBehind hoD (by rw [hdD];exact pastItsLine_dict (Nat.le_trans hcD (by rw [List.length_cons];omega))) ?_)
 exact wpAny_pure (h _ ⟨(hs2.2 _ (Ne.symm I.ne)).trans I.obj,hn2,I.ne⟩ hs2)
theorem kN {R:Result->Shared->Prop} {vs:List Value} {kw:List (Str×Value)} (X:K.In s.heap) (hm:PySem.W.makesIn K C=true)
  (hi:PySem.W.findIn K (.ref C) "__init__"=some (some (.ref f))) (hf:PySem.W.typeIn K (.ref f)=some (.type "function"))
  (h:codeAny (model prog w) (A.under (.builtin "type.__call__" ⟨.ref C::vs,kw⟩)) (.call (.ref f) ⟨.ref (s.heap.objs.size+1)::vs,kw⟩) (PySem.W.InitBack (s.heap.objs.size+1) R)
   {s with heap:=(s.heap.push PySem.W.emptyDict).push (PySem.W.instObj C s.heap.objs.size)}):
  codeAny (model prog w) A (.call (.ref C) ⟨vs,kw⟩) R s:=by
 obtain ⟨hh,g,d,t,os⟩:=s
 exact PySem.W.make_core (PySem.W.makes_of X hm) (PySem.W.looks_findIn X hi) (fun self=>PySem.W.bind_fn X self hf) (.inl rfl) h
end
noncomputable def bR (f:Str) (v:V):List (Str×V)->List (Str×V)
 |[]=>[(f,v)]
 |(g,x)::r=>if g=f then (g,v)::r else (g,x)::bR f v r
theorem gX (f g:Str) (v:V):∀fs:List (Str×V),(bR f v fs).lookup g=if g=f then some v else fs.lookup g
 |[]=>by
  show List.lookup g [(f,v)]=_
  by_cases h:g=f
  ·have hb:(g==f)=true:=beq_iff_eq.mpr h
   simp only [List.lookup,hb,if_pos h]
  ·have hb:(g==f)=false:=beq_eq_false_iff_ne.mpr h
   simp only [List.lookup,hb,if_neg h]
 |(k,x)::r=>by
  have ih:=gX f g v r
  rw [show bR f v ((k,x)::r)=(if k=f then (k,v)::r else (k,x)::bR f v r) from rfl]
  by_cases hk:k=f
  ·rw [if_pos hk]
   by_cases h:g=k
   ·have hb:(g==k)=true:=beq_iff_eq.mpr h
    simp only [List.lookup,hb,if_pos (h.trans hk)]
   ·have hb:(g==k)=false:=beq_eq_false_iff_ne.mpr h
    simp only [List.lookup,hb,if_neg (fun e:g=f=>h (e.trans hk.symm))]
  ·rw [if_neg hk]
   by_cases h:g=k
   ·have hb:(g==k)=true:=beq_iff_eq.mpr h
    simp only [List.lookup,hb,if_neg (fun e:g=f=>hk (h.symm.trans e))]
   ·have hb:(g==k)=false:=beq_eq_false_iff_ne.mpr h
    simp only [List.lookup,hb]
    exact ih
theorem gG (f:Str) (v:V):∀fs:List (Str×V),f∈(bR f v fs).map (·.1)∧∀g,g∈fs.map (·.1)->g∈(bR f v fs).map (·.1)
 |[]=>⟨by simp [bR],fun g h=>by simp at h⟩
 |(k,x)::r=>by
  obtain ⟨i1,i2⟩:=gG f v r
  rw [show bR f v ((k,x)::r)=(if k=f then (k,v)::r else (k,x)::bR f v r) from rfl]
  by_cases hk:k=f
  ·rw [if_pos hk]
   subst hk
   exact ⟨by simp,fun g h=>by simpa using h⟩
  ·rw [if_neg hk]
   refine ⟨?_,fun g h=>?_⟩
   ·rw [List.map_cons]
    exact List.mem_cons_of_mem _ i1
   ·rw [List.map_cons] at h ⊢
    rcases List.mem_cons.mp h with e|e
    ·exact List.mem_cons.mpr (.inl e)
    ·exact List.mem_cons_of_mem _ (i2 g e)
theorem gZ (f:Str) (v:V):∀fs:List (Str×V),(bR f v fs).length<=fs.length+1
 |[]=>by simp [bR]
 |(k,x)::r=>by
  have ih:=gZ f v r
  rw [show bR f v ((k,x)::r)=(if k=f then (k,v)::r else (k,x)::bR f v r) from rfl]
  by_cases hk:k=f
  ·rw [if_pos hk,List.length_cons,List.length_cons];omega
  ·rw [if_neg hk,List.length_cons,List.length_cons];omega
theorem c6.some_of {v:V} {o:Option Value} (r:c6 (some v) o):∃u,o=some u∧RelV v u:=by
 cases o with
 |none=>exact (show False from r).elim
 |some u=>exact ⟨u,rfl,r⟩
theorem c6.none_of {o:Option Value} (r:c6 none o):o=none:=by
 cases o with
 |none=>rfl
 |some u=>exact (show False from r).elim
theorem jH {v:V} {u:Value} (r:RelV v u):PySem.W.handedIn u=true:=by
 cases v with
 |non=>cases (show u=Value.none from r);rfl
 |bl b=>cases (show u=Value.bool b from r);rfl
 |int i=>obtain ⟨t,e⟩:=(show ∃t,u=Value.int i t from r);cases e;rfl
 |str x=>obtain ⟨t,e⟩:=(show ∃t,u=Value.str x t from r);cases e;rfl
 |byt b=>obtain ⟨t,e⟩:=(show ∃t,u=Value.bytes b t from r);cases e;rfl
 |flt b=>obtain ⟨t,e⟩:=(show ∃t,u=Value.float b t from r);cases e;rfl
 |ref a=>cases (show u=Value.ref a from r);rfl
 |ty n=>cases (show u=Value.type n from r);rfl
section
variable {P:Program} {w:World} {H H':Hp} {h h':Heap} {a C dx:Addr} {fs fs':List (Str×V)}
theorem gI (hok:HOk P w H h) (e:H a=some (.ins C dx fs)):∃mA,iB h a dx C mA∧(∀f,c6 (fs.lookup f) (mA f))∧PySem.Within mA (fs.map (·.1))∧fs.length<=1000∧H dx=some (.own a):=by
 obtain ⟨d,z,ne,ob,mA,n,r,q⟩:=(show aR P w H h a (.ins C dx fs) from hok a _ e)
 exact ⟨mA,⟨ob,n,ne⟩,r,q,z,d⟩
end
structure Cls (K:PySem.W.Frag) (C:Addr):Prop where
 pg:PySem.W.plainGet K C Str.empty=true
 hd:PySem.W.hasDictIn K C=true
 po:PySem.W.plainOver K C=true
 sa:PySem.W.findIn K (.ref C) "__setattr__"=some (some (.builtin "object.__setattr__"))
theorem Cls.get {K:PySem.W.Frag} {C:Addr} (c:Cls K C) (f:Str):PySem.W.plainGet K C f=true:=c.pg
noncomputable def bp (K:PySem.W.Frag) (C:Addr) (f:Str):Prop:=PySem.W.findIn K (.ref C) f=some none
theorem bp.zr {K:PySem.W.Frag} {C:Addr} {f:Str} (n:bp K C f):PySem.W.takerIn K C f=some none:=by
 unfold PySem.W.takerIn
 rw [show PySem.W.findIn K (.ref C) f=some none from n]
 rfl
structure Meth (K:PySem.W.Frag) (C:Addr) (m:Str) (f:Addr):Prop where
 at_:PySem.W.findIn K (.ref C) m=some (some (.ref f))
 fn:PySem.W.isFn K (.ref f)=true
 kp:PySem.W.keepIn K (.ref f)=true
section
variable {X:Cx} {pins:List (Addr×Obj)} {σ:St} {H:Hp} {s:Shared} {a C dx:Addr} {fs:List (Str×V)} {f:Str} {v:V} {A:Around} {E:Value->Shared->Prop}
theorem nQ {b:Bool} {Q:Value->Shared->Prop} (I:Inv X pins σ H s) (e:H a=some (.ins C dx fs)) (c:Cls X.K C) (n:bp X.K C f) (l:fs.lookup f=some v)
  (h:∀u s',Inv X pins σ H s'->RelV v u->Q u s'):wpAny (model X.prog X.w) A (getAttr (.ref a) f b) Q E s:=by
 obtain ⟨mA,O,r,_,_,_⟩:=gI I.hok e
 obtain ⟨u,hu,ru⟩:=c6.some_of (v:=v) (o:=mA f) (by rw [←l];exact r f)
 exact get_map I.kIn O (c.get f) c.hd n hu (jH ru) (h u _ (I.tok _) ru)
theorem dU {m:Str} {g:Addr} {pl:Sem Bool} {Q:Value×List Value->Shared->Prop} (I:Inv X pins σ H s) (e:H a=some (.ins C dx fs)) (c:Cls X.K C) (k:Meth X.K C m g) (l:fs.lookup m=none)
  (h:Q (.ref g,[.ref a]) s):wpAny (model X.prog X.w) A (getMethod (.ref a) m pl) Q E s:=by
 obtain ⟨mA,O,r,_,_,_⟩:=gI I.hok e
 have hn:mA m=none:=c6.none_of (by rw [←l];exact r m)
 exact qO I.kIn O (c.get m) k.at_ k.fn hn h
theorem nK {y:V} {u:Value} {Q:Unit->Shared->Prop} (I:Inv X pins σ H s) (e:H a=some (.ins C dx fs)) (c:Cls X.K C) (n:bp X.K C f) (hl:fs.length<1000) (ry:RelV y u)
  (h:∀s',Inv X pins σ (upd H a (.ins C dx (bR f y fs))) s'->Q () s'):wpAny (model X.prog X.w) A (setAttr (.ref a) f u) Q E s:=by
 obtain ⟨mA,O,r,wi,_,ho⟩:=gI I.hok e
 have hz:(fs.map (·.1)).length<=sizeLine:=by rw [List.length_map,sizeLine_eq];omega
 refine uK I.kIn O c.sa c.po n.zr c.hd wi hz fun h' O' sb=>h _ ?_
 have hd:∃o,h'.get? dx=some o:=let ⟨o,_,_,e',_⟩:=O'.ns;⟨o,e'⟩
 refine I.write (x:=a) (e:=dx) (by rw [e];exact True.intro) (.inr ho) (fun b q hb z=>(sb.2 b hb).trans z) hd ?_
 refine ⟨by rw [ag O.ne];exact ho,?_,O.ne,O'.obj,_,O'.ns,fun g=>?_,fun g hg=>?_⟩
 ·have:=gZ f y fs;omega
 ·show c6 ((bR f y fs).lookup g) (if g=f then some u else mA g)
  rw [gX]
  by_cases q:g=f
  ·rw [if_pos q,if_pos q];exact ry
  ·rw [if_neg q,if_neg q];exact r g
 ·by_cases q:g=f
  ·rw [q];exact (gG f y fs).1
  ·refine (gG f y fs).2 g (wi g fun z=>hg ?_)
   show (if g=f then some u else mA g)=none
   rw [if_neg q];exact z
theorem Inv.made (I:Inv X pins σ H s):Inv X pins σ (upd (upd H s.heap.objs.size (.own (s.heap.objs.size+1))) (s.heap.objs.size+1) (.ins C s.heap.objs.size []))
  {s with heap:=(s.heap.push PySem.W.emptyDict).push (PySem.W.instObj C s.heap.objs.size)}:=by
 have e1:(s.heap.push PySem.W.emptyDict).get? s.heap.objs.size=some PySem.W.emptyDict:=Heap.get?_push_size s.heap rfl
 have e2:((s.heap.push PySem.W.emptyDict).push (PySem.W.instObj C s.heap.objs.size)).get? (s.heap.objs.size+1)=some (PySem.W.instObj C s.heap.objs.size):=by
  have:=Heap.get?_push_size (s.heap.push PySem.W.emptyDict) (o:=PySem.W.instObj C s.heap.objs.size) rfl
  rwa [Heap.size_push] at this
 have e3:(s.heap.push PySem.W.emptyDict).Ns s.heap.objs.size (fun _=>none):=⟨PySem.W.emptyDict,#[],_,e1,rfl,(fun e he=>absurd he (by simp)),fun _=>rfl⟩
 have I1:=I.laid (a:=s.heap.objs.size) (o:=.own (s.heap.objs.size+1)) (h':=s.heap.push PySem.W.emptyDict) (t':=s.toks) (fun b u q=>Heap.get?_push_of_some _ q) (Nat.le_refl _) ⟨_,e1⟩
 refine I1.laid (a:=s.heap.objs.size+1) (o:=.ins C s.heap.objs.size []) (t':=s.toks) (fun b u q=>Heap.get?_push_of_some _ q) (Nat.le_of_eq (Heap.size_push _ _)) ?_
 have ne:s.heap.objs.size≠s.heap.objs.size+1:=Nat.ne_of_lt (Nat.lt_succ_self _)
 refine ⟨by rw [ag ne,au],Nat.zero_le _,ne,e2,fun _=>none,(Heap.Ns1.of_empty e3).at fun o q=>Heap.get?_push_of_some _ q,fun _=>True.intro,fun y hy=>absurd rfl hy⟩
theorem mh {prog:Program} {w:World} {env:Env} {e:Expr} {f:Str} {pos:Pos} {s:Shared} {Q:Value->Shared->Prop} (hb:attributeBase e f env (eval e env)=eval e env)
  (h:wpAny (model prog w) A (eval e env) (fun o s₁=>wpAny (model prog w) A (getAttr o f true) Q E s₁) E s):wpAny (model prog w) A (eval (.Attribute e f pos) env) Q E s:=
 Attribute_any_ h (by rw [arm_eval_Attribute,hb])
end
noncomputable def Bk (K:PySem.W.Frag) (ta:TE) (f:Str):TE:=fun σ H Q=>ta σ H fun x H1=>∃a C dx fs v,x=.ref a∧H1 a=some (.ins C dx fs)∧Cls K C∧bp K C f∧fs.lookup f=some v∧Q v H1
noncomputable def AL (K:PySem.W.Frag) (ta tv:TE) (f:Str):TS:=fun D σ H=>tv σ H fun y H1=>ta σ H1 fun x H2=>∃a C dx fs,x=.ref a∧H2 a=some (.ins C dx fs)∧Cls K C∧bp K C f∧fs.length<1000∧
 D.nx σ (upd H2 a (.ins C dx (bR f y fs)))
section
variable {X:Cx} {o e value:Expr} {f:Str} {pos pos' tpos:Pos} {ta tv:TE}
theorem yh (he:PE X e ta) (hb:attributeBase e f X.env (eval e X.env)=eval e X.env):PE X (.Attribute e f pos) (Bk X.K ta f):=by
 intro pins s σ H Q I h
 refine mh hb (thn (he pins s σ H _ I h) fun u s1 ⟨x,H1,I1,rx,a,C,dx,fs,v,ex,ea,c,n,l,q⟩=>?_)
 subst ex
 obtain rfl:u=Value.ref a:=rx
 exact nQ I1 ea c n l fun u' s2 I2 ru=>⟨v,H1,I2,ru,q⟩
theorem yo (ha:PE X o ta) (hv:PE X value tv) (hs:swapsWith value (some (.Attribute o f pos')) pos.line X.env=pure false):PS X (.Assign [.Attribute o f pos'] value pos) (AL X.K ta tv f):=by
 intro pins s σ H D I h
 refine plainObj_wpAny_Assign_Attribute (thn (hv pins s σ H _ I h) fun u s1 ⟨y,H1,I1,ry,q⟩=>thn (ha pins s1 σ H1 _ I1 q) fun ov s2 ⟨x,H2,I2,rx,a,C,dx,fs,ex,ea,c,n,l,q2⟩=>?_) hs
 subst ex
 obtain rfl:ov=Value.ref a:=rx
 exact nK I2 ea c n l ry fun s3 I3=>⟨σ,_,I3,q2⟩
end
end L2
namespace L2
open PySem PySem.Spec PyProof.Rows
structure ay (k:Nat) (A:Around):Prop where
 hd:A.handled=none
 dp:A.depth+3*k+5<recursionLimit
 un:A.units+16*k+200<cLine
theorem ay.mono {j k:Nat} {A:Around} (r:ay k A) (h:j<=k):ay j A:=⟨r.hd,by have:=r.dp;omega,by have:=r.un;omega⟩
theorem ay.deeper {k:Nat} {A:Around} (r:ay (k+1) A) (env:Env):ay k (A.deeper env):=
 ⟨r.hd,by have:=r.dp;show A.depth+1+3*k+5<_;omega,by have:=r.un;show A.units+3+16*k+200<_;omega⟩
theorem ou {A:Around} {C:Addr} {us:List Value} {kw:List (Str×Value)}:(A.under (.builtin "type.__call__" ⟨.ref C::us,kw⟩)).depth=A.depth+1:=by
 first|rfl|simp [Around.under,Code.weight,Code.isCreation,Code.isGuard,Code.isCaller,Code.frames,Code.isFrame,guardIds]
theorem nU {A:Around} {C:Addr} {us:List Value} {kw:List (Str×Value)}:(A.under (.builtin "type.__call__" ⟨.ref C::us,kw⟩)).units=A.units+1:=by
 first|rfl|simp [Around.under,Code.cUnits,Code.frames,Code.isFrame]
theorem ay.make {k:Nat} {A:Around} (r:ay (k+1) A) (C:Addr) (us:List Value) (kw:List (Str×Value)):ay k (A.under (.builtin "type.__call__" ⟨.ref C::us,kw⟩)):=
 ⟨r.hd,by have:=r.dp;rw [ou];omega,by have:=r.un;rw [nU];omega⟩
theorem ay.depth {k:Nat} {A:Around} (r:ay k A):A.depth<recursionLimit:=by have:=r.dp;omega
theorem ay.units {k:Nat} {A:Around} (r:ay k A):A.units+64<cLine:=by have:=r.un;omega
noncomputable def nZ:TA:=fun _ H Q=>Q [] H
noncomputable def z9 (ta:TE) (tr:TA):TA:=fun σ H Q=>ta σ H fun x H1=>tr σ H1 fun xs H2=>Q (x::xs) H2
section
variable {X:Cx} {e:Expr} {es:List Expr} {te:TE} {t:TA} {pos:Pos}
theorem qB:PA X [] nZ:=fun _ _ _ _ H Q I h=>Calls.spliced_nil ⟨[],H,I,.nil,h⟩
theorem mG (ha:PE X e te) (hr:PA X es t) (hs:starEach (e::es) X.env=(false,eval e X.env)::starEach es X.env:=by rfl):PA X (e::es) (z9 te t):=by
 intro pos pins s σ H Q I h
 rw [hs]
 show wpAny _ _ (spliced ((false,eval e X.env)::backTo pos (starEach es X.env))) _ _ s
 refine Calls.spliced_cons (thn (ha pins s σ H _ I h) fun u s1 ⟨x,H1,I1,r1,q1⟩=>?_)
 exact thn (hr pos pins s1 σ H1 _ I1 q1) fun us s2 ⟨xs,H2,I2,r2,q2⟩=>⟨x::xs,H2,I2,.cons r1 r2,q2⟩
noncomputable def Bv (t:TA):TE:=fun σ H Q=>t σ H fun xs H1=>xs.length<=sizeLine∧∀p,H1 p=none->Q (.ref p) (upd H1 p (.tup xs))
noncomputable def A9 (t:TA):TE:=fun σ H Q=>t σ H fun xs H1=>xs.length<=sizeLine∧∀p,H1 p=none->Q (.ref p) (upd H1 p (.lst xs))
theorem w9 {x1} (h:PA X es t):PE X (.Tuple es x1 pos) (Bv t):=by
 intro pins s σ H Q I hq
 refine wpAny_Tuple_spliced (thn (h pos pins s σ H _ I hq) fun us s1 ⟨xs,H1,I1,r,z,q⟩=>⟨by rw [←r.length];exact z,?_⟩)
 have hf:H1 s1.heap.objs.size=none:=I1.hok.fresh (Nat.le_refl _)
 refine ⟨.ref s1.heap.objs.size,upd H1 s1.heap.objs.size (.tup xs),I1.laid (t':=s1.toks) (fun b u e=>Heap.get?_push_of_some _ e) (Nat.le_refl _) ?_,rfl,q _ hf⟩
 exact ⟨z,us,r,⟨_,Heap.get?_push_size _ rfl,rfl,_,rfl⟩⟩
theorem pw (h:PA X es t):PE X (.List es pos) (A9 t):=by
 intro pins s σ H Q I hq
 refine wpAny_List_spliced (thn (h pos pins s σ H _ I hq) fun us s1 ⟨xs,H1,I1,r,z,q⟩=>⟨by rw [←r.length];exact z,?_⟩)
 have hf:H1 s1.heap.objs.size=none:=I1.hok.fresh (Nat.le_refl _)
 refine ⟨.ref s1.heap.objs.size,upd H1 s1.heap.objs.size (.lst xs),I1.laid (t':=s1.toks) (fun b u e=>Heap.get?_push_of_some _ e) (Nat.le_refl _) ?_,rfl,q _ hf⟩
 exact ⟨z,us,0,r,Heap.get?_push_size _ rfl⟩
end
noncomputable abbrev Sp:=List V->Hp->VK->XK->Prop
noncomputable abbrev CXT:=List Env->Hp->Shared->XK->Value->Shared->Prop
structure iH (P:Program) (w:World) (K:PySem.W.Frag) (mg:Str->Option Value) (base:Heap) (A:Around) (outer:List Env) (s:Shared) (H:Hp):Prop where
 frames:A.frames=some outer
 mod:Mod K mg base
 bs:∀b o,base.get? b=some o->s.heap.get? b=some o∧H b=none
 bsz:base.objs.size<=s.heap.objs.size
 cJ:s.heap.FunFrames base outer
 frf:∀b∈frs outer,H b=none
 hok:HOk P w H s.heap
 bare:AllBare s.gens
noncomputable def CE (outer:List Env) (P:Program) (w:World) (H:Hp) (s:Shared) (Q:VK) (u:Value) (s':Shared):Prop:=
 ∃v H',s'.os=s.os∧AllBare s'.gens∧Un (frs outer) [] H H' s.heap s'.heap∧HOk P w H' s'.heap∧RelV v u∧Q v H'
noncomputable def CR (CX:CXT) (outer:List Env) (P:Program) (w:World) (H:Hp) (s:Shared) (Q:VK) (E:XK) (r:Result) (s':Shared):Prop:=
 match r with
 |.ok (.ret u)=>CE outer P w H s Q u s'
 |.ok _=>False
 |.error e=>CX outer H s E e s'
structure aA (P:Program) (w:World) (K:PySem.W.Frag) (mg:Str->Option Value) (base:Heap) (CX:CXT) (k:Nat) (f:Addr) (fd:FuncData) (ps:List Str) (sp:Sp):Prop where
 len:∀vs H Q E,sp vs H Q E->vs.length=ps.length
 run:∀(A:Around) (outer:List Env) (s:Shared) (H:Hp) (args:Args) (us:List Value) (vs:List V) (Q:VK) (E:XK),ay k A->iH P w K mg base A outer s H->BindsTo s fd args (ps.zip us)->Vals vs us->sp vs H Q E->
  codeAny (model P w) A (.call (.ref f) args) (CR CX outer P w H s Q E) s
theorem iH.make {P:Program} {w:World} {K:PySem.W.Frag} {mg:Str->Option Value} {base:Heap} {A:Around} {outer:List Env} {s:Shared} {H:Hp} (e:iH P w K mg base A outer s H) (C:Addr) (us:List Value) (kw:List (Str×Value)):
  iH P w K mg base (A.under (.builtin "type.__call__" ⟨.ref C::us,kw⟩)) outer s H:=⟨by first|exact e.frames|(simpa [Around.under,Code.envs,Code.isFrame,pushEnvs] using e.frames),e.mod,e.bs,e.bsz,e.cJ,e.frf,e.hok,e.bare⟩
section
variable {X:Cx} {pins:List (Addr×Obj)} {σ:St} {H:Hp} {s s':Shared}
theorem Inv.k6 (I:Inv X pins σ H s):iH X.prog X.w X.K X.mg X.base X.A X.stack s H:=
 ⟨I.ok.frames,I.ok.mod,I.bs,Nat.le_trans I.ok.bsz I.sz,I.stack,I.jh,I.hok,I.bare⟩
theorem Inv.after {Q:VK} {u:Value} (I:Inv X pins σ H s) (h:CE X.stack X.prog X.w H s Q u s'):EP X pins σ Q u s':=by
 obtain ⟨v,H',os,bare,un,hok,r,q⟩:=h
 obtain ⟨hh,g,d,t,os'⟩:=s'
 obtain rfl:os'=s.os:=os
 exact ⟨v,H',I.call (h':=hh) (g':=g) (d':=d) (t':=t) (ch:=[]) un hok bare (fun b z=>absurd z (by simp)),r,q⟩
end
noncomputable def Ah (sp:Sp) (dvs:List V) (E:XK) (t:TA):TE:=fun σ H Q=>t σ H fun vs H1=>sp (vs++dvs) H1 Q E
noncomputable def tG (C:Addr) (m:Str) (sp:Sp) (dvs:List V) (E:XK) (ta:TE) (t:TA):TE:=fun σ H Q=>ta σ H fun x H1=>∃a dx fs,x=.ref a∧H1 a=some (.ins C dx fs)∧fs.lookup m=none∧
 t σ H1 fun vs H2=>sp (x::(vs++dvs)) H2 Q E
noncomputable def zO (C:Addr) (sp:Sp) (dvs:List V) (E:XK) (t:TA):TE:=fun σ H Q=>t σ H fun vs H1=>∀x dx,H1 x=none->H1 dx=none->dx≠x->
 sp (.ref x::(vs++dvs)) (upd (upd H1 dx (.own x)) x (.ins C dx [])) (fun v H2=>v=.non∧Q (.ref x) H2) E
noncomputable def Binds (K:PySem.W.Frag) (fd:FuncData) (ps:List Str) (ds:List Value):Prop:=
 ∀(s:Shared) (us:List Value),K.In s.heap->(us++ds).length=ps.length->BindsTo s fd ⟨us,[]⟩ (ps.zip (us++ds))
theorem Binds.all {K:PySem.W.Frag} {fd:FuncData} {ps:List Str} (h:∀us:List Value,us.length=ps.length->bindArgs fd ⟨us,[]⟩=pure (ps.zip us)):Binds K fd ps []:=fun s us _ hl=>by
 rw [List.append_nil] at hl ⊢
 exact .of_eq (h us hl)
noncomputable def Passes (CX:CXT) (X:Cx) (E:XK):Prop:=∀(pins:List (Addr×Obj)) (σ:St) (H:Hp) (s:Shared) (e:Value) (s':Shared),Inv X pins σ H s->CX X.stack H s E e s'->X.xe e s'
section
variable {X:Cx} {CX:CXT} {k:Nat} {f C:Addr} {fd:FuncData} {ps:List Str} {sp:Sp} {dvs:List V} {ds:List Value} {E:XK} {x m:Str} {p pos apos:Pos} {e o:Expr} {es:List Expr} {ta:TE} {t:TA}
theorem lU {pins:List (Addr×Obj)} {σ:St} {H:Hp} {s:Shared} {Q:VK} {us:List Value} {vs:List V} (F:aA X.prog X.w X.K X.mg X.base CX k f fd ps sp) (hr:ay k X.A) (hb:Binds X.K fd ps ds) (hd:Vals dvs ds) (hx:Passes CX X E)
  (I:Inv X pins σ H s) (r:Vals vs us) (h:sp (vs++dvs) H Q E):wpAny (model X.prog X.w) X.A (call (.ref f) us) (EP X pins σ Q) X.xe s:=by
 have r2:Vals (vs++dvs) (us++ds):=r.append hd
 have hl:(us++ds).length=ps.length:=by rw [←r2.length];exact F.len _ _ _ _ h
 refine wpAny_call (codeAny_mono (F.run X.A X.stack s H ⟨us,[]⟩ (us++ds) (vs++dvs) Q E hr I.k6 (hb s us I.kIn hl) r2 h) fun r s' hq=>?_)
 cases r with
 |error e=>exact hx pins σ H s e s' I hq
 |ok fl=>
  cases fl with
  |ret u=>exact I.after hq
  |next=>exact False.elim hq
  |brk=>exact False.elim hq
  |cont=>exact False.elim hq
theorem mW (F:aA X.prog X.w X.K X.mg X.base CX k f fd ps sp) (hr:ay k X.A) (hg:Gl X x) (hm:X.mg x=some (.ref f)) (hk:PySem.W.keepIn X.K (.ref f)=true) (hb:Binds X.K fd ps ds) (hd:Vals dvs ds) (hx:Passes CX X E)
  (ha:PA X (e::es) t) (hdb:(x==("__debug__":Str))=false:=by decide) (he:starEach (e::es) X.env=(false,eval e X.env)::starEach es X.env:=by rfl) (hpl:(backTo pos (starEach es X.env)).any (·.1)=false:=by rfl):
  PE X (.Call (.Name x p) (e::es) [] pos) (Ah sp dvs E t):=by
 intro pins s σ H Q I h
 refine wpAny_Call_Name_kw (cT I hg hm ?_ hdb)
 refine PySem.W.callWith_K (h₀:=X.base) I.ok.mod.kin hk (thn (ha pos pins s σ H _ I h) fun us s1 ⟨vs,H1,I1,r,q⟩=>⟨I1.kIn,?_⟩) he hpl
 exact lU F hr hb hd hx I1 r q
theorem mU {pl:Sem Bool} (he:PE X o ta) (c:Cls X.K C) (hm:Meth X.K C m f) (F:aA X.prog X.w X.K X.mg X.base CX k f fd ps sp) (hr:ay k X.A) (hb:Binds X.K fd ps ds) (hd:Vals dvs ds) (hx:Passes CX X E) (ha:PA X (e::es) t)
  (hst:starEach (e::es) X.env=(false,eval e X.env)::starEach es X.env:=by rfl) (hpl:(backTo pos (starEach es X.env)).any (·.1)=false:=by rfl)
  (ht:eval (.Call (.Attribute o m apos) (e::es) [] pos) X.env=(do
   let ov←eval o X.env
   standAt apos.atName
   let (f,first)←holding [ov] (getMethod ov m pl)
   callWith pos f first (backTo pos (starEach (e::es) X.env)) (backToKw pos (keywordEach [] X.env))):=by rfl):
  PE X (.Call (.Attribute o m apos) (e::es) [] pos) (tG C m sp dvs E ta t):=by
 intro pins s σ H Q I h
 refine PySem.W.methodCall_KW (pl:=pl) (thn (he pins s σ H _ I h) fun u s1 ⟨x,H1,I1,rx,a,dx,fs,ex,ea,l,q⟩=>?_) ht
 subst ex
 obtain rfl:u=Value.ref a:=rx
 refine dU I1 ea c hm l ?_
 refine PySem.W.callWith_K (first:=[.ref a]) (h₀:=X.base) I.ok.mod.kin hm.kp (thn (ha pos pins s1 σ H1 _ I1 q) fun us s2 ⟨vs,H2,I2,r,q2⟩=>⟨I2.kIn,?_⟩) hst hpl
 exact lU (us:=.ref a::us) (vs:=.ref a::vs) F hr hb hd hx I2 (.cons rfl r) q2
theorem lD {pl:Sem Bool} (he:PE X o ta) (c:Cls X.K C) (hm:Meth X.K C m f) (F:aA X.prog X.w X.K X.mg X.base CX k f fd ps sp) (hr:ay k X.A) (hb:Binds X.K fd ps ds) (hd:Vals dvs ds) (hx:Passes CX X E)
  (ht:eval (.Call (.Attribute o m apos) [] [] pos) X.env=(do
   let ov←eval o X.env
   standAt apos.atName
   let (f,first)←holding [ov] (getMethod ov m pl)
   callWith pos f first (backTo pos (starEach [] X.env)) (backToKw pos (keywordEach [] X.env))):=by rfl):
  PE X (.Call (.Attribute o m apos) [] [] pos) (tG C m sp dvs E ta nZ):=by
 intro pins s σ H Q I h
 refine PySem.W.methodCall_KW (pl:=pl) (thn (he pins s σ H _ I h) fun u s1 ⟨x,H1,I1,rx,a,dx,fs,ex,ea,l,q⟩=>?_) ht
 subst ex
 obtain rfl:u=Value.ref a:=rx
 refine dU I1 ea c hm l ?_
 exact PySem.W.callWith_K0 (first:=[.ref a]) I1.kIn hm.kp (lU (us:=[.ref a]) (vs:=[.ref a]) F hr hb hd hx I1 (.cons rfl .nil) q)
structure Mk (K:PySem.W.Frag) (C f:Addr):Prop where
 makes:PySem.W.makesIn K C=true
 init:PySem.W.findIn K (.ref C) "__init__"=some (some (.ref f))
 fn:PySem.W.isFn K (.ref f)=true
 kp:PySem.W.keepIn K (.ref C)=true
theorem si {pins:List (Addr×Obj)} {σ:St} {H:Hp} {s:Shared} {Q:VK} {us:List Value} {vs:List V} (M:Mk X.K C f) (F:aA X.prog X.w X.K X.mg X.base CX k f fd ps sp) (hr:ay (k+1) X.A) (hb:Binds X.K fd ps ds) (hd:Vals dvs ds)
  (hx:Passes CX X E) (I:Inv X pins σ H s) (r:Vals vs us)
  (h:∀x dx,H x=none->H dx=none->dx≠x->sp (.ref x::(vs++dvs)) (upd (upd H dx (.own x)) x (.ins C dx [])) (fun v H2=>v=.non∧Q (.ref x) H2) E):
  wpAny (model X.prog X.w) X.A (call (.ref C) us) (EP X pins σ Q) X.xe s:=by
 have hq:=h (s.heap.objs.size+1) s.heap.objs.size (I.hok.fresh (Nat.le_succ _)) (I.hok.fresh (Nat.le_refl _)) (Nat.ne_of_lt (Nat.lt_succ_self _))
 have I2:=Inv.made (C:=C) I
 have r2:Vals (V.ref (s.heap.objs.size+1)::(vs++dvs)) (Value.ref (s.heap.objs.size+1)::(us++ds)):=.cons rfl (r.append hd)
 have hl:(Value.ref (s.heap.objs.size+1)::us++ds).length=ps.length:=by
  have e:=r2.length
  rw [F.len _ _ _ _ hq] at e
  exact e.symm
 refine wpAny_call (kN (f:=f) I.kIn M.makes M.init (beq_iff_eq.mp M.fn) (codeAny_mono (F.run _ X.stack _ _ ⟨Value.ref (s.heap.objs.size+1)::us,[]⟩ (Value.ref (s.heap.objs.size+1)::(us++ds)) _ _ E (hr.make C us [])
  (I2.k6.make C us []) (hb _ (Value.ref (s.heap.objs.size+1)::us) I2.kIn hl) r2 hq) fun r s' hq'=>?_))
 cases r with
 |error e=>exact hx pins σ _ _ e s' I2 hq'
 |ok fl=>
  cases fl with
  |ret u=>
   obtain ⟨v,H',I3,rv,ev,q3⟩:=I2.after hq'
   subst ev
   exact ⟨rv,⟨V.ref (s.heap.objs.size+1),H',I3,rfl,q3⟩⟩
  |next=>exact False.elim hq'
  |brk=>exact False.elim hq'
  |cont=>exact False.elim hq'
theorem vf (M:Mk X.K C f) (F:aA X.prog X.w X.K X.mg X.base CX k f fd ps sp) (hr:ay (k+1) X.A) (hg:Gl X x) (hm:X.mg x=some (.ref C)) (hb:Binds X.K fd ps ds) (hd:Vals dvs ds) (hx:Passes CX X E)
  (ha:PA X (e::es) t) (hdb:(x==("__debug__":Str))=false:=by decide) (he:starEach (e::es) X.env=(false,eval e X.env)::starEach es X.env:=by rfl) (hpl:(backTo pos (starEach es X.env)).any (·.1)=false:=by rfl):
  PE X (.Call (.Name x p) (e::es) [] pos) (zO C sp dvs E t):=by
 intro pins s σ H Q I h
 refine wpAny_Call_Name_kw (cT I hg hm ?_ hdb)
 refine PySem.W.callWith_K (h₀:=X.base) I.ok.mod.kin M.kp (thn (ha pos pins s σ H _ I h) fun us s1 ⟨vs,H1,I1,r,q⟩=>⟨I1.kIn,?_⟩) he hpl
 exact si M F hr hb hd hx I1 r q
end
noncomputable def PK (X:Cx) (kws:List Keyword) (t:TA):Prop:=
 ∀(pos:Pos) (pins:List (Addr×Obj)) (s:Shared) (σ:St) (H:Hp) (Q:List V->Hp->Prop),Inv X pins σ H s->t σ H Q->wpAny (model X.prog X.w) X.A (evalAll ((backToKw pos (keywordEach kws X.env)).map (·.2))) (AP X pins σ Q) X.xe s
structure bO (N P:List Str) (sc:Scope):Prop where
 kind:sc.kind=.function
 co:sc.isCoroutine=false
 gen:sc.isGenerator=false
 nd:N.Nodup
 pre:N.take P.length=P
 par:∀x∈P,sc.names.lookup x=some .local∨sc.names.lookup x=some .cell
 xI:∀y∈sc.names,y.2≠.free
theorem ke {kindOf:Str->Option NameKind} {x:Str}:∀{binds:List (Str×Value)} {m:Str->Option Value},(∀v,(x,v)∉binds)->bindL kindOf binds m x=m x
 |[],_,_=>rfl
 |(n,v)::r,m,h=>by
  unfold bindL
  rw [ke fun w hw=>h w (List.mem_cons_of_mem _ hw)]
  split
  ·have:x≠n:=by rintro rfl;exact h v List.mem_cons_self
   simp [this]
  ·rfl
theorem jQ {kindOf:Str->Option NameKind} {x:Str}:∀{binds:List (Str×Value)} {m:Str->Option Value},(∀v,(x,v)∉binds)->bindC kindOf binds m x=m x
 |[],_,_=>rfl
 |(n,v)::r,m,h=>by
  unfold bindC
  rw [jQ fun w hw=>h w (List.mem_cons_of_mem _ hw)]
  split
  ·rfl
  ·have:x≠n:=by rintro rfl;exact h v List.mem_cons_self
   simp [this]
theorem jS {kindOf:Str->Option NameKind} {x:Str} {v:Value}:∀{P:List Str} {vs:List Value} {i:Nat} {m:Str->Option Value},P.Nodup->P[i]?=some x->vs[i]?=some v->kindOf x=some .local->
  bindL kindOf (P.zip vs) m x=some v
 |[],_,_,_,_,h,_,_=>by simp at h
 |_::_,[],_,_,_,_,h,_=>by simp at h
 |p::P,w::vs,0,m,nd,h1,h2,hk=>by
  simp at h1 h2;subst h1;subst h2
  show bindL kindOf ((p,w)::P.zip vs) m p=_
  unfold bindL
  rw [ke fun v hv=>(List.nodup_cons.mp nd).1 (List.of_mem_zip hv).1,if_pos hk]
  simp
 |p::P,w::vs,i+1,m,nd,h1,h2,hk=>by
  show bindL kindOf ((p,w)::P.zip vs) m x=_
  unfold bindL
  exact jS (i:=i) (List.nodup_cons.mp nd).2 (by simpa using h1) (by simpa using h2) hk
theorem jZ {kindOf:Str->Option NameKind} {x:Str} {v:Value}:∀{P:List Str} {vs:List Value} {i:Nat} {m:Str->Option Value},P.Nodup->P[i]?=some x->vs[i]?=some v->kindOf x≠some .local->
  bindC kindOf (P.zip vs) m x=some v
 |[],_,_,_,_,h,_,_=>by simp at h
 |_::_,[],_,_,_,_,h,_=>by simp at h
 |p::P,w::vs,0,m,nd,h1,h2,hk=>by
  simp at h1 h2;subst h1;subst h2
  show bindC kindOf ((p,w)::P.zip vs) m p=_
  unfold bindC
  rw [jQ fun v hv=>(List.nodup_cons.mp nd).1 (List.of_mem_zip hv).1,if_neg hk]
  simp
 |p::P,w::vs,i+1,m,nd,h1,h2,hk=>by
  show bindC kindOf ((p,w)::P.zip vs) m x=_
  unfold bindC
  exact jZ (i:=i) (List.nodup_cons.mp nd).2 (by simpa using h1) (by simpa using h2) hk
noncomputable def start (N:List Str) (vs:List V):St:=vs.map some++List.replicate (N.length - vs.length) none
noncomputable def bQ (CX:CXT) (P:Program) (w:World) (K:PySem.W.Frag) (mg:Str->Option Value) (base:Heap) (N:List Str) (qual:Str) (scope:Scope) (f:Addr) (cd:Value) (A:Around) (outer:List Env) (s:Shared) (H:Hp) (E:XK):Cx where
 prog:=P
 w:=w
 K:=K
 mg:=mg
 base:=base
 A:=A.deeper (envOfC qual scope s.heap.objs.size f cd)
 N:=N
 s₀:=s
 H₀:=H
 env:=envOfC qual scope s.heap.objs.size f cd
 outer:=outer
 stack:=envOfC qual scope s.heap.objs.size f cd::outer
 ex:=[]
 calm:=true
 fn:=fun _=>true
 pn:=[]
 xe:=fun e s'=>wpAny (model P w) (A.deeper (envOfC qual scope s.heap.objs.size f cd)) (leaving (envOfC qual scope s.heap.objs.size f cd) e) (fun _ s''=>CX outer H s E e s'') (fun e' s''=>CX outer H s E e' s'') s'
theorem l6 {sc:Scope} {n:Nat} {x:Str} (h:sc.names.lookup x=some .cell):∃c,(cellsFrom n sc.names []).lookup x=some c:=by
 have q:=PySem.W.cellsFrom_some sc.names n [] (.inl h)
 exact Option.isSome_iff_exists.mp q
theorem oY {CX:CXT} {P:Program} {w:World} {K:PySem.W.Frag} {mg:Str->Option Value} {base:Heap} {N ps:List Str} {qual:Str} {scope:Scope} {f:Addr} {cd:Value} {A:Around} {outer:List Env} {s s1:Shared} {H:Hp} {E:XK} {us:List Value} {vs:List V}
  (S:bO N ps scope) (hd:A.handled=none) (e0:iH P w K mg base A outer s H) (hl:vs.length=ps.length) (r:Vals vs us)
  (x:InCallC s s.heap.objs.size (bindL (envOfC qual scope s.heap.objs.size f cd).kindOf (ps.zip us) fun _=>none) (cellsFrom (s.heap.objs.size+1) scope.names []) (bindC (envOfC qual scope s.heap.objs.size f cd).kindOf (ps.zip us) fun _=>none) s1):
  Inv (bQ CX P w K mg base N qual scope f cd A outer s H E) [] (start N vs) H s1:=by
 have hpl:ps.length<=N.length:=by have:=congrArg List.length S.pre;rw [List.length_take] at this;omega
 obtain ⟨h1,tk,rfl,hk⟩:=x.done
 have noA:∀b:Addr,b∉(bQ CX P w K mg base N qual scope f cd A outer s H E).ex:=fun b z=>absurd (show b∈([]:List Addr) from z) (by simp)
 refine ⟨⟨e0.mod,S.kind,rfl,rfl,Nat.le_refl _,fun y z c h1 h2=>?_,fun y hy=>?_,fun y c _ h=>?_,fun _=>hd,Around.frames_deeper e0.frames,.inr ⟨rfl,rfl⟩,fun b z=>absurd z (noA b),e0.bs,e0.bsz,fun b _ _=>noA b,fun b z=>absurd z (noA b),e0.cJ,e0.frf⟩,
  rfl,e0.bare,Un.kept hk,⟨_,x.toInCall.ns,fun i y v h1 h2 h3=>?_⟩,fun y c h=>⟨_,x.cell y c h⟩,e0.hok.fresh (Nat.le_refl _),fun y c h=>?_,fun p hp=>absurd (show p∈([]:List (Addr×Obj)) from hp) (by simp),e0.hok.kept hk,?_⟩
 ·exact name_of_addr x.apart (PySem.mem_of_lookup h1) (PySem.mem_of_lookup h2)
 ·have hy:scope.names.lookup y=some .cell∨scope.names.lookup y=some .free:=hy
  rcases hy with hy|hy
  ·exact l6 hy
  ·exact absurd rfl (S.xI _ (PySem.mem_of_lookup hy))
 ·exact Nat.le_of_lt (x.above y c (PySem.mem_of_lookup h))
 ·have hi:i<vs.length:=by
   unfold start at h2
   by_cases hi:i<vs.length
   ·exact hi
   ·rw [List.getElem?_append_right (by simpa using hi)] at h2
    rw [List.getElem?_replicate] at h2
    split at h2<;>cases h2
  have ha:vs[i]?=some v:=by
   unfold start at h2
   rw [List.getElem?_append_left (by simpa using hi),List.getElem?_map] at h2
   cases e:vs[i]? with
   |none=>rw [e] at h2;cases h2
   |some a=>rw [e] at h2;cases h2;rfl
  obtain ⟨u,hu,rv⟩:=r.get ha
  have hp:ps[i]?=some y:=by
   rw [←S.pre,List.getElem?_take_of_lt (by omega)];exact h1
  have ndP:ps.Nodup:=by rw [←S.pre];exact S.nd.sublist (List.take_sublist _ _)
  refine ⟨u,rv,?_⟩
  rcases S.par y (List.mem_of_getElem? hp) with k|k
  ·exact .inl ⟨k,jS ndP hp hu k⟩
  ·obtain ⟨c,e⟩:=l6 (n:=s.heap.objs.size+1) k
   refine .inr ⟨.inl k,c,e,?_⟩
   have q:=x.cell y c e
   rw [jZ ndP hp hu (by show scope.names.lookup y≠_;rw [k];decide)] at q
   exact q
 ·exact e0.hok.fresh (Nat.le_of_lt (x.above y c (PySem.mem_of_lookup h)))
 ·unfold start
  show _=N.length
  rw [List.length_append,List.length_map,List.length_replicate]
  omega
theorem tj {CX:CXT} {P:Program} {w:World} {K:PySem.W.Frag} {mg:Str->Option Value} {base:Heap} {k:Nat} {f:Addr} {name qual:Str} {params:Arguments} {body:List Stmt} {scope:Scope} {dV kV doc pm cdv ct oc:Value} {an od:Option Addr}
  {osl:Array (Option Value)} {N ps:List Str} {sp:Sp} (lk:K.lookup f=some ⟨oc,od,.func (PySem.W.fnOf name qual params body scope dV kV doc pm an cdv ct),osl⟩) (hcd:PySem.W.codeIn K cdv qual=true) (S:bO N ps scope)
  (len:∀vs H Q E,sp vs H Q E->vs.length=ps.length)
  (hbody:∀(A:Around) (outer:List Env) (s:Shared) (H:Hp) (vs:List V) (Q:VK) (E:XK),ay k (A.deeper (envOfC qual scope s.heap.objs.size f cdv))->sp vs H Q E->
   ∃t,PSs (bQ CX P w K mg base N qual scope f cdv A outer s H E) body t∧t {nx:=fun _ H'=>Q .non H',rt:=Q} (start N vs) H):
  aA P w K mg base CX (k+1) f (PySem.W.fnOf name qual params body scope dV kV doc pm an cdv ct) ps sp:=by
 refine ⟨len,fun A outer s H args us vs Q E hr e0 hb r hsp=>?_⟩
 have hl:=len _ _ _ _ hsp
 have KX:K.In s.heap:=e0.mod.kin.keeps fun b o e=>(e0.bs b o e).1
 have lim:s.heap.NoLimit:=e0.mod.nolimit.keeps fun b o e=>(e0.bs b o e).1
 have hkind:∀y∈ps.zip us,scope.names.lookup y.1=some .local∨(scope.names.lookup y.1=some .cell∧((cellsFrom (s.heap.objs.size+1) scope.names []).lookup y.1).isSome=true):=fun ⟨n,v⟩ hy=>by
  rcases S.par n (List.of_mem_zip hy).1 with q|q
  ·exact .inl q
  ·exact .inr ⟨q,PySem.W.cellsFrom_some _ _ _ (.inl q)⟩
 refine codeAny_call_function hr.depth (KX _ _ lk) rfl S.co S.gen rfl (PySem.W.codeRec_of KX hcd) (hb _ _ _ _ ?_)
 refine wpAny_newFunctionEnv_cells S.kind hkind fun env he s1 x=>?_
 subst he
 refine ⟨lim.keeps x.toInCall.keep,codeAny_func ?_⟩
 obtain ⟨t,ht,hq⟩:=hbody A outer s H vs Q E (hr.deeper _) hsp
 have I:Inv (bQ CX P w K mg base N qual scope f cdv A outer s H E) [] (start N vs) H s1:=oY S hr.hd e0 hl r x
 refine wpAny_mono (ht [] s1 (start N vs) H _ I hq) (fun fl s' hs=>?_) fun e s' hs=>hs
 have fin:∀{σ':St} {H':Hp} {v:V} {u:Value},Inv (bQ CX P w K mg base N qual scope f cdv A outer s H E) [] σ' H' s'->RelV v u->Q v H'->CE outer P w H s Q u s':=
  fun {σ' H' v u} J rv q=>⟨v,H',J.os,J.bare,J.base,J.hok,rv,q⟩
 cases fl with
 |ret u=>
  obtain ⟨v,σ',H',J,rv,q⟩:=hs
  exact fin J rv q
 |next=>
  obtain ⟨σ',H',J,q⟩:=hs
  exact fin (v:=V.non) (u:=Value.none) J rfl q
 |brk=>
  obtain ⟨_,_,_,q⟩:=hs
  exact False.elim q
 |cont=>
  obtain ⟨_,_,_,q⟩:=hs
  exact False.elim q
end L2
namespace L2
open PySem PySem.Spec PyProof.Rows
section
variable {X:Cx} {x:Str} {p pos:Pos} {e:Expr} {es:List Expr} {t:TA} {id T:String} {r:List V->Hp->VK->Prop}
noncomputable def tCB (r:List V->Hp->VK->Prop) (t:TA):TE:=fun σ H Q=>t σ H fun vs H1=>r vs H1 Q
theorem rL (hc:dA X (.builtin id) r) (hg:Gl X x) (hm:X.mg x=none) (hv:bootBuiltins x=some (.builtin id)) (ha:PA X (e::es) t) (hn:x≠"__name__":=by decide) (hdb:(x==("__debug__":Str))=false:=by decide)
  (he:starEach (e::es) X.env=(false,eval e X.env)::starEach es X.env:=by rfl) (hpl:(backTo pos (starEach es X.env)).any (·.1)=false:=by rfl):PE X (.Call (.Name x p) (e::es) [] pos) (tCB r t):=by
 intro pins s σ H Q I h
 refine wpAny_Call_Name_kw (dC I hg hm hv ?_ hn hdb)
 exact PyProof.Rows.callWith_builtin1 (thn (ha pos pins s σ H _ I h) fun us s1 ⟨vs,H1,I1,r1,q1⟩=>hc pins s1 σ H1 vs us Q I1 r1 q1) he hpl
theorem j7 (hc:dA X (.type T) r) (hg:Gl X x) (hm:X.mg x=none) (hv:bootBuiltins x=some (.type T)) (ha:PA X (e::es) t) (hn:x≠"__name__":=by decide) (hdb:(x==("__debug__":Str))=false:=by decide)
  (he:starEach (e::es) X.env=(false,eval e X.env)::starEach es X.env:=by rfl) (hpl:(backTo pos (starEach es X.env)).any (·.1)=false:=by rfl):PE X (.Call (.Name x p) (e::es) [] pos) (tCB r t):=by
 intro pins s σ H Q I h
 refine wpAny_Call_Name_kw (dC I hg hm hv ?_ hn hdb)
 exact PyProof.Rows.callWith_type1 (thn (ha pos pins s σ H _ I h) fun us s1 ⟨vs,H1,I1,r1,q1⟩=>hc pins s1 σ H1 vs us Q I1 r1 q1) he hpl
end
end L2
namespace HT
open PySem PyProof.Rows
section
variable {prog:Program} {w:World} {A:Around} {E:Value->Shared->Prop} {s:Shared}
theorem vO {t b:Addr} {vs ws:List Value} {Q:Value->Shared->Prop} (ht:IsTup s.heap t vs.toArray) (hb:IsTup s.heap b ws.toArray) (hv:vs≠[])
  (h1:ws=[]->Q (.ref t) s) (h2:ws≠[]->Q (.ref s.heap.objs.size) {s with heap:=s.heap.push {cls:=.type "tuple",data:=.seq (vs++ws).toArray}})
  (hsz:vs.length+ws.length<=sizeLine):wpAny (model prog w) A (binaryOp .Add (.ref t) (.ref b)) Q E s:=by
 obtain ⟨⟨cls,dd,data,sl⟩,ho,hc,n,hd⟩:=id ht
 obtain ⟨⟨cls2,dd2,data2,sl2⟩,ho2,hc2,n2,hd2⟩:=id hb
 simp only at hc hd hc2 hd2
 subst hc hd hc2 hd2
 have e:vs.toArray++ws.toArray=(vs++ws).toArray:=by simp
 by_cases hw:ws=[]
 ·exact concat_meets ⟨_,ho,rfl⟩ ⟨_,ho2,rfl⟩ noFill_tuple_add seq_tuple_add PySem.F.slot_tuple_add PySem.F.entry_tuple_add (PySem.F.args_tuple_add_2 _ _)
   (tuple_addW1 t b vs.toArray ws.toArray n n2 dd dd2 sl sl2 (by simpa using hv) (by simp [hw])) ⟨ho,ho2,h1 hw⟩
 ·refine concat_meets ⟨_,ho,rfl⟩ ⟨_,ho2,rfl⟩ noFill_tuple_add seq_tuple_add PySem.F.slot_tuple_add PySem.F.entry_tuple_add (PySem.F.args_tuple_add_2 _ _)
   (tuple_addW2 t b vs.toArray ws.toArray n n2 dd dd2 sl sl2 (by simpa using hv) (by simpa using hw) (by rw [List.size_toArray,List.size_toArray];exact hsz)) ⟨ho,ho2,?_⟩
  rw [e]
  exact h2 hw
noncomputable def sIx (n d:Nat):Option Int->Nat
 |none=>d
 |some v=>if v<0 then (v+(n:Int)).toNat else min v.toNat n
theorem xX (n d:Nat) (hd:d<=n) (o:Option Int):sIx n d o<=n:=by
 cases o with
 |none=>exact hd
 |some v=>
  show (if v<0 then (v+(n:Int)).toNat else min v.toNat n)<=n
  by_cases hv:v<0
  ·rw [if_pos hv];omega
  ·rw [if_neg hv];exact Nat.min_le_right _ _
theorem mH (v:Int) (n d:Nat):(if v<0 then max (v+(n:Int)) 0 else min v (n:Int))=((sIx n d (some v):Nat):Int):=by
 show (if v<0 then max (v+(n:Int)) 0 else min v (n:Int))=(((if v<0 then (v+(n:Int)).toNat else min v.toNat n):Nat):Int)
 by_cases hv:v<0
 ·simp only [if_pos hv];omega
 ·simp only [if_neg hv];omega
theorem oB (lo hi:Option Int) (n:Nat):Builtin.Slice.sliceAdjust lo hi 1 (n:Int)=(((sIx n 0 lo:Nat):Int),((sIx n n hi:Nat):Int)):=by
 have h1:¬((1:Int)<0):=by omega
 unfold Builtin.Slice.sliceAdjust
 simp only [h1,if_false]
 refine Prod.ext ?_ ?_
 ·cases lo with
  |none=>rfl
  |some v=>exact mH v n 0
 ·cases hi with
  |none=>rfl
  |some v=>exact mH v n n
theorem nG (i j:Nat):Builtin.Slice.slicePlaces (i:Int) (j:Int) 1=j - i:=by
 unfold Builtin.Slice.slicePlaces
 have h1:(1:Int)>0:=by omega
 simp only [h1,if_true,Int.ediv_one]
 split<;>omega
theorem iO {v:Value} {o:Option Int} {Q:Option Int->Shared->Prop} (p:IsPart v o) (h:Q o s):wpAny (model prog w) A (Builtin.Slice.slicePartIndex v) Q E s:=by
 cases p with
 |none=>exact slicePart_none h
 |int i t=>exact slicePart_int h
theorem eF {sl:Addr} {vl vu:Value} {lo hi:Option Int} {n:Nat} {Q:Int×Int×Nat->Shared->Prop} (hs:s.heap.IsSliceOf sl vl vu .none) (pl:IsPart vl lo) (pu:IsPart vu hi)
  (h:Q (((sIx n 0 lo:Nat):Int),1,sIx n n hi - sIx n 0 lo) s):wpAny (model prog w) A (Builtin.Slice.sliceApplied (.ref sl) (pure (n:Int))) Q E s:=by
 obtain ⟨os,hos,hcs,hds⟩:=id hs
 unfold Builtin.Slice.sliceApplied Builtin.Slice.sliceFields
 refine wpAny_bind (wpAny_bind (wpAny_field hos hds (x:=vl) rfl (wpAny_bind (wpAny_field hos hds (x:=vu) rfl (wpAny_bind (wpAny_field hos hds (x:=.none) rfl (wpAny_pure ?_)))))))
 refine wpAny_bind (slicePart_none ?_)
 show wpAny _ _ (if ((1:Int)==0)=true then _ else _) _ _ s
 rw [if_neg (by decide)]
 refine wpAny_bind (iO pl (wpAny_bind (iO pu (wpAny_bind (wpAny_pure ?_)))))
 show wpAny _ _ (match Builtin.Slice.sliceAdjust lo hi 1 (n:Int) with|(lo,hi)=>pure (lo,(1:Int),Builtin.Slice.slicePlaces lo hi 1)) _ _ s
 rw [oB lo hi n]
 show wpAny _ _ (pure (((sIx n 0 lo:Nat):Int),(1:Int),Builtin.Slice.slicePlaces ((sIx n 0 lo:Nat):Int) ((sIx n n hi:Nat):Int) 1)) _ _ s
 rw [nG]
 exact wpAny_pure h
theorem rY (xs:Array Value) (i k:Nat):((List.range k).filterMap fun (m:Nat)=>xs[((i:Int)+(m:Int)*1).toNat]?).toArray=((xs.toList.drop i).take k).toArray:=by
 have e:(fun (m:Nat)=>xs[((i:Int)+(m:Int)*1).toNat]?)=fun m=>xs[i+m]?:=by
  funext m
  have:((i:Int)+(m:Int)*1).toNat=i+m:=by omega
  rw [this]
 rw [e]
 have:=pick_run xs i k
 rw [List.filterMap_map] at this
 have e2:((fun x=>xs[x]?)∘fun x=>i+x)=fun m=>xs[i+m]?:=rfl
 rw [e2] at this
 rw [this]
theorem gV {t sl:Addr} {items:Array Value} {vl vu:Value} {lo hi:Option Int} {Q:Value->Shared->Prop} (ht:IsTup s.heap t items) (hs:s.heap.IsSliceOf sl vl vu .none) (pl:IsPart vl lo) (pu:IsPart vu hi)
  (hw:¬(sIx items.size 0 lo=0∧sIx items.size items.size hi=items.size))
  (h:Q (.ref s.heap.objs.size) {s with heap:=s.heap.push {cls:=.type "tuple",data:=.seq ((items.toList.drop (sIx items.size 0 lo)).take (sIx items.size items.size hi - sIx items.size 0 lo)).toArray}})
  (hsz:items.size<=sizeLine):wpAny (model prog w) A (getItem (.ref t) (.ref sl)) Q E s:=by
 have htake:sizeOk (.seq ((items.toList.drop (sIx items.size 0 lo)).take (sIx items.size items.size hi - sIx items.size 0 lo)).toArray):=by
  show ((items.toList.drop (sIx items.size 0 lo)).take (sIx items.size items.size hi - sIx items.size 0 lo)).toArray.size<=sizeLine
  rw [List.size_toArray,List.length_take,List.length_drop,Array.length_toList]
  omega
 have hj:sIx items.size items.size hi<=items.size:=xX _ _ (Nat.le_refl _) hi
 obtain ⟨os,hos,hcs,hds⟩:=id hs
 have hTs:s.TypeIs (.ref sl) "slice":=⟨os,hos,hcs⟩
 unfold getItem
 try with_reducible refine wpAny_holding ?_
 first|refine wpAny_bind (wpAny_pure ?_)|skip
 refine wpAny_bind (wpAny_sequenceKey ht.typeIs (by decide) ?_)
 refine wpAny_bind (wpAny_callSpecial?_slot (name:=Str.ofString "__getitem__") ht.typeIs PyProof.Rows.slot_tuple_getitem
  (wpAny_call_entry PyProof.Rows.slot_tuple_getitem ht.typeIs entry_tuple_getitem ?_ (args_tuple_getitem _ _)))
 show wpAny _ _ (Builtin.Tuple.tupleItemsOf (.ref t)>>=_) _ _ s
 refine wpAny_bind (tupleItemsOf_ ht ?_)
 refine wpAny_bind (wpAny_typeOf hTs ?_)
 rw [if_pos (by decide)]
 refine wpAny_bind (eF hs pl pu ?_)
 have hno:¬((((sIx items.size 0 lo:Nat):Int)==0&&(1:Int)==1&&(sIx items.size items.size hi - sIx items.size 0 lo)==items.size)=true):=by
  intro q
  rw [Bool.and_eq_true,Bool.and_eq_true] at q
  have q1:((sIx items.size 0 lo:Nat):Int)=0:=eq_of_beq q.1.1
  have q2:sIx items.size items.size hi - sIx items.size 0 lo=items.size:=eq_of_beq q.2
  exact hw ⟨by omega,by omega⟩
 show wpAny _ _ (if (((sIx items.size 0 lo:Nat):Int)==0&&(1:Int)==1&&(sIx items.size items.size hi - sIx items.size 0 lo)==items.size)=true then _ else _) _ _ s
 rw [if_neg hno,rY]
 first
  |exact wpAny_bind (m:=Builtin.Tuple.tupleExact _) (wpAny_newObj_type (wpAny_pure ⟨_,rfl,wpAny_pure h⟩) htake)
  |exact wpAny_bind (m:=Builtin.Tuple.tupleExact _) (wpAny_newObj_type (wpAny_bind (wpAny_pure (wpAny_pure ⟨_,rfl,wpAny_pure h⟩))) htake)
  |exact wpAny_bind (wpAny_bind (m:=Builtin.Tuple.tupleExact _) (wpAny_newObj_type (wpAny_pure (wpAny_pure ⟨_,rfl,wpAny_pure h⟩)) htake))
  |exact wpAny_bind (wpAny_bind (m:=Builtin.Tuple.tupleExact _) (wpAny_newObj_type (wpAny_pure ⟨_,rfl,wpAny_pure h⟩) htake))
end
end HT
namespace L2
open PySem PySem.Spec PyProof.Rows
noncomputable abbrev TO:=St->Hp->(Option Int->Hp->Prop)->Prop
noncomputable def PO (X:Cx) (e:Option Expr) (t:TO):Prop:=
 ∀(pins:List (Addr×Obj)) (s:Shared) (σ:St) (H:Hp) (Q:Option Int->Hp->Prop),Inv X pins σ H s->t σ H Q->
  wpAny (model X.prog X.w) X.A (evalPart e X.env) (fun u s'=>∃o H',Inv X pins σ H' s'∧IsPart u o∧Q o H') X.xe s
noncomputable def vC:TO:=fun _ H Q=>Q none H
noncomputable def Ar (t:TE):TO:=fun σ H Q=>t σ H fun x H1=>∃i,x=.int i∧Q (some i) H1
section
variable {X:Cx} {e:Expr} {te:TE} {lo hi:Option Expr} {tl th:TO} {pos p2:Pos}
theorem vg:PO X none vC:=by
 intro pins s σ H Q I h
 rw [evalPart_none]
 exact wpAny_pure ⟨none,H,I,.none,h⟩
theorem uG (h:PE X e te):PO X (some e) (Ar te):=by
 intro pins s σ H Q I hw
 rw [evalPart_some]
 refine thn (h pins s σ H _ I hw) fun u s1 ⟨x,H1,I1,r1,q1⟩=>?_
 obtain ⟨i,rfl,q⟩:=q1
 obtain ⟨t,rfl⟩:=r1
 exact ⟨some i,H1,I1,.int i t,q⟩
noncomputable def SlR (X:Cx) (r:V->Option Int->Option Int->Hp->VK->Prop):Prop:=
 ∀(pins:List (Addr×Obj)) (s:Shared) (σ:St) (H:Hp) (x:V) (v vl vu:Value) (lo hi:Option Int) (sl:Addr) (Q:VK),Inv X pins σ H s->RelV x v->s.heap.IsSliceOf sl vl vu .none->IsPart vl lo->IsPart vu hi->r x lo hi H Q->
  ∃T id,typeLookup (.type T) "__getitem__"=pure (some (.builtin id))∧s.TypeIs v T∧wpAny (model X.prog X.w) X.A (getItem v (.ref sl)) (EP X pins σ Q) X.xe s
theorem SlR.or {r r':V->Option Int->Option Int->Hp->VK->Prop} (h:SlR X r) (h':SlR X r'):SlR X (fun x lo hi H Q=>r x lo hi H Q∨r' x lo hi H Q):=by
 intro pins s σ H x v vl vu lo hi sl Q I rx hs pl pu q
 rcases q with q|q
 ·exact h pins s σ H x v vl vu lo hi sl Q I rx hs pl pu q
 ·exact h' pins s σ H x v vl vu lo hi sl Q I rx hs pl pu q
noncomputable def tSl (r:V->Option Int->Option Int->Hp->VK->Prop) (te:TE) (tl th:TO):TE:=fun σ H Q=>te σ H fun x H1=>tl σ H1 fun l H2=>th σ H2 fun u H3=>r x l u H3 Q
theorem lg {r:V->Option Int->Option Int->Hp->VK->Prop} (hr:SlR X r) (he:PE X e te) (hl:PO X lo tl) (hu:PO X hi th):PE X (.Subscript e (.Slice lo hi none p2) pos) (tSl r te tl th):=by
 intro pins s σ H Q I h
 refine Subscript_ (thn (he pins s σ H _ I h) fun v s1 ⟨x,H1,I1,r1,q1⟩=>?_)
 refine wpAny_Slice (thn (hl pins s1 σ H1 _ I1 q1) fun vl s2 ⟨l,H2,I2,pl,q2⟩=>thn (hu pins s2 σ H2 _ I2 q2) fun vu s3 ⟨u,H3,I3,pu,q3⟩=>?_)
 rw [evalPart_none]
 refine wpAny_pure ?_
 have I4:Inv X pins σ H3 {s3 with heap:=s3.heap.push {cls:=.type "slice",data:=.fields #[vl,vu,.none]}}:=I3.kept (t':=s3.toks) fun b ob q=>Heap.get?_push_of_some _ q
 obtain ⟨T,id,hT,ht,hg⟩:=hr pins {s3 with heap:=s3.heap.push {cls:=.type "slice",data:=.fields #[vl,vu,.none]}} σ H3 x v vl vu l u s3.heap.objs.size Q I4 r1 (Heap.IsSliceOf.new ..) pl pu q3
 show wpAny (model X.prog X.w) X.A (subscriptTail e (.Slice lo hi none p2) v (.ref s3.heap.objs.size)) (EP X pins σ Q) X.xe {s3 with heap:=s3.heap.push {cls:=.type "slice",data:=.fields #[vl,vu,.none]}}
 exact tail_any (ops:=[.ref s3.heap.objs.size,v]) ht hT hg (by with_unfolding_all rfl)
noncomputable def gw (xs:List V) (lo hi:Option Int):List V:=(xs.drop (HT.sIx xs.length 0 lo)).take (HT.sIx xs.length xs.length hi - HT.sIx xs.length 0 lo)
theorem g8 (xs:List V) (lo hi:Option Int):(gw xs lo hi).length<=xs.length:=by
 unfold gw
 rw [List.length_take,List.length_drop]
 omega
noncomputable def A8 (K:PySem.W.Frag):V->Option Int->Option Int->Hp->VK->Prop:=fun x lo hi H Q=>∃a xs,x=.ref a∧SqT K H a xs∧
 ¬(HT.sIx xs.length 0 lo=0∧HT.sIx xs.length xs.length hi=xs.length)∧∀p,H p=none->Q (.ref p) (upd H p (.tup (gw xs lo hi)))
theorem yx:SlR X (A8 X.K):=by
 intro pins s σ H x v vl vu lo hi sl Q I rx hs pl pu h
 obtain ⟨a,xs,rfl,hx,hw,q⟩:=h
 cases rx
 obtain ⟨its,r,ht,hz⟩:=I.tuple hx
 have hlen:its.toArray.size=xs.length:=by rw [List.size_toArray];exact r.length.symm
 refine ⟨"tuple",_,PyProof.Rows.slot_tuple_getitem.lookup,ht.typeIs,?_⟩
 refine HT.gV ht hs pl pu (by rw [hlen];exact hw) ?_ (by rw [hlen];exact hz)
 rw [hlen]
 refine ⟨.ref s.heap.objs.size,_,I.laid (t':=s.toks) (o:=.tup (gw xs lo hi)) (fun b ob q=>Heap.get?_push_of_some _ q) (Nat.le_refl _) ?_,rfl,q _ (I.hok.fresh (Nat.le_refl _))⟩
 exact ⟨Nat.le_trans (g8 xs lo hi) hz,_,(r.drop (HT.sIx xs.length 0 lo)).take (HT.sIx xs.length xs.length hi - HT.sIx xs.length 0 lo),IsTup.new _ _⟩
noncomputable def zN (K:PySem.W.Frag):R2:=fun x y H Q=>∃a b xs ys,x=.ref a∧y=.ref b∧SqT K H a xs∧SqT K H b ys∧xs≠[]∧xs.length+ys.length<=sizeLine∧
 (ys=[]->Q (.ref a) H)∧(ys≠[]->∀p,H p=none->Q (.ref p) (upd H p (.tup (xs++ys))))
theorem Vals.jo {xs:List V} {us:List Value} (r:Vals xs us):us=[]↔xs=[]:=by
 cases r with
 |nil=>simp
 |cons _ _=>simp
theorem uZ:OpR X (binaryOp .Add) (zN X.K):=by
 intro pins s σ H x y v u Q I rx ry h
 obtain ⟨a,b,xs,ys,rfl,rfl,ha,hb,hx,hz,q1,q2⟩:=h
 cases rx
 cases ry
 obtain ⟨its,r1,p1,_⟩:=I.tuple ha
 obtain ⟨its2,r2,p2,_⟩:=I.tuple hb
 refine HT.vO p1 p2 (fun z=>hx (r1.jo.mp z)) (fun z=>⟨.ref a,H,I,rfl,q1 (r2.jo.mp z)⟩) (fun z=>?_) (by rw [←r1.length,←r2.length];exact hz)
 refine ⟨.ref s.heap.objs.size,_,I.laid (t':=s.toks) (o:=.tup (xs++ys)) (fun b ob q=>Heap.get?_push_of_some _ q) (Nat.le_refl _) ?_,rfl,q2 (fun w=>z (r2.jo.mpr w)) _ (I.hok.fresh (Nat.le_refl _))⟩
 exact ⟨by rw [List.length_append];exact hz,_,r1.append r2,IsTup.new _ _⟩
end
end L2
namespace L2
open PySem PySem.Spec PyProof.Rows
noncomputable def ixN (n:Nat) (i:Int):Option Nat:=if 0<=i then (if i<n then some i.toNat else none) else if -(n:Int)<=i then some (i+n).toNat else none
noncomputable def atI {α:Type} (xs:List α) (i:Int):Option α:=(ixN xs.length i).bind fun j=>xs[j]?
theorem vp {n:Nat} {i:Int} {j:Nat} (h:ixN n i=some j):seqIndex? i n=some j∧j<n∧ -(n:Int)<=i∧i<n:=by
 unfold ixN at h
 by_cases h0:0<=i
 ·rw [if_pos h0] at h
  by_cases h1:i<n
  ·rw [if_pos h1] at h
   have e:i.toNat=j:=Option.some.inj h
   exact ⟨by rw [seqIndex_of h0 h1,e],by omega,by omega,h1⟩
  ·rw [if_neg h1] at h;cases h
 ·rw [if_neg h0] at h
  by_cases h1: -(n:Int)<=i
  ·rw [if_pos h1] at h
   have e:(i+n).toNat=j:=Option.some.inj h
   exact ⟨by rw [seqIndex_neg (by omega) h1,e],by omega,h1,by omega⟩
  ·rw [if_neg h1] at h;cases h
theorem mJ {α:Type} {xs:List α} {i:Int} {v:α} (h:atI xs i=some v):∃j,seqIndex? i xs.length=some j∧xs[j]?=some v∧j<xs.length∧ -(xs.length:Int)<=i∧i<xs.length:=by
 unfold atI at h
 cases e:ixN xs.length i with
 |none=>rw [e] at h;cases h
 |some j=>
  rw [e] at h
  obtain ⟨h1,h2,h3,h4⟩:=vp e
  exact ⟨j,h1,h,h2,h3,h4⟩
theorem je {α:Type} {xs:List α} {j:Nat} {v:α} (h:xs[j]?=some v):atI xs (j:Int)=some v:=by
 have hj:j<xs.length:=(List.getElem?_eq_some_iff.mp h).1
 have e:ixN xs.length (j:Int)=some j:=by
  unfold ixN
  rw [if_pos (by omega),if_pos (by omega)];simp
 unfold atI;rw [e];exact h
noncomputable def jC (b:Expr):Prop:=∀o i,subscripted b false o i=operate [o,i] (getItem o i)
noncomputable def IxR (X:Cx) (r:R2):Prop:=
 ∀(value slice:Expr) (pins:List (Addr×Obj)) (s:Shared) (σ:St) (H:Hp) (x y:V) (v u:Value) (Q:VK),Inv X pins σ H s->RelV x v->RelV y u->r x y H Q->
  subscripted slice false v u=operate [v,u] (getItem v u)->wpAny (model X.prog X.w) X.A (subscriptTail value slice v u) (EP X pins σ Q) X.xe s
noncomputable def MtR (X:Cx) (id:String) (r:V->List V->Hp->VK->Prop):Prop:=
 ∀(pins:List (Addr×Obj)) (s:Shared) (σ:St) (H:Hp) (x:V) (xs:List V) (v:Value) (us:List Value) (Q:VK),Inv X pins σ H s->RelV x v->Vals xs us->r x xs H Q->
  wpAny (model X.prog X.w) X.A (call (.builtin id) (v::us)) (EP X pins σ Q) X.xe s
section
variable {X:Cx} {a b:Expr} {ta tb:TE} {pos:Pos}
theorem tO {r:R2} (hr:IxR X r) (ha:PE X a ta) (hb:PE X b tb) (hs:jC b):PE X (.Subscript a b pos) (tOp r ta tb):=by
 intro pins s σ H Q I h
 exact Subscript_ (sG ha hb I h fun v u s2 x y H2 I2 rx ry q=>hr a b pins s2 σ H2 x y v u Q I2 rx ry q (hs _ _))
noncomputable def Bj (K:PySem.W.Frag):R2:=fun x y H Q=>∃p xs i v,x=.ref p∧y=.int i∧SqL K H p xs∧atI xs i=some v∧Q v H
noncomputable def AU (K:PySem.W.Frag):R2:=fun x y H Q=>∃p xs i v,x=.ref p∧y=.int i∧SqT K H p xs∧atI xs i=some v∧Q v H
theorem uo:IxR X (Bj X.K):=by
 intro value slice pins s σ H x y v u Q I rx ry h hs
 obtain ⟨p,xs,i,z,rfl,rfl,hq,he,q⟩:=h
 cases rx
 obtain ⟨t,rfl⟩:=ry
 obtain ⟨its,r,pl,hz⟩:=I.list hq
 obtain ⟨j,h1,h2,h3,h4,h5⟩:=mJ he
 obtain ⟨w,ew,rw'⟩:=r.get h2
 have hl:=r.length
 have hn:=kF
 have fin:EP X pins σ Q w s:=⟨z,H,I,rw',q⟩
 by_cases h0:0<=i
 ·have hj:i.toNat=j:=by
   rw [seqIndex_of h0 h5] at h1
   exact Option.some.inj h1
  exact item_listR pl.isList h0 (by omega) (by rw [hj];simpa using ew) fin hs
 ·have hj:(i+(its.toArray.size:Int)).toNat=j:=by
   rw [seqIndex_neg (by omega) h4] at h1
   rw [List.size_toArray,←hl]
   exact Option.some.inj h1
  exact subscriptTail_builtinR (x:=w) pl.isList.typeIs slot_list_getitem.lookup
   (wpAny_getItem_list_neg (Q:=fun r s'=>r=w∧EP X pins σ Q r s') pl.isList (by omega) (by rw [List.size_toArray]<;>omega) (by omega) (by rw [hj];simpa using ew) ⟨rfl,fin⟩) hs
theorem xD:IxR X (AU X.K):=by
 intro value slice pins s σ H x y v u Q I rx ry h hs
 obtain ⟨p,xs,i,z,rfl,rfl,hq,he,q⟩:=h
 cases rx
 obtain ⟨t,rfl⟩:=ry
 obtain ⟨its,r,pl,hz⟩:=I.tuple hq
 obtain ⟨j,h1,h2,h3,h4,h5⟩:=mJ he
 obtain ⟨w,ew,rw'⟩:=r.get h2
 have hl:=r.length
 have hn:=kF
 have fin:EP X pins σ Q w s:=⟨z,H,I,rw',q⟩
 exact subscriptTail_builtinR (x:=w) pl.typeIs slot_tuple_getitem.lookup
  (getItem_tuple (j:=j) (Q:=fun r s'=>r=w∧EP X pins σ Q r s') pl (by omega) (by omega) (by rw [List.size_toArray,←hl];exact h1) (by simpa using ew) ⟨rfl,fin⟩) hs
theorem lM (lo hi:Option Int) (n:Nat):(sliceBounds lo hi none n).1=((HT.sIx n 0 lo:Nat):Int)∧(sliceBounds lo hi none n).2.1=((HT.sIx n n hi:Nat):Int)∧(sliceBounds lo hi none n).2.2=1:=by
 refine ⟨?_,?_,rfl⟩
 ·cases lo with
  |none=>simp [sliceBounds,HT.sIx]
  |some i=>
   simp only [sliceBounds,HT.sIx,Option.getD_none,show (1:Int)>0 by decide,if_true]
   by_cases h:i<0
   ·simp only [h,if_true]<;>omega
   ·simp only [h,if_false]<;>omega
 ·cases hi with
  |none=>simp [sliceBounds,HT.sIx]
  |some i=>
   simp only [sliceBounds,HT.sIx,Option.getD_none,show (1:Int)>0 by decide,if_true]
   by_cases h:i<0
   ·simp only [h,if_true]<;>omega
   ·simp only [h,if_false]<;>omega
theorem kn (its:List Value) (lo hi:Option Int):slicePick its.toArray lo hi none=((its.drop (HT.sIx its.length 0 lo)).take (HT.sIx its.length its.length hi - HT.sIx its.length 0 lo)).toArray:=by
 obtain ⟨h1,h2,h3⟩:=lM lo hi its.toArray.size
 unfold slicePick
 rw [h1,h2,h3]
 simp only [sliceRange_one,pick_run,List.size_toArray]<;>rfl
noncomputable def AM (K:PySem.W.Frag):V->Option Int->Option Int->Hp->VK->Prop:=fun x lo hi H Q=>∃a xs,x=.ref a∧SqL K H a xs∧∀p,H p=none->Q (.ref p) (upd H p (.lst (gw xs lo hi)))
theorem vx:SlR X (AM X.K):=by
 intro pins s σ H x v vl vu lo hi sl Q I rx hs pl pu h
 obtain ⟨a,xs,rfl,hx,q⟩:=h
 cases rx
 obtain ⟨its,r,ht,hz⟩:=I.list hx
 have hlen:=r.length
 refine ⟨"list",_,slot_list_getitem.lookup,ht.isList.typeIs,?_⟩
 refine wpAny_getItem_list_slice ht.isList hs pl pu .none (by simp) ?_ (by rw [List.size_toArray]<;>omega)
 rw [kn,←hlen]
 refine ⟨.ref s.heap.objs.size,_,I.laid (t':=s.toks) (o:=.lst (gw xs lo hi)) (fun b ob q=>Heap.get?_push_of_some _ q) (Nat.le_refl _) ?_,rfl,q _ (I.hok.fresh (Nat.le_refl _))⟩
 exact ⟨Nat.le_trans (g8 xs lo hi) hz,_,0,(r.drop (HT.sIx xs.length 0 lo)).take (HT.sIx xs.length xs.length hi - HT.sIx xs.length 0 lo),Heap.get?_push_size _ rfl⟩
theorem lR:dA X (.builtin "len") (fun xs H Q=>∃p ys,xs=[.ref p]∧(SqL X.K H p ys∨SqT X.K H p ys)∧Q (.int ys.length) H):=by
 intro pins s σ H xs us Q I r h
 obtain ⟨p,ys,rfl,hq,q⟩:=h
 obtain ⟨u,rfl,rx⟩:=vals1 r
 cases rx
 have hn:=kF
 rcases hq with hq|hq
 ·obtain ⟨its,r',pl,hz⟩:=I.list hq
  have hlen:=r'.length
  exact Calls.call_len_list pl.isList (by simp only [List.size_toArray]<;>omega) ⟨.int ys.length,H,I.tok _,⟨s.toks+1,by rw [List.size_toArray,hlen]⟩,q⟩
 ·obtain ⟨its,r',pl,hz⟩:=I.tuple hq
  have hlen:=r'.length
  exact len_tuple pl (by simp only [List.size_toArray]<;>omega) ⟨.int ys.length,H,I.tok _,⟨s.toks+1,by rw [List.size_toArray,hlen]⟩,q⟩
theorem lu:dA X (.type "list") (fun xs H Q=>∃p ys,xs=[.ref p]∧(SqL X.K H p ys∨SqT X.K H p ys)∧∀l,H l=none->Q (.ref l) (upd H l (.lst ys))):=by
 intro pins s σ H xs us Q I r h
 obtain ⟨p,ys,rfl,hq,q⟩:=h
 obtain ⟨u,rfl,rx⟩:=vals1 r
 cases rx
 have fin:∀(its:List Value),Vals ys its->ys.length<=sizeLine->∀(h':Heap) (c':Nat),(∀b o',s.heap.get? b=some o'->h'.get? b=some o')->
   h'.get? s.heap.objs.size=some {cls:=.type "list",dict:=none,data:=.seq its.toArray c',slots:=#[]}->EP X pins σ Q (.ref s.heap.objs.size) {s with heap:=h'}:=fun its r' hz h' c' kp e=>
  ⟨.ref s.heap.objs.size,_,I.laid (t':=s.toks) kp (Nat.le_refl _) (show aR X.prog X.w _ h' _ (.lst ys) from ⟨hz,its,c',r',e⟩),rfl,q _ (I.hok.fresh (Nat.le_refl _))⟩
 rcases hq with hq|hq
 ·obtain ⟨its,r',pl,hz⟩:=I.list hq
  have hlen:=r'.length
  obtain ⟨o,ho,hc,n,hd⟩:=pl.isList
  exact call_list_seq p (.inl rfl) ho hc hd (fun h' c' kp e=>fin its r' hz h' c' kp e) (by simp only [List.size_toArray]<;>omega)
 ·obtain ⟨its,r',pl,hz⟩:=I.tuple hq
  have hlen:=r'.length
  obtain ⟨o,ho,hc,n,hd⟩:=pl
  exact call_list_seq p (.inr rfl) ho hc hd (fun h' c' kp e=>fin its r' hz h' c' kp e) (by simp only [List.size_toArray]<;>omega)
theorem ku:dA X (.type "tuple") (fun xs H Q=>∃p ys,xs=[.ref p]∧((SqL X.K H p ys∧∀l,H l=none->Q (.ref l) (upd H l (.tup ys)))∨(SqT X.K H p ys∧Q (.ref p) H))):=by
 intro pins s σ H xs us Q I r h
 obtain ⟨p,ys,rfl,h⟩:=h
 obtain ⟨u,rfl,rx⟩:=vals1 r
 cases rx
 rcases h with ⟨hq,q⟩|⟨hq,q⟩
 ·obtain ⟨its,r',pl,hz⟩:=I.list hq
  have hlen:=r'.length
  refine call_tuple_list pl.isList (fun h' kp=>?_) (by simp only [List.size_toArray]<;>omega)
  have I1:Inv X pins σ H {s with heap:=h'}:=I.kept (t':=s.toks) kp
  have I2:Inv X pins σ (upd H h'.objs.size (.tup ys)) {s with heap:=h'.push {cls:=.type "tuple",data:=.seq its.toArray}}:=
   I1.laid (t':=s.toks) (fun b o e=>Heap.get?_push_of_some _ e) (Nat.le_refl _) (show aR X.prog X.w _ _ _ (.tup ys) from ⟨hz,its,r',IsTup.new _ _⟩)
  exact ⟨.ref h'.objs.size,_,I2,rfl,q _ (I1.hok.fresh (Nat.le_refl _))⟩
 ·obtain ⟨its,r',pl,hz⟩:=I.tuple hq
  exact call_tuple_same pl ⟨.ref p,H,I,rfl,q⟩
noncomputable def tyV (K:PySem.W.Frag) (T:String) (x:V) (H:Hp):Prop:=match x with
 |.str _=>T="str"
 |.int _=>T="int"
 |.ref p=>(T="list"∧∃xs,SqL K H p xs)∨(T="tuple"∧∃o,K.lookup p=some o∧o.cls=.type "tuple"∧o.dict=none)∨
   (T="dict"∧((∃kvs,H p=some (.dK kvs))∨∃kvs,H p=some (.dT kvs)))∨(T="set"∧∃S n,H p=some (.set S n))
 |_=>False
theorem xS {pins:List (Addr×Obj)} {σ:St} {H:Hp} {s:Shared} {T:String} {x:V} {v:Value} (I:Inv X pins σ H s) (r:RelV x v) (ty:tyV X.K T x H):
  s.TypeIs v T∧∀a,v=.ref a->∃ob,s.heap.get? a=some ob∧ob.dict=none:=by
 cases x with
 |str z=>
  obtain ⟨t,rfl⟩:=r
  cases (show T="str" from ty)
  exact ⟨typeIs_str s z t,fun _ e=>nomatch e⟩
 |int i=>
  obtain ⟨t,rfl⟩:=r
  cases (show T="int" from ty)
  exact ⟨typeIs_int s i t,fun _ e=>nomatch e⟩
 |ref p=>
  cases r
  rcases ty with ⟨rfl,xs,hq⟩|⟨rfl,o,hk,hc,hd⟩|⟨rfl,hk⟩|⟨rfl,S,n,hk⟩
  ·obtain ⟨its,_,pl,_⟩:=I.list hq
   refine ⟨pl.isList.typeIs,fun a e=>?_⟩
   cases e
   obtain ⟨o,n,e,c,hd,_⟩:=pl
   exact ⟨o,e,hd⟩
  ·refine ⟨⟨o,I.kIn p o hk,hc⟩,fun a e=>?_⟩
   cases e
   exact ⟨o,I.kIn _ o hk,hd⟩
  ·have z:∃o,s.heap.get? p=some o∧o.ExactDict:=by
    rcases hk with ⟨kvs,hk⟩|⟨kvs,hk⟩
    ·obtain ⟨_,_,_,_,o,_,_,e,ex,_⟩:=I.hok p _ hk
     exact ⟨o,e,ex⟩
    ·obtain ⟨_,_,_,_,o,_,_,e,ex,_⟩:=I.hok p _ hk
     exact ⟨o,e,ex⟩
   obtain ⟨o,e,ex⟩:=z
   refine ⟨⟨o,e,ex.1⟩,fun a e2=>?_⟩
   cases e2
   exact ⟨o,e,ex.2.1⟩
  ·obtain ⟨o,_,_,_,e,ex,_⟩:=I.hok p _ hk
   refine ⟨⟨o,e,ex.1⟩,fun a e2=>?_⟩
   cases e2
   exact ⟨o,e,ex.2.1⟩
 |_=>exact False.elim ty
noncomputable def tBM (K:PySem.W.Frag) (T:String) (r:V->List V->Hp->VK->Prop) (to:TE) (t:TA):TE:=fun σ H Q=>to σ H fun x H1=>tyV K T x H1∧t σ H1 fun xs H2=>r x xs H2 Q
variable {o e:Expr} {es:List Expr} {to:TE} {t:TA} {name:Str} {apos cpos:Pos} {T id:String} {r:V->List V->Hp->VK->Prop}
theorem zJ (pa:PlainAttrs T) (slot:Slot T name id) (hty:typeOf (.builtin id)=pure (.type "method_descriptor")) (hm:MtR X id r) (ho:PE X o to) (ha:PA X (e::es) t)
  (hbase:attributeBase o name X.env (eval o X.env)=eval o X.env:=by rfl)
  (hfew:((backTo cpos (starEach (e::es) X.env)).all (fun x=>!x.1)&&(backToKw cpos (keywordEach [] X.env)).all (fun x=>x.1.isSome)
   &&decide ((e::es).length+([]:List Keyword).length+(if ([]:List Keyword).isEmpty then 0 else 1)<30))=true:=by rfl)
  (hline:(apos.endLine==cpos.line)=true:=by rfl) (hs:starEach (e::es) X.env=(false,eval e X.env)::starEach es X.env:=by rfl) (hplain:(backTo cpos (starEach es X.env)).any (·.1)=false:=by rfl):
  PE X (.Call (.Attribute o name apos) (e::es) [] cpos) (tBM X.K T r to t):=by
 intro pins s σ H Q I h
 refine wpAny_Call_method_late hbase hfew hline rfl (thn (ho pins s σ H _ I h) fun v s1 ⟨x,H1,I1,r1,ty,q1⟩=>?_)
 obtain ⟨h1,h2⟩:=xS I1 r1 ty
 refine ⟨T,id,pa,slot,hty,h1,h2,?_⟩
 have hA:=ha cpos pins s1 σ H1 _ I1 q1
 rw [hs] at hA ⊢
 refine Calls.callWith_builtin (by show (false||(backTo cpos (starEach es X.env)).any (·.1))=false;rw [hplain]<;>rfl) (Calls.evalArgs_plain ?_)
 exact thn hA fun us s2 ⟨vs,H2,I2,r2,q2⟩=>hm pins s2 σ H2 x vs v us Q I2 r1 r2 q2
end
end L2
namespace L2
open PySem PySem.Spec PyProof.Rows
noncomputable def MtM (X:Cx) (id:String) (r:V->List V->Hp->VK->Prop):Prop:=
 ∀(pins:List (Addr×Obj)) (s:Shared) (σ:St) (H:Hp) (x:V) (xs:List V) (v:Value) (us:List Value) (Q:VK),Inv X pins σ H s->RelV x v->Vals xs us->r x xs H Q->
  wpAny (model X.prog X.w) X.A (call (.builtin id) (v::us)) (EP X pins σ Q) X.xe s
theorem Vals.one:∀{x:V} {us:List Value},Vals [x] us->∃u,us=[u]∧RelV x u
 |_,_,.cons r .nil=>⟨_,rfl,r⟩
section
variable {X:Cx} {pins:List (Addr×Obj)} {σ:St} {H:Hp} {s:Shared} {l b:Addr} {xs ys zs:List V}
theorem Inv.A7 {its its':List Value} {n:Nat} {f:Array Value->Array Value} {t':Nat} (I:Inv X pins σ H s) (hH:H l=some (.lst xs))
  (e:s.heap.get? l=some {cls:=.type "list",data:=.seq its.toArray n}) (hf:f its.toArray=its'.toArray) (hv:Vals ys its') (hz:ys.length<=sizeLine):
  Inv X pins σ (upd H l (.lst ys)) {s with heap:=s.heap.update l (Obj.mapSeq f),toks:=t'}:=by
 have q:=PySem.IsL.update e f
 rw [hf] at q
 refine I.write (x:=l) (e:=l) (by rw [hH];exact trivial) (.inl rfl) (fun b' u hb hu=>(Heap.get?_update_other s.heap (Obj.mapSeq f) (Ne.symm hb)).trans hu) ⟨_,q⟩ ?_
 exact ⟨hz,its',_,hv,q⟩
theorem Inv.AW (I:Inv X pins σ H s) (hH:H l=some (.lst xs)):xs.length<=sizeLine∧∃(its:List Value) (n:Nat),Vals xs its∧xs.length=its.length∧s.heap.get? l=some {cls:=.type "list",data:=.seq its.toArray n}:=by
 obtain ⟨z,its,n,r,e⟩:=I.hok l _ hH
 exact ⟨z,its,n,r,r.length,e⟩
end
section
variable {X:Cx}
noncomputable def va:V->List V->Hp->VK->Prop:=fun x vs H Q=>∃l xs y,x=.ref l∧vs=[y]∧H l=some (.lst xs)∧xs.length<sizeLine∧Q .non (upd H l (.lst (xs++[y])))
theorem pO:MtM X "list.append" va:=by
 intro pins s σ H x vs v us Q I rx rv h
 obtain ⟨l,xs,y,rfl,rfl,hH,hz,q⟩:=h
 cases rx
 obtain ⟨u,rfl,ru⟩:=rv.one
 obtain ⟨z,its,n,r,hl,e⟩:=I.AW hH
 refine call_meets F.slot_list_append ⟨_,e,rfl⟩ F.entry_list_append (F.args_list_append_2 _ _) (PySem.list_append l its.toArray n u (by rw [List.size_toArray];omega)) ⟨e,?_⟩
 refine ⟨.non,_,I.A7 (its':=its++[u]) hH e (by simp) (r.append (.cons ru .nil)) ?_,rfl,q⟩
 rw [List.length_append,List.length_singleton]
 omega
end
end L2
namespace Att
open PySem PySem.W PySem.Calls PyProof.Rows
theorem iV {P:Params} {h:Heap}:∀(ns:List Int) (vs:List Value),WellAll P h vs (ns.map WData.int)->IntsAre vs ns:=by
 intro ns
 induction ns with
 |nil=>
  intro vs w
  rw [List.map_nil] at w
  cases w
  exact .nil
 |cons n ns ih=>
  intro vs w
  rw [List.map_cons] at w
  cases w with
  |cons a b=>
   cases a
   exact .cons _ _ (ih _ b)
theorem pE {l:OpenLaw} {n:Nat} (hn:l.most=some n) {P:Params} {h:Heap} {args:List WData} {vals:List Value}
  (hpre:l.row.toRowW.claim.pre args=true) (hwl:WellAll P h vals args):
  ∃a vs ns,vals=[Value.ref a]∧args=[WData.list (ns.map WData.int)]∧h.get? a=some {cls:=.type "list",data:=.seq vs.toArray}∧IntsAre vs ns∧ns.length<=n:=by
 have hsh:WShape.hasAll [] args [.list .int]=true:=(pre_splitW hpre).1
 have hc:l.pre.holds [] {args:=args}=true:=(pre_splitW hpre).2
 obtain ⟨d,r,rfl,h1,h2⟩:=hasAllW_cons hsh
 obtain rfl:=hasAllW_nil h2
 obtain ⟨xs,rfl,h3⟩:=hasW_list h1
 obtain ⟨ns,rfl⟩:=items_int h3
 have hlen:ns.length<=n:=by
  unfold OpenLaw.pre at hc
  have h4:(WTm.not (.lt (.lit (.int (n:Int))) (.len (.arg 0)))).holds [] {args:=[.list (ns.map .int)]}=true:=by
   have h4:=(holds_andW hc).1
   rw [hn] at h4
   exact h4
  have h5:=condW_of h4 (w_not (w_lt w_lit (w_len_list (w_arg rfl))))
  rw [List.length_map] at h5
  refine Nat.le_of_not_lt fun q=>?_
  have q':(n:Int)<((ns.length:Nat):Int):=by omega
  first
   |(rw [decide_eq_true q'] at h5;exact absurd h5 (by decide))
   |(simp at h5;omega)
 cases hwl with
 |cons w1 w2=>
  cases w2
  cases w1 with
  |list ho hall=>exact ⟨_,_,ns,rfl,rfl,ho,iV ns _ hall,hlen⟩
theorem pK (l:OpenLaw) (args:List WData):l.row.toRowW.claim.post args (.bool true) args=true:=
 postW_of (r:=l.row.toRowW) (X:=(true==true))
  (show WShape.has [] (.bool true) .bool=true by first|rfl|decide|simp [WShape.has,WShape.arms,WShape.armsAll])
  (show (WTm.eq .res (.lit (.bool true))).value [] {args:=args,res:=some (.bool true),after:=args}=some (.bool (true==true)) from w_eq_bool (w_res rfl) w_lit) rfl
theorem md {l:OpenLaw} {n:Nat} {q:Program} {loose:List Str} {XP:(Str->Option Value)->Heap->Prop} {YP:World->Heap->Prop} {d:DefRec}
  (hn:l.most=some n) (hdf:d.params.defaults=[])
  (call:∀(w:World) (s₀ s₁:Shared) (mg mb:Str->Option Value) (fa:Addr) (o:Obj) (pm cd doc:Value) (a:Addr) (vs:List Value) (ns:List Int),
   Ground q loose [] XP w s₀ mg mb s₁.heap->YP w s₁.heap->
   s₁.heap.get? fa=some o->o.data=.func (docDef d.name d.params d.body d.scope pm cd doc)->s₁.heap.CodeRec cd d.name->mg d.name=some (.ref fa)->
   s₁.heap.get? a=some {cls:=.type "list",data:=.seq vs.toArray}->IntsAre vs ns->ns.length<=n->s₁.gens=#[]->
   codeAny (model l.prog w) callerA (.call (.ref fa) ⟨[.ref a],[]⟩) (fun r s'=>r=.ok (.ret (.bool true))∧OldK s₁.heap s'.heap∧s'.os=s₁.os∧AllBare s'.gens) s₁):
  WalkO q loose XP YP l.row.toRowW d [] (fun f vs=>PySem.call f vs):=by
 intro w s₀ s₁ mg mb G Y fa o pm cd doc dV kV ho hd hcd hD hmg hg args vals as hpre hlay hrd hwl hlo
 obtain rfl:dV=.none:=Dflts.none hD hdf
 obtain rfl:kV=.none:=Dflts.noKw hD
 obtain ⟨a,vs,ns,rfl,rfl,hobj,hints,hlen⟩:=pE hn hpre hwl
 refine enter_call (codeAny_mono (call w s₀ s₁ mg mb fa o pm cd doc a vs ns G Y ho (fd_plain hd) hcd hmg hobj hints hlen hg) fun r s' hq=>?_)
 obtain ⟨rfl,h2,h3,h4⟩:=hq
 exact ⟨.inl ⟨.bool true,.bool true,[],rfl,fun _=>rfl,.bool true,pK l _,fun _=>⟨List.Pairwise.nil,fun _ hm=>(nomatch hm)⟩⟩,h2,h3,h4⟩
end Att
namespace L2
open PySem PySem.Spec PyProof.Rows
theorem jW:∀{vs:List Value} {ns:List Int},IntsAre vs ns->Vals (ns.map V.int) vs
 |_,_,.nil=>.nil
 |_,_,.cons n t h=>.cons ⟨t,rfl⟩ (jW h)
noncomputable def sE (H:Hp):Prop:=∀b,H b=none∨∃o xs,H b=some (.frz o (.lst xs))
theorem rN {P:Program} {w:World} {K:PySem.W.Frag} {mg mb:Str->Option Value} {CX:CXT} {k:Nat} {fa a:Addr} {fd:FuncData} {x:Str} {sp:Sp} {s₁:Shared} {vs:List Value} {ns:List Int}
  (KX:K.In s₁.heap) (hns:s₁.heap.Ns mainGlobals mg) (hb:s₁.heap.Ns builtinsNs mb) (hbb:∀x:Str,x≠"__name__"->mb x=bootBuiltins x) (hlim:s₁.heap.NoLimit) (hg:s₁.gens=#[])
  (ha:s₁.heap.get? a=some {cls:=.type "list",data:=.seq vs.toArray}) (hi:IntsAre vs ns) (hl:ns.length<=sizeLine) (hr:ay k callerA)
  (F:∀base:Heap,K.In base->base.Ns mainGlobals mg->aA P w K mg base CX k fa fd [x] sp) (hbind:∀(s:Shared) (u:Value),BindsTo s fd ⟨[u],[]⟩ [(x,u)])
  (hsp:∀H:Hp,sE H->SqL K H a (ns.map V.int)->sp [.ref a] H (fun v _=>v=.bl true) fun _ _ _=>False)
  (hCX:∀H e s',CX [] H s₁ (fun _ _ _=>False) e s'->False):
  codeAny (model P w) callerA (.call (.ref fa) ⟨[.ref a],[]⟩) (fun r s'=>r=.ok (.ret (.bool true))∧OldK s₁.heap s'.heap∧s'.os=s₁.os∧AllBare s'.gens) s₁:=by
 have rv:=jW hi
 have lenV:=hi.length
 have core:∀H:Hp,sE H->SqL K H a (ns.map V.int)->HOk P w H s₁.heap->(∀b,H b≠none->b=a)->(H a≠none->K.lookup a=none)->
   codeAny (model P w) callerA (.call (.ref fa) ⟨[.ref a],[]⟩) (fun r s'=>r=.ok (.ret (.bool true))∧OldK s₁.heap s'.heap∧s'.os=s₁.os∧AllBare s'.gens) s₁:=by
  intro H hO hS hok hA hK
  have base_of:∀{b:Addr} {o:Obj},s₁.heap.get? b=some o->H b=none->(fE s₁.heap H).get? b=some o:=fun e n=>qR e n
  have noA:∀{b:Addr} {o:Obj} {es:Array DictEntry} {ep:Nat},s₁.heap.get? b=some o->o.data=.dict es ep->H b=none:=fun {b o es ep} e d=>by
   cases q:H b with
   |none=>rfl
   |some u=>
    have e':b=a:=hA b (by rw [q];simp)
    subst e'
    rw [ha] at e;cases e
    have d':Data.seq vs.toArray _=Data.dict es ep:=d
    cases d'
  have nsK:∀{b:Addr} {m:Str->Option Value},s₁.heap.Ns b m->(fE s₁.heap H).Ns b m:=fun {b m} ⟨o,es,ep,e,d,r⟩=>⟨o,es,ep,base_of e (noA e d),d,r⟩
  have hKb:K.In (fE s₁.heap H):=fun b o e=>base_of (KX b o e) (by
   cases q:H b with
   |none=>rfl
   |some u=>
    have e':b=a:=hA b (by rw [q];simp)
    subst e'
    rw [hK (by rw [q];simp)] at e;cases e)
  have hM:Mod K mg (fE s₁.heap H):=⟨hKb,nsK hns,⟨mb,nsK hb,hbb⟩,let ⟨mc,h1,h2⟩:=hlim;⟨mc,nsK h1,h2⟩⟩
  have e0:iH P w K mg (fE s₁.heap H) callerA [] s₁ H:=⟨rfl,hM,fun b o e=>vK e,Nat.le_of_eq (oN _ _),trivial,fun b hb=>absurd (show b∈([]:List Addr) from hb) (by simp),hok,.of_eq hg⟩
  refine codeAny_mono ((F _ hKb (nsK hns)).run callerA [] s₁ H ⟨[.ref a],[]⟩ [.ref a] [.ref a] _ _ hr e0 (hbind s₁ (.ref a)) (.cons rfl .nil) (hsp H hO hS)) fun r s' h=>?_
  cases r with
  |error e=>exact (hCX H e s' h).elim
  |ok fl=>
   cases fl with
   |next=>exact False.elim h
   |brk=>exact False.elim h
   |cont=>exact False.elim h
   |ret u=>
    obtain ⟨v,H',os,bare,un,hok',r',q⟩:=h
    have q':v=.bl true:=q
    subst q'
    obtain rfl:u=Value.bool true:=r'
    refine ⟨rfl,OldK.of_keep fun b o e=>?_,os,bare⟩
    cases q:H b with
    |none=>exact un.keep b o e q (by intro z;exact absurd (show b∈([]:List Addr) from z) (by simp)) (by simp)
    |some u=>
     rcases hO b with z|⟨ob,xs,z⟩
     ·rw [q] at z;cases z
     ·have z2:=un.eJ b ob _ z
      obtain ⟨e1,_⟩:=hok b _ z
      obtain ⟨e2,_⟩:=hok' b _ z2
      rw [e] at e1;cases e1
      exact e2
 cases hk:K.lookup a with
 |some o=>
  have e:=KX a o hk
  rw [ha] at e
  cases e
  refine core (fun _=>none) (fun _=>.inl rfl) (.inr ⟨_,vs.toArray,_,hk,rfl,rfl,rfl,by rw [List.size_toArray,lenV];exact hl,by simpa using rv⟩) (fun b u z=>by have z':(none:Option HO)=some u:=z;cases z') (fun b z=>absurd rfl z) fun z=>absurd rfl z
 |none=>
  refine core (fun b=>if b=a then some (.frz {cls:=.type "list",data:=.seq vs.toArray} (.lst (ns.map V.int))) else none) (fun b=>?_) (.inl (.inr ⟨{cls:=.type "list",data:=.seq vs.toArray},if_pos rfl⟩)) (fun b u z=>?_) (fun b z=>?_) fun _=>hk
  ·by_cases hb:b=a
   ·exact .inr ⟨_,_,if_pos hb⟩
   ·exact .inl (if_neg hb)
  ·by_cases hb:b=a
   ·have z':=(if_pos hb).symm.trans z
    cases z'
    subst hb
    exact ⟨ha,by rw [List.length_map];exact hl,vs,_,rv,ha⟩
   ·have z':=(if_neg hb).symm.trans z
    cases z'
  ·by_cases hb:b=a
   ·exact hb
   ·exact absurd (if_neg hb) z
end L2
namespace L2
open PySem PySem.Spec PyProof.Rows
noncomputable abbrev KOf {K:PySem.W.Frag} {h:Heap} (_:K.In h):PySem.W.Frag:=K
theorem uV {l:PySem.W.OpenLaw} {n k:Nat} {q:Program} {loose:List Str} {XP:(Str->Option Value)->Heap->Prop} {YP:World->Heap->Prop} {d:DefRec} {K:Params->PySem.W.Frag} {CX:World->CXT} {sp:World->Sp} {x:Str}
  (hn:l.most=some n) (hn2:n<=sizeLine) (hdf:d.params.defaults=[]) (hr:ay k callerA)
  (hY:∀(w:World) (h:Heap),YP w h->(K w.params).In h)
  (F:∀(w:World) (mg:Str->Option Value) (fa:Addr) (h:Heap),(K w.params).In h->h.Ns mainGlobals mg->mg d.name=some (.ref fa)->
   ∃fd:FuncData,(∀(s:Shared) (u:Value),BindsTo s fd ⟨[u],[]⟩ [(x,u)])∧
    ∀base:Heap,(K w.params).In base->base.Ns mainGlobals mg->aA l.prog w (K w.params) mg base (CX w) k fa fd [x] (sp w))
  (hsp:∀(w:World) (H:Hp) (a:Addr) (ns:List Int),ns.length<=n->sE H->SqL (K w.params) H a (ns.map V.int)->sp w [.ref a] H (fun v _=>v=.bl true) fun _ _ _=>False)
  (hCX:∀(w:World) (H:Hp) (s:Shared) (e:Value) (s':Shared),CX w [] H s (fun _ _ _=>False) e s'->False):
  PySem.W.WalkO q loose XP YP l.row.toRowW d [] (fun f vs=>PySem.call f vs):=by
 refine Att.md hn hdf fun w s₀ s₁ mg mb fa o pm cd doc a vs ns G Y ho hd hcd hmg hobj hints hlen hg=>?_
 have KX:=hY w _ Y
 obtain ⟨fd,hb,hF⟩:=F w mg fa _ KX G.T.g hmg
 exact rN KX G.T.g G.T.b G.T.builtins G.T.nolimit hg hobj hints (Nat.le_trans hlen hn2) hr hF hb (fun H hO hS=>hsp w H a ns hlen hO hS) fun H e s'=>hCX w H s₁ e s'
end L2
namespace L2
open PySem PySem.Spec PyProof.Rows
noncomputable def inClass (s:Stmt) (j:Nat):Stmt:=match s with
 |.ClassDef _ _ _ body _ _ _ _ _ _ _=>body.getD j (.Pass ⟨0,0,0,0⟩)
 |_=>.Pass ⟨0,0,0,0⟩
noncomputable def dk (s:Stmt):Arguments:=match s with
 |.FunctionDef _ a _ _ _ _ _ _ _ _=>a
 |_=>{posonlyargs:=[],args:=[],vararg:=none,kwonlyargs:=[],kw_defaults:=[],kwarg:=none,defaults:=[]}
noncomputable def aV (s:Stmt):List Stmt:=match s with
 |.FunctionDef _ _ b _ _ _ _ _ _ _=>b
 |_=>[]
noncomputable def ai (s:Stmt):Scope:=match s with
 |.FunctionDef _ _ _ _ _ _ sc _ _ _=>sc
 |_=>{kind:=.function,names:=[],isGenerator:=false,isCoroutine:=false}
noncomputable abbrev CX0:CXT:=fun _ _ _ _ _ _=>False
noncomputable abbrev E0:XK:=fun _ _ _=>False
theorem d3 {X:Cx}:Passes CX0 X E0:=fun _ _ _ _ _ _ _ h=>h.elim
structure Fun (K:PySem.W.Frag) (x qual:Str) (st:Stmt) (f:Addr) (fd:FuncData):Prop where
 ex:∃(oc:Value) (od:Option Addr) (kV doc pm:Value) (an:Option Addr) (cdv ct:Value) (osl:Array (Option Value)),
  fd=PySem.W.fnOf x qual (dk st) (aV st) (ai st) .none kV doc pm an cdv ct∧K.lookup f=some ⟨oc,od,.func fd,osl⟩∧PySem.W.codeIn K cdv qual=true
 kp:PySem.W.keepIn K (.ref f)=true
section
variable {P:Program} {w:World} {K:PySem.W.Frag} {mg:Str->Option Value} {base:Heap}
theorem Fun.ok {x qual:Str} {st:Stmt} {f:Addr} {fd:FuncData} {N ps:List Str} {k:Nat} {sp:Sp} (F:Fun K x qual st f fd) (S:bO N ps (ai st)) (len:∀vs H Q E,sp vs H Q E->vs.length=ps.length)
  (hbody:∀(cdv:Value) (A:Around) (outer:List Env) (s:Shared) (H:Hp) (vs:List V) (Q:VK) (E:XK),ay k (A.deeper (envOfC qual (ai st) s.heap.objs.size f cdv))->sp vs H Q E->
   ∃t,PSs (bQ CX0 P w K mg base N qual (ai st) f cdv A outer s H E).nox (aV st) t∧t {nx:=fun _ H'=>Q .non H',rt:=Q} (start N vs) H):aA P w K mg base CX0 (k+1) f fd ps sp:=by
 obtain ⟨oc,od,kV,doc,pm,an,cdv,ct,osl,rfl,lk,hcd⟩:=F.ex
 refine tj lk hcd S len fun A outer s H vs Q E hr hsp=>?_
 obtain ⟨t,h,q⟩:=hbody cdv A outer s H vs Q E hr hsp
 exact ⟨t,h.nox,q⟩
theorem Fun.binds {x qual:Str} {st:Stmt} {f:Addr} {fd:FuncData} {ps:List Str} (F:Fun K x qual st f fd)
  (h:∀(kV doc pm:Value) (an:Option Addr) (cdv ct:Value) (us:List Value),us.length=ps.length->bindArgs (PySem.W.fnOf x qual (dk st) (aV st) (ai st) .none kV doc pm an cdv ct) ⟨us,[]⟩=pure (ps.zip us)):Binds K fd ps []:=by
 obtain ⟨oc,od,kV,doc,pm,an,cdv,ct,osl,rfl,lk,hcd⟩:=F.ex
 exact .all (h kV doc pm an cdv ct)
theorem oX {x qual:Str} {st:Stmt} {f:Addr} {oc:Value} {od an:Option Addr} {osl:Array (Option Value)} {kV doc pm cdv ct:Value} (l:K.lookup f=some ⟨oc,od,.func (PySem.W.fnOf x qual (dk st) (aV st) (ai st) .none kV doc pm an cdv ct),osl⟩)
  (c:PySem.W.codeIn K cdv qual=true) (k:PySem.W.keepIn K (.ref f)=true):Fun K x qual st f (PySem.W.fnOf x qual (dk st) (aV st) (ai st) .none kV doc pm an cdv ct):=⟨⟨oc,od,kV,doc,pm,an,cdv,ct,osl,rfl,l,c⟩,k⟩
end
theorem eQ {A B:Prop} (h:B):if false=true then A else B:=by
 rw [if_neg Bool.false_ne_true]
 exact h
theorem ej {A B:Prop} (h:A):if true=true then A else B:=by
 rw [if_pos rfl]
 exact h
end L2
namespace L2
open PySem PySem.Spec PyProof.Rows
section
variable {X:Cx} {pins:List (Addr×Obj)} {σ:St} {H:Hp} {s:Shared} {a:Addr} {y v:V} {u r:Value} {o:Option V} {A:Around} {E:Value->Shared->Prop}
theorem Inv.big (I:Inv X pins σ H s):sysModules<s.heap.objs.size:=by
 have h:mainGlobals<s.heap.objs.size:=(I.mod.glob.keeps I.bk).lt
 exact Nat.lt_trans (by decide) h
end
noncomputable def AH (i:Expr):Prop:=∀ov iv,subscripted i false ov iv=operate [ov,iv] (getItem ov iv)
end L2
namespace CT
open PySem
noncomputable def cy (env:Env):List (Str×NameKind)->List (Str×Addr)->List (Str×Addr)
 |[],acc=>acc
 |(n,k)::r,acc=>if k==.free then cy env r ((n,(env.cells.lookup n).getD 0)::acc) else cy env r acc
theorem nq {env:Env} (f:Str×NameKind->List (Str×Addr)->Sem (ForInStep (List (Str×Addr))))
  (hf:∀n k acc,f (n,k) acc=if k==.free then (do let c←cellOf env n;pure (.yield ((n,c)::acc))) else pure (.yield acc)):
  ∀(names:List (Str×NameKind)) (acc:List (Str×Addr)),(∀x∈names,x.2=.free->∃c,env.cells.lookup x.1=some c)->forIn names acc f=pure (cy env names acc)
 |[],acc,_=>by rw [List.forIn_nil];rfl
 |(n,k)::r,acc,h=>by
  have hr:∀x∈r,x.2=.free->∃c,env.cells.lookup x.1=some c:=fun x hx=>h x (List.mem_cons_of_mem _ hx)
  rw [List.forIn_cons,hf]
  unfold cy
  by_cases hk:(k==NameKind.free)=true
  ·rw [if_pos hk,if_pos hk]
   obtain ⟨c,hc⟩:=h (n,k) List.mem_cons_self (beq_iff_eq.mp hk)
   have hc':env.cells.lookup n=some c:=hc
   rw [hc']
   simp only [cellOf,hc',pure_bind,Option.getD_some]
   exact nq f hf r _ hr
  ·rw [if_neg hk,if_neg hk]
   simp only [pure_bind]
   exact nq f hf r _ hr
theorem fX {scope:Scope} {env:Env} (h:∀x∈scope.names,x.2=.free->∃c,env.cells.lookup x.1=some c):closureFor scope env=pure (cy env scope.names []):=by
 simp only [closureFor]
 rw [nq (env:=env) _ (fun n k acc=>by cases hk:k==NameKind.free<;>simp [hk]) _ _ h]
 rfl
theorem fW {α:Type} {x:Str} {v:α}:∀{l:List (Str×α)},(l.map (·.1)).Nodup->(x,v)∈l->l.lookup x=some v
 |(k,u)::r,hn,hm=>by
  rw [List.map_cons,List.nodup_cons] at hn
  rw [List.lookup_cons]
  rcases List.mem_cons.mp hm with e|hm
  ·cases e;simp
  ·have:x≠k:=fun e=>hn.1 (e▸List.mem_map.mpr ⟨(x,v),hm,rfl⟩)
   rw [beq_false_of_ne this]
   exact fW hn.2 hm
theorem eT {α:Type} {x:Str} {v:α}:∀{l:List (Str×α)},(x,v)∈l->∃u,l.lookup x=some u
 |(k,u)::r,hm=>by
  rw [List.lookup_cons]
  rcases List.mem_cons.mp hm with e|hm
  ·cases e;exact ⟨v,by simp⟩
  ·cases x==k with
   |true=>exact ⟨u,rfl⟩
   |false=>exact eT hm
theorem hB {env:Env} {p:Str×Addr}:∀{names:List (Str×NameKind)} {acc:List (Str×Addr)},p∈acc->p∈cy env names acc
 |[],_,h=>h
 |(n,k)::r,acc,h=>by
  unfold cy
  split
  ·exact hB (List.mem_cons_of_mem _ h)
  ·exact hB h
theorem iw {env:Env} {n:Str} {c:Addr}:∀{names:List (Str×NameKind)} {acc:List (Str×Addr)},(∀x∈names,x.2=.free->∃c,env.cells.lookup x.1=some c)->(n,c)∈cy env names acc->
  (n,c)∈acc∨(env.cells.lookup n=some c∧(n,NameKind.free)∈names)
 |[],_,_,h=>.inl h
 |(m,k)::r,acc,hf,h=>by
  have hr:∀x∈r,x.2=.free->∃c,env.cells.lookup x.1=some c:=fun x hx=>hf x (List.mem_cons_of_mem _ hx)
  unfold cy at h
  split at h
  ·rename_i hk
   have hk':k=.free:=beq_iff_eq.mp hk
   obtain ⟨c',hc⟩:=hf (m,k) List.mem_cons_self hk'
   have hc':env.cells.lookup m=some c':=hc
   rcases iw hr h with h|⟨h1,h2⟩
   ·rcases List.mem_cons.mp h with e|h
    ·rw [hc'] at e;cases e
     exact .inr ⟨hc',by rw [hk'];exact List.mem_cons_self⟩
    ·exact .inl h
   ·exact .inr ⟨h1,List.mem_cons_of_mem _ h2⟩
  ·rcases iw hr h with h|⟨h1,h2⟩
   ·exact .inl h
   ·exact .inr ⟨h1,List.mem_cons_of_mem _ h2⟩
theorem k8 {env:Env} {n:Str} {c:Addr} (hc:env.cells.lookup n=some c):∀{names:List (Str×NameKind)} {acc:List (Str×Addr)},(n,NameKind.free)∈names->(n,c)∈cy env names acc
 |(m,k)::r,acc,h=>by
  unfold cy
  rcases List.mem_cons.mp h with e|h
  ·cases e
   rw [if_pos (by decide),hc]
   exact hB List.mem_cons_self
  ·split<;>exact k8 hc h
theorem bu:∀(names:List (Str×NameKind)) (n:Nat) (acc:List (Str×Addr)),cellsFrom n names acc=cellsFrom n names []++acc
 |[],_,_=>rfl
 |(m,k)::r,n,acc=>by
  unfold cellsFrom
  split
  ·rw [bu r (n+1) ((m,n)::acc),bu r (n+1) [(m,n)],List.append_assoc];rfl
  ·exact bu r n acc
theorem dO {x:Str} {c:Addr}:∀{names:List (Str×NameKind)} {n:Nat} {acc:List (Str×Addr)},(x,c)∈cellsFrom n names acc->(x,c)∈acc∨(x,NameKind.cell)∈names
 |[],_,_,h=>.inl h
 |(m,k)::r,n,acc,h=>by
  unfold cellsFrom at h
  split at h
  ·rename_i hk
   have hk':k=.cell:=beq_iff_eq.mp hk
   rcases dO h with h|h
   ·rcases List.mem_cons.mp h with e|h
    ·cases e;exact .inr (by rw [hk'];exact List.mem_cons_self)
    ·exact .inl h
   ·exact .inr (List.mem_cons_of_mem _ h)
  ·rcases dO h with h|h
   ·exact .inl h
   ·exact .inr (List.mem_cons_of_mem _ h)
theorem dS {x:Str}:∀{names:List (Str×NameKind)} {n:Nat} {acc:List (Str×Addr)},(x,NameKind.cell)∈names->∃c,(x,c)∈cellsFrom n names acc
 |(m,k)::r,n,acc,h=>by
  unfold cellsFrom
  rcases List.mem_cons.mp h with e|h
  ·cases e
   rw [if_pos (by decide),bu]
   exact ⟨n,List.mem_append_right _ List.mem_cons_self⟩
  ·split
   ·exact dS h
   ·exact dS h
theorem lookup_map2 {α β:Type} {f:Str->α->β} {x:Str}:∀{l:List (Str×α)},(l.map fun p=>(p.1,f p.1 p.2)).lookup x=(l.lookup x).map (f x)
 |[]=>rfl
 |(n,k)::r=>by
  rw [List.map_cons,List.lookup_cons,List.lookup_cons]
  by_cases hx:x=n
  ·subst hx;simp
  ·rw [beq_false_of_ne hx];exact lookup_map2
noncomputable def kin (env:Env) (x:Str) (k:NameKind):NameKind:=if (k==NameKind.free&&env.scope.kind==.function&&env.kindOf x==some .cell)=true then .cell else k
theorem jf {env:Env} {x:Str} {names:List (Str×NameKind)}:
  (names.map fun (n,k)=>if (k==NameKind.free&&env.scope.kind==.function&&env.kindOf n==some .cell) then (n,NameKind.cell) else (n,k)).lookup x=(names.lookup x).map (kin env x):=by
 rw [←lookup_map2 (f:=kin env)]
 congr 1
 refine List.map_congr_left fun p _=>?_
 obtain ⟨n,k⟩:=p
 show (if _ then _ else _)=(n,if _ then _ else _)
 split<;>rfl
theorem km {M:Model} {A:Around} {E:Value->Shared->Prop} {s:Shared} {scope:Scope} {globals:Addr} {cl:List (Str×Addr)} {qual:Str} {env:Env} {Q:Env->Shared->Prop}
  (h:Q {scope:=scope,locals:=s.heap.objs.size,globals:=globals,cells:=cellsFrom (s.heap.objs.size+1) scope.names cl,qual:=qual,func:=none,code:=env.code,frame:=env.frame,builtins:=env.builtins}
   {s with heap:=pushCells (s.heap.push {cls:=.type "dict",data:=.dict #[]}) scope.names}):
  wpAny M A (newFunctionEnv scope globals cl [] qual none .none (some env)) Q E s:=by
 simp only [newFunctionEnv,Option.isSome_some,if_true]
 refine wpAny_bind (wpAny_alloc ?_)
 refine wpAny_bind (wpAny_layCells _ (fun name kind cells=>by cases hkc:kind==NameKind.cell<;>simp [hkc]) _ _ _ _ ?_)
 rw [show ({s with heap:=s.heap.push {cls:=.type "dict",data:=.dict #[]}}:Shared).heap.objs.size=s.heap.objs.size+1 from Heap.size_push ..]
 simp only [List.forIn_nil,pure_bind]
 exact wpAny_pure h
noncomputable def aS (elt:Expr) (gens:List Comprehension) (scope:Scope) (pos:Pos) (d:Nat) (acc:Value) (env:Env):Sem Unit:=
 match gens[d+1]? with
 |some g'=>do
  let x←eval g'.iter env
  standAt g'.iter.pos
  let x←if g'.is_async !=0 then foldedIterable g'.iter x else foldedSetIterable g'.iter env x
  let _←runOwn (.compStart (.ListComp elt gens scope pos) (d+1) (←holding [x] (if g'.is_async !=0 then asyncIter x else pyIter x)) acc env) env
 |none=>do let _←call (.builtin "list.append") [acc,←eval elt env]
theorem dy (elt:Expr) (gens:List Comprehension) (scope:Scope) (pos:Pos) (d:Nat) (it acc:Value) (env:Env) {tg iter:Expr} {ifs:List Expr} (hg:gens[d]?=some ⟨tg,iter,ifs,0⟩):
  compTurn (.ListComp elt gens scope pos) d it acc env=(standAt iter.pos>>=fun _=>pyNext it>>=fun r=>match r with
   |none=>pure (.done .next)
   |some v=>letOwnedTupleGo tg it v>>=fun _=>assign tg env v>>=fun _=>
    (forIn ifs true fun c r=>if r=true then do let ok←isTrue c env (eval c env);pure (ForInStep.yield ok) else pure (ForInStep.yield r))>>=fun ok=>
     (if ok=true then aS elt gens scope pos d acc env else pure ())>>=fun _=>again (.compLoop (.ListComp elt gens scope pos) d it acc env)):=by
 unfold compTurn aS
 simp only [hg,show ((0:Int) !=0)=false from rfl,Bool.false_eq_true,if_false]
 congr 1
 funext _
 congr 1
 funext r
 cases r with
 |none=>rfl
 |some v=>
  dsimp only
  congr 1;funext _
  congr 1;funext _
  congr 1;funext ok
  cases ok with
  |false=>simp
  |true=>
   simp only [if_true]
   cases gens[d+1]? with
   |none=>rfl
   |some g'=>
    by_cases ha:(g'.is_async !=0)=true
    ·simp [ha,bind_assoc]
    ·simp [ha,bind_assoc]
section
variable {prog:Program} {w:World} {A:Around} {R:Result->Shared->Prop} {s:Shared}
theorem eC {elt:Expr} {gens:List Comprehension} {scope:Scope} {pos:Pos} {d:Nat} {it acc:Value} {env:Env} {tg iter:Expr} {ifs:List Expr} (hg:gens[d]?=some ⟨tg,iter,ifs,0⟩)
  (h0:codeAny (model prog w) A (.compLoop (.ListComp elt gens scope pos) d it acc env) R s)
  (h:wpAny (model prog w) A (pyIter it) (fun it' s'=>codeAny (model prog w) A (.compLoop (.ListComp elt gens scope pos) d it' acc env) R s') (notedBy (model prog w) A env fun x s'=>R (.error x) s') s):
  codeAny (model prog w) A (.compStart (.ListComp elt gens scope pos) d it acc env) R s:=by
 refine codeAny_of_tree ?_
 show wpAny _ _ ((compStart (.ListComp elt gens scope pos) d it acc env).onRaise (fun x=>do noteFrame x env;standAt theWindowsPlace)) _ _ s
 refine wpAny_notedAt ?_
 unfold compStart
 have e:(clausesOf (.ListComp elt gens scope pos))[d]?=some ⟨tg,iter,ifs,0⟩:=hg
 rw [e]
 show wpAny _ _ (ask>>=_) _ _ s
 refine wpAny_bind (wpAny_askSetting (wpAny_ite ?_))
 split
 ·first
   |exact wpAny_bind (wpAny_pure (wpAny_pure (And.intro rfl h0)))
   |exact wpAny_pure (And.intro rfl h0)
 ·first
   |exact wpAny_bind (wpAny_rule (wpAny_bind (wpAny_standAt (wpAny_bind (wpAny_mono h (fun it' s' h'=>wpAny_pure (And.intro rfl h')) fun _ _ x=>x)))))
   |(refine wpAny_bind (wpAny_rule ?_);show wpAny _ _ (standAt iter.pos>>=_) _ _ s;exact wpAny_bind (wpAny_standAt (wpAny_bind (wpAny_mono h (fun it' s' h'=>wpAny_pure (And.intro rfl h')) fun _ _ x=>x))))
end
end CT
namespace CT
open PySem PySem.Spec L2
open PyProof.Rows hiding St
noncomputable def cM (X:Cx) (scope:Scope) (n0:Nat):Env:=
 {scope:=relabel scope X.env,locals:=n0+1,globals:=X.env.globals,cells:=cellsFrom (n0+2) scope.names (cy X.env scope.names []),qual:=X.env.qual,func:=none,code:=X.env.code,frame:=X.env.frame,builtins:=X.env.builtins}
structure CS (X:Cx) (scope:Scope) (own:List Str) (cap:List (Str×Nat)):Prop where
 kind:scope.kind=.function
 nd:(scope.names.map (·.1)).Nodup
 fr:∀x∈scope.names,x.2=.free->X.env.kindOf x.1=some .cell∨X.env.kindOf x.1=some .free
 AS:∀x∈own,(x,NameKind.local)∈scope.names∨(x,NameKind.cell)∈scope.names
 AY:∀p∈cap,X.N[p.2]?=some p.1∧(p.1,NameKind.free)∈scope.names
 nN:(own++cap.map (·.1)).Nodup
noncomputable def cX (X:Cx) (scope:Scope) (own:List Str) (cap:List (Str×Nat)) (pins:List (Addr×Obj)) (s₂:Shared) (H₂:Hp) (fp:List Addr):Cx:=
 {prog:=X.prog,w:=X.w,K:=X.K,mg:=X.mg,base:=X.base,A:=X.A,N:=own++cap.map (·.1),s₀:=s₂,H₀:=H₂,env:=cM X scope s₂.heap.objs.size,outer:=X.stack,stack:=X.stack,ex:=fp,
  fn:=fun x=>decide (x∈own),calm:=X.calm,pn:=X.pn++pins,xe:=fun _ _=>False}
noncomputable def cS (own:List Str) (cap:List (Str×Nat)) (σ:St):St:=own.map (fun _=>none)++cap.map fun p=>(σ[p.2]?).join
section
variable {X:Cx} {scope:Scope} {own:List Str} {cap:List (Str×Nat)} {pins:List (Addr×Obj)} {σ:St} {H:Hp} {s:Shared} {fp:List Addr}
theorem CS.lk (cs:CS X scope own cap) {x:Str} {k:NameKind} (h:(x,k)∈scope.names):scope.names.lookup x=some k:=fW cs.nd h
theorem CS.uniq (cs:CS X scope own cap) {x:Str} {k k':NameKind} (h:(x,k)∈scope.names) (h':(x,k')∈scope.names):k=k':=Option.some.inj ((cs.lk h).symm.trans (cs.lk h'))
theorem g7 {n0:Nat} {x:Str}:(cM X scope n0).kindOf x=(scope.names.lookup x).map (kin X.env x):=jf
theorem d_ {x:Str} {c:Addr}:∀{names:List (Str×NameKind)} {n:Nat} {acc:List (Str×Addr)},(x,c)∈cellsFrom n names acc->(x,c)∈acc∨n<=c
 |[],_,_,h=>.inl h
 |(m,k)::r,n,acc,h=>by
  unfold cellsFrom at h
  split at h
  ·rcases d_ h with h|h
   ·rcases List.mem_cons.mp h with e|h
    ·cases e;exact .inr (Nat.le_refl _)
    ·exact .inl h
   ·exact .inr (Nat.le_of_succ_le h)
  ·exact d_ h
theorem CS.nV (cs:CS X scope own cap) (ok:X.Ok):∀x∈scope.names,x.2=.free->∃c,X.env.cells.lookup x.1=some c:=fun x hx e=>ok.has x.1 (cs.fr x hx e)
theorem CS.ba (cs:CS X scope own cap) (ok:X.Ok) {n0:Nat} {x:Str} {c:Addr} (h:(cM X scope n0).cells.lookup x=some c):
  ((x,NameKind.cell)∈scope.names∧n0+2<=c∧(x,c)∈cellsFrom (n0+2) scope.names [])∨((x,NameKind.free)∈scope.names∧X.env.cells.lookup x=some c):=by
 have hm:(x,c)∈cellsFrom (n0+2) scope.names (cy X.env scope.names []):=mem_of_lookup h
 rw [bu] at hm
 rcases List.mem_append.mp hm with hm|hm
 ·refine .inl ⟨?_,?_,hm⟩
  ·rcases dO hm with z|z
   ·cases z
   ·exact z
  ·rcases d_ hm with z|z
   ·cases z
   ·exact z
 ·rcases iw (cs.nV ok) hm with z|⟨z1,z2⟩
  ·cases z
  ·exact .inr ⟨z2,z1⟩
theorem CS.kH (cs:CS X scope own cap) (ok:X.Ok) {n0:Nat} {x:Str} {c:Addr} (hx:(x,NameKind.free)∈scope.names) (hc:X.env.cells.lookup x=some c):(cM X scope n0).cells.lookup x=some c:=by
 have hm:(x,c)∈cellsFrom (n0+2) scope.names (cy X.env scope.names []):=by
  rw [bu]
  exact List.mem_append_right _ (k8 hc hx)
 obtain ⟨u,hu⟩:=eT hm
 have hu':(cM X scope n0).cells.lookup x=some u:=hu
 rcases cs.ba ok hu' with ⟨z,_⟩|⟨_,z⟩
 ·cases cs.uniq hx z
 ·rw [hc] at z;cases z;exact hu'
theorem CS.qP (cs:CS X scope own cap) {n0:Nat} {x:Str} (hx:(x,NameKind.cell)∈scope.names):∃c,(cM X scope n0).cells.lookup x=some c:=by
 obtain ⟨c,hc⟩:=dS (n:=n0+2) (acc:=cy X.env scope.names []) hx
 exact eT hc
theorem zP (I:Inv X pins σ H s) (cs:CS X scope own cap) (hf:∀b∈fp,aY X pins H b) (hlt:∀b∈fp,b<s.heap.objs.size):(cX X scope own cap pins s H fp).Ok where
 mod:=I.ok.mod
 kind:=cs.kind
 glob:=I.ok.glob
 blt:=I.ok.blt
 above:=Nat.le_succ _
 inj:=fun x y c h1 h2=>by
  rcases cs.ba I.ok h1 with ⟨a1,a2,a3⟩|⟨a1,a2⟩<;>rcases cs.ba I.ok h2 with ⟨b1,b2,b3⟩|⟨b1,b2⟩
  ·have k:=cellsFrom_ok scope.names ((s.heap.push {cls:=.type "list",data:=.seq #[] 0}).push {cls:=.type "list",data:=.seq #[] 0}) 0 [] ⟨fun _ _ hm=>(nomatch hm),List.Pairwise.nil⟩ (Nat.zero_le _)
   rw [Heap.size_push,Heap.size_push] at k
   exact name_of_addr k.apart a3 b3
  ·obtain ⟨v,hv⟩:=I.cell y c b2
   exact absurd (Nat.lt_of_lt_of_le hv.lt (Nat.le_trans (Nat.le_add_right _ 2) a2)) (Nat.lt_irrefl _)
  ·obtain ⟨v,hv⟩:=I.cell x c a2
   exact absurd (Nat.lt_of_lt_of_le hv.lt (Nat.le_trans (Nat.le_add_right _ 2) b2)) (Nat.lt_irrefl _)
  ·exact I.ok.inj x y c a2 b2
 has:=fun x hx=>by
  have e:(cM X scope s.heap.objs.size).kindOf x=(scope.names.lookup x).map (kin X.env x):=g7
  have hx':(scope.names.lookup x).map (kin X.env x)=some .cell∨(scope.names.lookup x).map (kin X.env x)=some .free:=by rw [←e];exact hx
  cases hk:scope.names.lookup x with
  |none=>rw [hk] at hx';rcases hx' with z|z<;>cases z
  |some k=>
   rw [hk] at hx'
   have hm:=mem_of_lookup hk
   by_cases hfree:k=.free
   ·subst hfree
    obtain ⟨c,hc⟩:=cs.nV I.ok _ hm rfl
    exact ⟨c,cs.kH I.ok hm hc⟩
   ·have hkk:kin X.env x k=k:=by
     unfold kin
     rw [if_neg]
     intro z
     have:(k==NameKind.free)=false:=by simpa using hfree
     rw [this] at z;cases z
    have hk':k=.cell:=by
     rcases hx' with z|z
     ·have z':some (kin X.env x k)=some NameKind.cell:=z
      rw [hkk] at z';exact Option.some.inj z'
     ·have z':some (kin X.env x k)=some NameKind.free:=z
      rw [hkk] at z';exact absurd (Option.some.inj z') hfree
    subst hk'
    exact cs.qP hm
 cab:=fun x c hx hc=>by
  have hx':x∈own:=of_decide_eq_true hx
  rcases cs.ba I.ok hc with ⟨_,a,_⟩|⟨a,_⟩
  ·exact Nat.le_trans (Nat.le_add_right _ 2) a
  ·rcases cs.AS x hx' with z|z<;>cases cs.uniq a z
 hd:=I.ok.hd
 frames:=I.ok.frames
 stk:=.inl rfl
 exf:=fun b hb=>⟨Nat.ne_of_lt (Nat.lt_succ_of_lt (hlt b hb)),fun x c hc=>by
  rcases cs.ba I.ok hc with ⟨_,a,_⟩|⟨_,a⟩
  ·exact Nat.ne_of_gt (Nat.lt_of_lt_of_le (hlt b hb) (Nat.le_trans (Nat.le_add_right _ 2) a))
  ·exact (hf b hb).2.2.2.2.1 x c a⟩
 bs:=fun b o e=>I.bs b o e
 bsz:=Nat.le_trans I.ok.bsz I.sz
 fA:=fun b o e hb=>by
  rcases (hf b hb).2.2.2.1 with z|z
  ·exact I.ok.fA b o e z
  ·exact absurd (Nat.lt_of_lt_of_le (Heap.lt_size e) (Nat.le_trans I.ok.bsz z)) (Nat.lt_irrefl _)
 ie:=fun b hb z=>by
  rcases List.mem_cons.mp (I.fv b z) with z|z
  ·exact (hf b hb).2.1 z
  ·exact (hf b hb).2.2.1 z
 cJ:=I.stack
 frf:=I.jh
theorem rE {env:Env} {x:Str} (h:env.kindOf x=some .cell∨env.kindOf x=some .free):kin env x .free=.cell∨kin env x .free=.free:=by
 unfold kin;split
 ·exact .inl rfl
 ·exact .inr rfl
theorem sv (I:Inv X pins σ H s) (cs:CS X scope own cap) (hf:∀b∈fp,aY X pins H b) (hlt:∀b∈fp,b<s.heap.objs.size) {o:Obj} (hof:o.isFreed=false):
  Inv (cX X scope own cap pins s H fp) [] (cS own cap σ) H {s with heap:=pushCells ((s.heap.push o).push {cls:=.type "dict",data:=.dict #[]}) scope.names}:=by
 have kp:∀b u,s.heap.get? b=some u->(pushCells ((s.heap.push o).push {cls:=.type "dict",data:=.dict #[]}) scope.names).get? b=some u:=fun b u e=>pushCells_keeps _ _ b u (Heap.get?_push_of_some _ (Heap.get?_push_of_some _ e))
 have ck:=cellsFrom_ok scope.names ((s.heap.push o).push {cls:=.type "dict",data:=.dict #[]}) 0 [] ⟨fun _ _ hm=>(nomatch hm),List.Pairwise.nil⟩ (Nat.zero_le _)
 rw [Heap.size_push,Heap.size_push] at ck
 refine ⟨zP I cs hf hlt,rfl,I.bare,Un.kept kp,?_,?_,I.hok.fresh (Nat.le_succ _),?_,?_,I.hok.kept kp,?_⟩
 ·refine ⟨fun _=>none,?_,fun i x v e1 e2 e3=>?_⟩
  ·have n:=Heap.Ns.new (s.heap.push o) (.type "dict")
   rw [Heap.size_push] at n
   exact n.keeps (pushCells_keeps _ _)
  ·have e1':(own++cap.map (·.1))[i]?=some x:=e1
   have e2':(own.map (fun _=>(none:Option V))++cap.map fun p=>(σ[p.2]?).join)[i]?=some (some v):=e2
   by_cases hi:i<own.length
   ·rw [List.getElem?_append_left (by simpa using hi),List.getElem?_map] at e2'
    cases hq:own[i]? with
    |none=>rw [hq] at e2';cases e2'
    |some y=>rw [hq] at e2';cases e2'
   ·have hi':own.length<=i:=Nat.le_of_not_lt hi
    rw [List.getElem?_append_right hi',List.getElem?_map] at e1'
    rw [List.getElem?_append_right (by simpa using hi'),List.getElem?_map,List.length_map] at e2'
    cases hq:cap[i - own.length]? with
    |none=>rw [hq] at e1';cases e1'
    |some p=>
     rw [hq] at e1' e2'
     have e1'':p.1=x:=Option.some.inj e1'
     have e2'':(σ[p.2]?).join=some v:=Option.some.inj e2'
     subst e1''
     have e2s:σ[p.2]?=some (some v):=by
      cases hs:σ[p.2]? with
      |none=>rw [hs] at e2'';cases e2''
      |some y=>rw [hs] at e2'';rw [show y=some v from e2'']
     obtain ⟨hN,hfree⟩:=cs.AY p (List.mem_of_getElem? hq)
     have hkk:=cs.fr _ hfree rfl
     have vis:Vis X.env.scope p.1:=hkk.elim (fun z=>.inr (.inl z)) fun z=>.inr (.inr z)
     obtain ⟨m,hn,hl⟩:=I.loc
     obtain ⟨u,r,l⟩:=hl p.2 p.1 v hN e2s vis
     refine ⟨u,r,.inr ⟨?_,?_⟩⟩
     ·have e:(cM X scope s.heap.objs.size).kindOf p.1=(scope.names.lookup p.1).map (kin X.env p.1):=g7
      rw [cs.lk hfree] at e
      rcases rE hkk with z|z
      ·exact .inl (e.trans (congrArg some z))
      ·exact .inr (e.trans (congrArg some z))
     ·rcases l with ⟨lk,_⟩|⟨_,c,hc,hcell⟩
      ·rcases hkk with z|z<;>(rw [z] at lk;cases lk)
      ·exact ⟨c,cs.kH I.ok hfree hc,hcell.keeps kp⟩
 ·intro x c hc
  rcases cs.ba I.ok hc with ⟨_,_,a⟩|⟨_,a⟩
  ·exact ⟨_,(ck.empty x c a).1⟩
  ·obtain ⟨v,hv⟩:=I.cell x c a
   exact ⟨v,hv.keeps kp⟩
 ·intro x c hc
  rcases cs.ba I.ok hc with ⟨_,a,_⟩|⟨_,a⟩
  ·exact I.hok.fresh (Nat.le_trans (Nat.le_add_right _ 2) a)
  ·exact I.bF x c a
 ·intro p hp
  have hp':p∈X.pn++pins:=by simpa [cX] using hp
  obtain ⟨e,n,ne,nf,d⟩:=I.pin p hp'
  refine ⟨kp _ _ e,n,Nat.ne_of_lt (Nat.lt_succ_of_lt (Heap.lt_size e)),fun z=>?_,d⟩
  rcases List.mem_cons.mp (I.fv p.1 z) with z|z
  ·exact ne z
  ·exact nf z
 ·simp [cX,cS]
noncomputable def Acc (h:Heap) (acc:Addr) (ys:List V):Prop:=∃its:List Value,Vals ys its∧h.PlainList acc its.toArray
theorem Acc.at {h h':Heap} {acc:Addr} {ys:List V} (x:Acc h acc ys) (k:∀o,h.get? acc=some o->h'.get? acc=some o):Acc h' acc ys:=let ⟨its,r,p⟩:=x;⟨its,r,p.at k⟩
theorem Acc.obj {h:Heap} {acc:Addr} {ys:List V} (x:Acc h acc ys):∃o,h.get? acc=some o∧∀v,o.data≠.cell v:=by
 obtain ⟨its,r,n,e⟩:=x
 exact ⟨_,e,fun v z=>by
  have z':Data.seq _ _=Data.cell v:=z
  cases z'⟩
end
structure AK (α:Type) where
 ac:Heap->Addr->α->Prop
 kept:∀{h h':Heap} {acc:Addr} {ys:α},ac h acc ys->(∀o,h.get? acc=some o->h'.get? acc=some o)->ac h' acc ys
 obj:∀{h:Heap} {acc:Addr} {ys:α},ac h acc ys->∃o,h.get? acc=some o∧∀v,o.data≠.cell v
noncomputable def nO:AK (List V):=⟨Acc,Acc.at,Acc.obj⟩
noncomputable abbrev TBg (α:Type):=St->Hp->α->(α->Hp->Prop)->Prop
noncomputable abbrev TB:=TBg (List V)
noncomputable def PBg {α:Type} (B:AK α) (Y:Cx) (acc:Addr) (m:Sem Unit) (t:TBg α):Prop:=
 ∀(pins:List (Addr×Obj)) (s:Shared) (σ:St) (H:Hp) (ys:α) (Q:α->Hp->Prop),Inv Y pins σ H s->aY Y pins H acc->B.ac s.heap acc ys->t σ H ys Q->
  wpAny (model Y.prog Y.w) Y.A m (fun _ s'=>∃ys' H',Inv Y pins σ H' s'∧H' acc=none∧B.ac s'.heap acc ys'∧Q ys' H') Y.xe s
noncomputable abbrev PB (Y:Cx) (acc:Addr) (m:Sem Unit) (t:TB):Prop:=PBg nO Y acc m t
noncomputable def PTs (Y:Cx) (ifs:List Expr) (t:TT):Prop:=
 ∀(pins:List (Addr×Obj)) (s:Shared) (σ:St) (H:Hp) (Q:Bool->Hp->Prop),Inv Y pins σ H s->t σ H Q->
  wpAny (model Y.prog Y.w) Y.A (forIn ifs true fun c r=>if r=true then do let ok←isTrue c Y.env (eval c Y.env);pure (ForInStep.yield ok) else pure (ForInStep.yield r)) (TP Y pins σ Q) Y.xe s
noncomputable def Aq:TT:=fun _ H Q=>Q true H
theorem jF {P:Addr->Prop} {a:Addr} (h:P a):∀b∈[a],P b:=fun b hb=>by
 have e:b=a:=by simpa using hb
 rw [e];exact h
section
variable {Y:Cx} {acc:Addr}
theorem uE:PTs Y [] Aq:=fun _ _ _ H _ I h=>wpAny_pure ⟨H,I,h⟩
theorem vv {c:Expr} {t:TT} (h:PT Y c t):PTs Y [c] t:=fun pins s σ H Q I hw=>by
 simp only [List.forIn_cons,List.forIn_nil,if_true]
 exact wpAny_bind (wpAny_bind (thn (h pins s σ H Q I hw) fun b s' hb=>wpAny_pure (wpAny_pure hb)))
noncomputable def zv (te:TE):TB:=fun σ H ys Q=>ys.length<=sizeLine∧te σ H fun v H1=>Q (ys++[v]) H1
theorem vq {elt:Expr} {te:TE} (he:PE Y elt te):PB Y acc (do let _←call (.builtin "list.append") [.ref acc,←eval elt Y.env]) (zv te):=by
 intro pins s σ H ys Q I hf ha h
 obtain ⟨hz,h⟩:=h
 have I1:=I.pinned (fp:=[acc]) (jF hf) (jF ha.obj)
 refine wpAny_bind (thn (he _ s σ H _ I1 h) fun u s1 ⟨v,H1,I2,r,q⟩=>?_)
 obtain ⟨o,eo,_⟩:=ha.obj
 have pin:=I2.pin (acc,o) (List.mem_append_right _ (List.mem_append_right _ (bG (by simp) eo)))
 have ha1:Acc s1.heap acc ys:=ha.at fun o' e'=>by rw [eo] at e';cases e';exact pin.1
 obtain ⟨its,rv,pl⟩:=ha1
 obtain ⟨f0,f1,f2,f3,f4,f5⟩:=hf
 refine wpAny_bind (wpAny_list_append_plain pl (fun h' pl' sb=>wpAny_pure ?_) ?_)
 ·have I3:Inv Y pins σ H1 {s1 with heap:=h'}:=I2.b9.turned (t':=s1.toks) (fun b o hb e=>(sb.2 b hb).trans e) pin.2.1 f1 f3 f4 f5
  exact ⟨ys++[v],H1,I3,pin.2.1,⟨its++[u],rv.append (.cons r .nil),by simpa using pl'⟩,q⟩
 ·have:=rv.length
  simp only [List.size_toArray]
  omega
noncomputable def Fgt (σ σ':St):Prop:=σ.length=σ'.length∧∀(i:Nat) v,σ[i]?=some (some v)->σ'[i]?=some (some v)
noncomputable def i5 {α:Type} (g:TG) (tt:TT) (tb:TBg α) (J:It) (σ:St) (H:Hp) (ys:α) (Q:α->Hp->Prop):Prop:=
 ∃W:Nat->Nat->α->Hp->Prop,(∃m,W 0 m ys H)∧∀i m ys H,W i m ys H->
  (J.stop i H∧Q ys H)∨(J.go i H∧∀x H',J.yld i H x H'->g x σ H' fun σ2 H2=>Fgt σ σ2∧tt σ2 H2 fun b H3=>
   if b=true then tb σ2 H3 ys fun ys' H4=>∃m',m'<m∧W (i+1) m' ys' H4 else ∃m',m'<m∧W (i+1) m' ys H3)
noncomputable def kZ (P:Program) (w:World) (node:Expr) (d:Nat) (it acc:Value) (env:Env):Prop:=(∀A:Around,A.under (.compLoop node d it acc env)=A)∧(model P w).den (.compLoop node d it acc env)=(compTurn node d it acc env).onRaise (fun x=>do noteFrame x env;theTreesLotGoes x)
theorem kB {P:Program} {w:World} {elt:Expr} {gens:List Comprehension} {scope:Scope} {pos:Pos} {d:Nat} {it acc:Value} {env:Env}:kZ P w (.ListComp elt gens scope pos) d it acc env:=⟨fun _=>rfl,rfl⟩
noncomputable def pZ (node:Expr) (d:Nat) (tg iter:Expr) (ifs:List Expr) (it acc:Value) (env:Env) (ins:Sem Unit):Prop:=
 compTurn node d it acc env=(standAt iter.pos>>=fun _=>pyNext it>>=fun r=>match r with
   |none=>pure (.done .next)
   |some v=>letOwnedTupleGo tg it v>>=fun _=>assign tg env v>>=fun _=>
    (forIn ifs true fun c r=>if r=true then do let ok←isTrue c env (eval c env);pure (ForInStep.yield ok) else pure (ForInStep.yield r))>>=fun ok=>
     (if ok=true then ins else pure ())>>=fun _=>again (.compLoop node d it acc env))
theorem gj {α:Type} {B:AK α} {node:Expr} {d:Nat} {tg iter:Expr} {ifs:List Expr} {ins:Sem Unit} {it:Addr} (hd:kZ Y.prog Y.w node d (.ref it) (.ref acc) Y.env) (hg:pZ node d tg iter ifs (.ref it) (.ref acc) Y.env ins) {g:TG} {tt:TT} {tb:TBg α} (hc:Y.calm=true) (hx:∀e s,Y.xe e s->False)
  (h1:PG Y tg g) (h2:PTs Y ifs tt) (h3:PBg B Y acc ins tb)
  {J:It} {fp:List Addr} {tn:Nat->Heap->Prop} (T:Turn Y.prog Y.w Y.K tg J fp it tn) (hac:acc∉fp)
  {pins:List (Addr×Obj)} {s:Shared} {σ:St} {H:Hp} {ys:α} {Q:α->Hp->Prop} {R:Result->Shared->Prop} (I:Inv Y pins σ H s) (st:tn 0 s.heap) (hf:∀b∈fp,aY Y pins H b) (ha:aY Y pins H acc) (ac:B.ac s.heap acc ys)
  (h:i5 g tt tb J σ H ys Q) (hR:∀s' ys' H',Inv Y pins σ H' s'->H' acc=none->B.ac s'.heap acc ys'->Q ys' H'->R (.ok .next) s'):
  codeAny (model Y.prog Y.w) Y.A (.compLoop node d (.ref it) (.ref acc) Y.env) R s:=by
 obtain ⟨W,⟨m0,w0⟩,turn⟩:=h
 have stat:∀{H':Hp},(∀b∈fp,H' b=none)->∀b∈fp,aY Y pins H' b:=fun hn b hb=>⟨hn b hb,(hf b hb).2⟩
 have nox:∀{E:Value->Shared->Prop} {α:Type} {m:Sem α} {P:α->Shared->Prop} {s:Shared},wpAny (model Y.prog Y.w) Y.A m P Y.xe s->wpAny (model Y.prog Y.w) Y.A m P E s:=fun h=>wpAny_mono h (fun _ _ q=>q) fun _ _ z=>(hx _ _ z).elim
 refine codeAny_loop rfl (fun n s'=>∃i H' ys',Inv Y pins σ H' s'∧tn i s'.heap∧(∀b∈fp,H' b=none)∧H' acc=none∧B.ac s'.heap acc ys'∧W i n ys' H') ?_ m0 ⟨0,H,ys,I,st,fun b hb=>(hf b hb).1,ha.1,ac,w0⟩
 rintro n s3 ⟨i,H3,ys3,I3,st3,fr3,an3,ac3,w3⟩
 rw [hd.1,hd.2]
 refine wpAny_noted ?_
 rw [hg]
 refine wpAny_bind (wpAny_standAt (wpAny_bind ?_))
 obtain ⟨oa,ea,da⟩:=(B.obj ac3)
 have fa3:aY Y pins H3 acc:=⟨an3,ha.2⟩
 have J3:Inv Y (pins++bN [acc] s3.heap) σ H3 s3:=I3.pinned (fp:=[acc]) (jF fa3) (jF (B.obj ac3))
 have inpa:(acc,oa)∈bN [acc] s3.heap:=bG (by simp) ea
 have stat':∀{H':Hp},(∀b∈fp,H' b=none)->∀b∈fp,aY Y (pins++bN [acc] s3.heap) H' b:=fun hn b hb=>by
  obtain ⟨f0,f1,f2,f3,f4,f5⟩:=stat hn b hb
  refine ⟨f0,f1,f2,f3,f4,fun p hp z=>?_⟩
  rw [←List.append_assoc] at hp
  rcases List.mem_append.mp hp with hp|hp
  ·exact f5 p hp z
  ·have e:p.1=acc:=by simpa using (gC hp).1
   exact hac (by rw [←e,z];exact hb)
 rcases turn i n ys3 H3 w3 with ⟨stop,qn⟩|⟨go,step⟩
 ·refine thn (T.done Y rfl rfl rfl hc i _ s3 σ H3 _ J3 (stat' fr3) st3 stop) fun r s4 ⟨hr,I4⟩=>?_
  subst hr
  refine wpAny_pure ?_
  have p4:=I4.pin (acc,oa) (List.mem_append_right _ (List.mem_append_right _ inpa))
  exact hR s4 ys3 H3 I4.b9 an3 (B.kept ac3 fun o e=>by rw [ea] at e;cases e;exact p4.1) qn
 ·refine thn (T.item Y rfl rfl rfl hc i _ s3 σ H3 _ J3 (stat' fr3) st3 go) fun r s4 ⟨u,hr,h4⟩=>?_
  subst hr
  refine wpAny_bind (thn h4 fun _ s5 ⟨x,H5,I5,r5,y5,st5,fr5⟩=>?_)
  have I5':=I5.pinned (stat' fr5) (T.obj _ _ st5)
  refine wpAny_bind (nox (thn (h1 _ s5 σ H5 x u _ I5' r5 (step x H5 y5)) fun _ s6 ⟨σ6,H6,I6,fg,q6⟩=>?_))
  refine wpAny_bind (nox (thn (h2 _ s6 σ6 H6 _ I6 q6) fun ok s7 ⟨H7,I7,q7⟩=>?_))
  have p7:=I7.pin (acc,oa) (List.mem_append_right _ (List.mem_append_left _ (List.mem_append_right _ inpa)))
  have ac7:B.ac s7.heap acc ys3:=B.kept ac3 fun o e=>by rw [ea] at e;cases e;exact p7.1
  have I7':Inv Y (pins++bN fp s5.heap) σ6 H7 s7:=I7.jE fun p hp=>I7.pin p (List.mem_append_right _ ((List.mem_append.mp hp).elim (fun z=>List.mem_append_left _ (List.mem_append_left _ z)) fun z=>List.mem_append_right _ z))
  have again':∀{s8:Shared} {H8:Hp} {ys8:α},Inv Y (pins++bN fp s5.heap) σ6 H8 s8->H8 acc=none->B.ac s8.heap acc ys8->(∃m',m'<n∧W (i+1) m' ys8 H8)->
    ∃m,m<n∧∃i H' ys',Inv Y pins σ H' s8∧tn i s8.heap∧(∀b∈fp,H' b=none)∧H' acc=none∧B.ac s8.heap acc ys'∧W i m ys' H':=fun {s8 H8 ys8} I8 an8 ac8 ⟨m',hm,w8⟩=>by
   refine ⟨m',hm,i+1,H8,ys8,I8.b9.weak fg.1 fg.2,T.keep _ _ _ st5 fun b hb o e=>(I8.pin (b,o) (List.mem_append_right _ (List.mem_append_right _ (bG hb e)))).1,fun b hb=>?_,an8,ac8,w8⟩
   obtain ⟨o,e,_⟩:=T.obj _ _ st5 b hb
   exact (I8.pin (b,o) (List.mem_append_right _ (List.mem_append_right _ (bG hb e)))).2.1
  cases ok with
  |false=>
   rw [if_neg Bool.false_ne_true] at q7 ⊢
   exact wpAny_bind (wpAny_pure (wpAny_pure ⟨rfl,again' I7' p7.2.1 ac7 q7⟩))
  |true=>
   rw [if_pos rfl] at q7 ⊢
   have fa7:aY Y (pins++bN fp s5.heap) H7 acc:=by
    obtain ⟨_,f1,f2,f3,f4,f5⟩:=ha
    refine ⟨p7.2.1,f1,f2,f3,f4,fun p hp z=>?_⟩
    rw [←List.append_assoc] at hp
    rcases List.mem_append.mp hp with hp|hp
    ·exact f5 p hp z
    ·exact hac (by rw [←z];exact (gC hp).1)
   exact wpAny_bind (nox (thn (h3 _ s7 σ6 H7 ys3 _ I7' fa7 ac7 q7) fun _ s8 ⟨ys8,H8,I8,an8,ac8,q8⟩=>wpAny_pure ⟨rfl,again' I8 an8 ac8 q8⟩))
noncomputable def Af (wi:TI) (g:TG) (tt:TT) (tb:TB):TB:=fun σ H ys Q=>wi σ H fun J H1=>i5 g tt tb J σ H1 ys Q
theorem vh {elt:Expr} {gens:List Comprehension} {scope:Scope} {pos:Pos} {d:Nat} {tg iter:Expr} {ifs:List Expr} (hg:gens[d+1]?=some ⟨tg,iter,ifs,0⟩) {wi:TI} {g:TG} {tt:TT} {tb:TB} (hc:Y.calm=true) (hx:∀e s,Y.xe e s->False)
  (hi:PI Y tg iter wi) (h1:PG Y tg g) (h2:PTs Y ifs tt) (h3:PB Y acc (aS elt gens scope pos (d+1) (.ref acc) Y.env) tb) (hs:∀x,foldedSetIterable iter Y.env x=pure x:=by intro _;rfl):
  PB Y acc (aS elt gens scope pos d (.ref acc) Y.env) (Af wi g tt tb):=by
 intro pins s σ H ys Q I hf ha h
 unfold aS
 rw [hg]
 obtain ⟨oa,ea,da⟩:=ha.obj
 have J1:Inv Y (pins++bN [acc] s.heap) σ H s:=I.pinned (fp:=[acc]) (jF hf) (jF ha.obj)
 have inpa:(acc,oa)∈bN [acc] s.heap:=bG (by simp) ea
 refine wpAny_bind (thn (hi _ s σ H _ J1 h) fun x s1 h1'=>wpAny_bind (wpAny_standAt ?_))
 show wpAny _ _ (foldedSetIterable iter Y.env x>>=_) _ _ s1
 refine wpAny_bind (wpAny_of_eq (hs x) ?_)
 show wpAny _ _ (holding [x] (pyIter x)>>=_) _ _ s1
 refine wpAny_bind (wpAny_holding (thn h1' fun itv s2 h2'=>?_))
 obtain ⟨it,fp,tn,J,H2,e,I2,T,st2,f2,lp⟩:=h2'
 subst e
 have p2:=I2.pin (acc,oa) (List.mem_append_right _ (List.mem_append_right _ inpa))
 have ac2:Acc s2.heap acc ys:=ha.at fun o e=>by rw [ea] at e;cases e;exact p2.1
 have hac:acc∉fp:=fun z=>(f2 acc z).2.2.2.2.2 (acc,oa) (List.mem_append_right _ (List.mem_append_right _ inpa)) rfl
 have f2':∀b∈fp,aY Y pins H2 b:=fun b hb=>by
  obtain ⟨a0,a1,a2,a3,a4,a5⟩:=f2 b hb
  exact ⟨a0,a1,a2,a3,a4,fun p hp=>a5 p ((List.mem_append.mp hp).elim (fun z=>List.mem_append_left _ z) fun z=>List.mem_append_right _ (List.mem_append_left _ z))⟩
 have fa2:aY Y pins H2 acc:=⟨p2.2.1,hf.2⟩
 refine wpAny_bind (wpAny_runOwn (eC hg ?_ ?_))
 ·exact gj kB (dy _ _ _ _ _ _ _ _ hg) hc hx h1 h2 h3 T hac I2.b9 st2 f2' fa2 ac2 lp fun s' ys' H' I' an' ac' q'=>wpAny_pure ⟨ys',H',I',an',ac',q'⟩
 ·exact T.self _ 0 _ _ _ st2 (gj kB (dy _ _ _ _ _ _ _ _ hg) hc hx h1 h2 h3 T hac I2.b9 st2 f2' fa2 ac2 lp fun s' ys' H' I' an' ac' q'=>wpAny_pure ⟨ys',H',I',an',ac',q'⟩)
end
section
variable {X:Cx} {scope:Scope} {own:List Str} {cap:List (Str×Nat)} {pins:List (Addr×Obj)} {σ:St} {H H':Hp} {s s':Shared} {fp:List Addr} {acc:Addr} {ys:List V}
theorem qW {σ':St} (I:Inv X pins σ H s) (hf:∀b∈fp,aY X pins H b) (I':Inv (cX X scope own cap pins s H fp) [] σ' H' s') (hacc:s.heap.objs.size<=acc) (han:H' acc=none) {ob:HO} (hob:∀H0,aR X.prog X.w H0 s'.heap acc ob):
  Inv X pins σ (upd H' acc ob) s':=by
 have nacc:∀b o,s.heap.get? b=some o->b≠acc:=fun b o e=>Nat.ne_of_lt (Nat.lt_of_lt_of_le (Heap.lt_size e) hacc)
 have u:Un (frs X.stack) fp H H' s.heap s'.heap:=I'.base
 refine I.ua (ch:=fp) I'.os ⟨u.keep,u.slot,fun b o e n hx=>?_,u.there,fun b xs e=>?_,fun b o v e=>?_,fun b ps e=>?_⟩ (fun b o e=>?_) I'.bare fun b hb=>?_
 ·rw [ag (nacc b o e)];exact u.free b o e n hx
 ·have:=u.eY b xs e
  rw [ag (aj this han)];exact this
 ·have:=u.eJ b o v e
  rw [ag (aj this han)];exact this
 ·obtain ⟨more,this⟩:=u.eP b ps e
  exact ⟨more,by rw [ag (aj this han)];exact this⟩
 ·by_cases hb:b=acc
  ·subst hb
   rw [au] at e;cases e
   exact hob _
  ·rw [ag hb] at e
   exact (I'.hok b o e).eA (fun _ _ _ q=>q) (fun c q=>by rw [ag (aj q han)];exact q) fun c xs q=>by rw [ag (aj q han)];exact q
 ·obtain ⟨f0,f1,f2,f3,f4,f5⟩:=hf b hb
  exact ⟨f3,f1,f4,f5⟩
theorem jU {α:Type} {B:AK α} {node tg iter:Expr} {ifs:List Expr} {ins:Addr->Env->Sem Unit} {g:TG} {tt:TT} {tb:TBg α} {newAcc:Sem Value} {o:Obj} {z0:α} {fin:α->Prop} {ho:Addr->α->HO} (cs:CS X scope own cap)
  (hnew:∀{Q:Value->Shared->Prop} {E:Value->Shared->Prop} {s:Shared},Q (.ref s.heap.objs.size) {s with heap:=s.heap.push o}->wpAny (model X.prog X.w) X.A newAcc Q E s) (hof:o.isFreed=false) (hz0:∀h a,h.get? a=some o->B.ac h a z0)
  (hho:∀H0 h a ys,(a==sysModules)=false->B.ac h a ys->fin ys->aR X.prog X.w H0 h a (ho a ys)) (hdn:∀it acc env,kZ X.prog X.w node 0 (.ref it) (.ref acc) env) (hti:∀it acc env,pZ node 0 tg iter ifs (.ref it) (.ref acc) env (ins acc env))
  (hcs:∀{it acc:Value} {env:Env} {R:Result->Shared->Prop} {s:Shared},codeAny (model X.prog X.w) X.A (.compLoop node 0 it acc env) R s->wpAny (model X.prog X.w) X.A (pyIter it) (fun it' s'=>codeAny (model X.prog X.w) X.A (.compLoop node 0 it' acc env) R s') (notedBy (model X.prog X.w) X.A env fun x s'=>R (.error x) s') s->codeAny (model X.prog X.w) X.A (.compStart node 0 it acc env) R s)
  (hc:X.calm=true)
  (h1:∀pins s₂ H₂ fp,PG (cX X scope own cap pins s₂ H₂ fp) tg g) (h2:∀pins s₂ H₂ fp,PTs (cX X scope own cap pins s₂ H₂ fp) ifs tt)
  (h3:∀pins s₂ H₂ fp acc,PBg B (cX X scope own cap pins s₂ H₂ fp) acc (ins acc (cM X scope s₂.heap.objs.size)) tb)
  {J:It} {it:Addr} {tn:Nat->Heap->Prop} (T:Turn X.prog X.w X.K tg J fp it tn) (I:Inv X pins σ H s) (st:tn 0 s.heap) (hf:∀b∈fp,aY X pins H b)
  {Q:VK} (h:i5 g tt tb J (cS own cap σ) H z0 fun ys H2=>fin ys∧∀a,H2 a=none->Q (.ref a) (upd H2 a (ho a ys))) {RR:Value->Addr->Result->Shared->Prop} {E:Value->Shared->Prop}
  (hR:∀acc C s' H' m,s.heap.objs.size<=C->Inv X pins σ H' s'->H' C=none->s'.heap.Ns C m->Q (.ref acc) H'->RR (.ref acc) C (.ok .next) s'):
  wpAny (model X.prog X.w) X.A newAcc (fun acc s₃=>wpAny (model X.prog X.w) X.A (newFunctionEnv scope X.env.globals (cy X.env scope.names []) [] X.env.qual none .none (some X.env)) (fun cenv s₄=>
   codeAny (model X.prog X.w) X.A (.compStart node 0 (.ref it) acc {cenv with scope:=relabel scope X.env}) (RR acc cenv.locals) s₄) E s₃) E s:=by
 have hlt:∀b∈fp,b<s.heap.objs.size:=fun b hb=>by
  obtain ⟨o,e,_⟩:=T.obj _ _ st b hb
  exact Heap.lt_size e
 refine hnew (km ?_)
 have e1:(s.heap.push o).objs.size=s.heap.objs.size+1:=Heap.size_push ..
 have I1:=sv I cs hf hlt (o:=o) hof
 have kp:∀b u,s.heap.get? b=some u->(pushCells ((s.heap.push o).push {cls:=.type "dict",data:=.dict #[]}) scope.names).get? b=some u:=
  fun b u e=>pushCells_keeps _ _ b u (Heap.get?_push_of_some _ (Heap.get?_push_of_some _ e))
 have st1:=T.keep _ _ _ st fun b _ o e=>kp b o e
 have ac1:B.ac (pushCells ((s.heap.push o).push {cls:=.type "dict",data:=.dict #[]}) scope.names) s.heap.objs.size z0:=
  hz0 _ _ (pushCells_keeps _ _ _ _ (Heap.get?_push_of_some _ (Heap.get?_push_size _ hof)))
 dsimp only
 rw [e1]
 have hac:s.heap.objs.size∉fp:=fun z=>Nat.lt_irrefl _ (hlt _ z)
 have fa:aY (cX X scope own cap pins s H fp) [] H s.heap.objs.size:=by
  refine ⟨I.hok.fresh (Nat.le_refl _),Nat.ne_of_lt (Nat.lt_succ_self _),fun z=>?_,.inr (Nat.le_refl _),fun x c e z=>?_,fun p hp z=>?_⟩
  ·rcases List.mem_cons.mp (I.fv _ z) with z|z
   ·exact absurd I.lt (by rw [←z];exact Nat.lt_irrefl _)
   ·exact I.wF (Nat.le_refl _) z
  ·rcases cs.ba I.ok e with ⟨_,a,_⟩|⟨_,a⟩
   ·rw [z] at a;omega
   ·obtain ⟨v,q⟩:=I.cell x c a
    exact absurd q.lt (by rw [z];exact Nat.lt_irrefl _)
  ·have hp':p∈X.pn++pins:=by simpa [cX] using hp
   exact absurd (Heap.lt_size (I.pin p hp').1) (by rw [z];exact Nat.lt_irrefl _)
 have ff:∀b∈fp,aY (cX X scope own cap pins s H fp) [] H b:=fun b hb=>by
  obtain ⟨f0,f1,f2,f3,f4,f5⟩:=hf b hb
  refine ⟨f0,Nat.ne_of_lt (Nat.lt_succ_of_lt (hlt b hb)),fun z=>?_,.inl hb,fun x c e=>?_,fun p hp=>?_⟩
  ·rcases List.mem_cons.mp (I.fv _ z) with z|z
   ·exact f1 z
   ·exact f2 z
  ·rcases cs.ba I.ok e with ⟨_,a,_⟩|⟨_,a⟩
   ·exact Nat.ne_of_gt (Nat.lt_of_lt_of_le (hlt b hb) (Nat.le_trans (Nat.le_add_right _ 2) a))
   ·exact f4 x c a
  ·have hp':p∈X.pn++pins:=by simpa [cX] using hp
   exact f5 p hp'
 have fin':∀s' ys' H',Inv (cX X scope own cap pins s H fp) [] (cS own cap σ) H' s'->H' s.heap.objs.size=none->B.ac s'.heap s.heap.objs.size ys'->(fin ys'∧∀a,H' a=none->Q (.ref a) (upd H' a (ho a ys')))->
   RR (.ref s.heap.objs.size) (s.heap.objs.size+1) (.ok .next) s':=fun s' ys' H' I' an' ac' q'=>by
  have I2:=qW I hf I' (Nat.le_refl _) an' fun H0=>hho H0 _ _ _ (beq_eq_false_iff_ne.mpr (Ne.symm (Nat.ne_of_lt I.big))) ac' q'.1
  obtain ⟨m,hn,_⟩:=I'.loc
  refine hR _ _ s' _ m (Nat.le_succ _) I2 ?_ hn (q'.2 _ an')
  rw [ag (Nat.ne_of_gt (Nat.lt_succ_self _))]
  exact I'.free
 have lp:∀s₄:Shared,s₄={s with heap:=pushCells ((s.heap.push o).push {cls:=.type "dict",data:=.dict #[]}) scope.names}->
   codeAny (model X.prog X.w) X.A (.compLoop node 0 (.ref it) (.ref s.heap.objs.size) (cM X scope s.heap.objs.size)) (RR (.ref s.heap.objs.size) (s.heap.objs.size+1)) s₄:=by
  rintro s₄ rfl
  exact gj (Y:=cX X scope own cap pins s H fp) (d:=0) (hdn _ _ _) (hti _ _ _) hc (fun _ _ z=>z) (h1 pins s H fp) (h2 pins s H fp) (h3 pins s H fp s.heap.objs.size) T hac I1 st1 ff fa ac1 h fin'
 exact hcs (lp _ rfl) (T.self _ 0 _ _ _ st1 (lp _ rfl))
theorem mK {P:Program} {w:World} (H0:Hp) (h:Heap) (a:Addr) (ys:List V) (_:(a==sysModules)=false) (ac:nO.ac h a ys) (hz:ys.length<=sizeLine):aR P w H0 h a (.lst ys):=by
 obtain ⟨its,r,n,pl⟩:=ac
 exact ⟨hz,its,n,r,pl⟩
noncomputable def nJ (own:List Str) (cap:List (Str×Nat)) (wi:TI) (g:TG) (tt:TT) (tb:TB):TE:=fun σ H Q=>wi σ H fun J H1=>i5 g tt tb J (cS own cap σ) H1 [] fun ys H2=>ys.length<=sizeLine∧∀a,H2 a=none->Q (.ref a) (upd H2 a (.lst ys))
variable {elt tg iter:Expr} {ifs:List Expr} {rest:List Comprehension} {pos:Pos} {wi:TI} {g:TG} {tt:TT} {tb:TB}
theorem CS.names (cs:CS X scope own cap):∀x∈scope.names,x.2=.local->scope.names.lookup x.1=some .local:=fun x hx e=>cs.lk (by rw [←e];exact hx)
theorem Inv.tm {pins:List (Addr×Obj)} {σ σ':St} {H H':Hp} {s s':Shared} {C:Addr} {h':Heap} (I:Inv X pins σ H s) (I':Inv X pins σ' H' s') (hC:s.heap.objs.size<=C) (hn:H' C=none) (hs:Heap.SameBut C s'.heap h'):Inv X pins σ' H' {s' with heap:=h'}:=by
 obtain ⟨f0,f1,f2,f3,f4,f5⟩:=I.eR hC hn
 exact I'.turned (t':=s'.toks) (fun b o hb e=>(hs.2 b hb).trans e) f0 f1 f3 f4 f5
theorem vY (cs:CS X scope own cap) (hc:X.calm=true) (hi:PI X tg iter wi) (h1:∀pins s₂ H₂ fp,PG (cX X scope own cap pins s₂ H₂ fp) tg g) (h2:∀pins s₂ H₂ fp,PTs (cX X scope own cap pins s₂ H₂ fp) ifs tt)
  (h3:∀pins s₂ H₂ fp acc,PB (cX X scope own cap pins s₂ H₂ fp) acc (aS elt (⟨tg,iter,ifs,0⟩::rest) scope pos 0 (.ref acc) (cM X scope s₂.heap.objs.size)) tb)
  (hs:∀x,foldedSetIterable iter X.env x=pure x:=by intro _;rfl):PE X (.ListComp elt (⟨tg,iter,ifs,0⟩::rest) scope pos) (nJ own cap wi g tt tb):=by
 intro pins s σ H Q I h
 rw [eval_ListComp]
 refine wpAny_comprehension_free (use:=none) rfl hs (fX (cs.nV I.ok)) cs.kind cs.names ?_
 refine thn (hi pins s σ H _ I h) fun x s1 h1'=>thn h1' fun itv s2 h2'=>?_
 obtain ⟨it,fp,tn,J,H2,e,I2,T,st2,f2,lp⟩:=h2'
 subst e
 refine jU (B:=nO) (fin:=fun ys=>ys.length<=sizeLine) (ho:=fun _ ys=>.lst ys) (RR:=fun acc C=>compPost (model X.prog X.w) X.A X.xe none (EP X pins σ Q) acc C) cs wpAny_newObj_type rfl (fun h a e=>⟨[],.nil,_,e⟩) mK (fun _ _ _=>kB) (fun it acc env=>dy _ _ _ _ _ _ _ _ rfl) (eC rfl) hc h1 h2 h3 T I2 st2 f2 lp ?_
 intro acc C s' H' m hC I' hn hns q
 exact ⟨m,hns,fun h' hs'=>⟨.ref acc,H',CT.Inv.tm I2 I' hC hn hs',rfl,q⟩⟩
theorem uq {i:Nat} {x:Str} {pos' spos:Pos} (cs:CS X scope own cap) (hc:X.calm=true) (hN:X.N.Nodup) (hix:X.N[i]?=some x) (hx:Loc X.env.scope x) (hi:PI X tg iter wi) (h1:∀pins s₂ H₂ fp,PG (cX X scope own cap pins s₂ H₂ fp) tg g)
  (h2:∀pins s₂ H₂ fp,PTs (cX X scope own cap pins s₂ H₂ fp) ifs tt)
  (h3:∀pins s₂ H₂ fp acc,PB (cX X scope own cap pins s₂ H₂ fp) acc (aS elt (⟨tg,iter,ifs,0⟩::rest) scope pos 0 (.ref acc) (cM X scope s₂.heap.objs.size)) tb)
  (hsw:swapsWith (.ListComp elt (⟨tg,iter,ifs,0⟩::rest) scope pos) (some (.Name x pos')) spos.line X.env=pure true)
  (hs:∀x,foldedSetIterable iter X.env x=pure x:=by intro _;rfl) (hf:X.fn x=true∨X.env.scope.names.lookup x=some .local:=by first|exact .inl rfl|exact .inr rfl|assumption):
  PS X (.Assign [.Name x pos'] (.ListComp elt (⟨tg,iter,ifs,0⟩::rest) scope pos) spos) (lh (nJ own cap wi g tt tb) (fK i)):=by
 intro pins s σ H D I h
 rw [exec_Assign_Name_used _ _ _ _ hsw]
 refine wpAny_bind (wpAny_standAt (wpAny_bind ?_))
 show wpAny _ X.A (do let _←comprehension (.ListComp elt (⟨tg,iter,ifs,0⟩::rest) scope pos) scope X.env _ (newList []) false (eval iter X.env) (some (assign (.Name x pos') X.env))) _ _ s
 refine wpAny_bind (wpAny_mono (wpAny_comprehension_free (use:=some (assign (.Name x pos') X.env)) (Q:=fun _ s'=>SP X pins D .next s') rfl hs (fX (cs.nV I.ok)) cs.kind cs.names ?_) (fun _ s' hq=>wpAny_pure (wpAny_pure hq)) fun _ _ e=>e)
 refine thn (hi pins s σ H _ I h) fun xv s1 h1'=>thn h1' fun itv s2 h2'=>?_
 obtain ⟨it,fp,tn,J,H2,e,I2,T,st2,f2,lp⟩:=h2'
 subst e
 refine jU (B:=nO) (fin:=fun ys=>ys.length<=sizeLine) (ho:=fun _ ys=>.lst ys) (Q:=fun x H1=>fK i x σ H1 D.nx) (RR:=fun acc C=>compPost (model X.prog X.w) X.A X.xe (some (assign (.Name x pos') X.env)) (fun _ s'=>SP X pins D .next s') acc C) cs wpAny_newObj_type rfl (fun h a e=>⟨[],.nil,_,e⟩) mK (fun _ _ _=>kB) (fun it acc env=>dy _ _ _ _ _ _ _ _ rfl) (eC rfl) hc h1 h2 h3 T I2 st2 f2 lp ?_
 intro acc C s' H' m hC I' hn hns q
 show wpAny _ X.A (assign (.Name x pos') X.env (.ref acc)) _ _ _
 refine wpAny_assign_Name (kb I' hN hix hx (v:=.ref acc) rfl (fun s'' I'' ⟨a,sb,ha⟩=>?_) hf)
 have hne:C≠a:=by
  rcases ha with z|z
  ·rw [z];exact Nat.ne_of_gt (Nat.lt_of_lt_of_le I2.lt hC)
  ·obtain ⟨v,hv⟩:=I2.cell x a z
   exact Nat.ne_of_gt (Nat.lt_of_lt_of_le hv.lt hC)
 exact ⟨m,hns.sameBut sb hne,fun h' hs'=>⟨_,H',CT.Inv.tm I2 I'' hC hn hs',q⟩⟩
variable {s₂:Shared} {H₂:Hp}
end
end CT
namespace CT
open PySem PySem.Builtin
theorem iI:fillsNumberSlot (.type "tuple") "mul"=pure false:=
 fillsNumberSlot_seq (id:="tuple.__mul__") (r:=some (.builtin "tuple.__rmul__")) F.slot_tuple_mul.lookup (by decide+kernel) F.slot_tuple_rmul.lookup (by decide+kernel)
theorem lZ:seqRepeat? (.type "tuple")=pure (some (.builtin "tuple.__mul__")):=by
 unfold seqRepeat?
 rw [seqSlot_of (T:="tuple") (name:="__mul__") (id:="tuple.__mul__") F.slot_tuple_mul.lookup (by decide+kernel),seqSlot_of (T:="tuple") (name:="__rmul__") (id:="tuple.__rmul__") F.slot_tuple_rmul.lookup (by decide+kernel)]
 rfl
theorem jr (a:Int) (t:Tok) (l:Addr) (d:Option Addr) (its:Array Value) (n:Nat) (sl:Array (Option Value)):
  Meets (Builtin.«int.__rmul__» ⟨[.int a t,.ref l],[]⟩) (fun _ R s=>s.heap.get? l=some {cls:=.type "tuple",dict:=d,data:=.seq its n,slots:=sl}∧R (.ok (.ret Value.notImplemented)) s):=
 .of_wp fun prog w A R s h=>by obtain ⟨hp,g,d,tk,os⟩:=s;obtain ⟨hl,h⟩:=h;wp_walk;exact ⟨_,rfl,h⟩
theorem kq (l:Addr) (d:Option Addr) (v:Value) (n:Nat) (sl:Array (Option Value)) (k:Int) (u:Tok) (h0:0<=k) (h1:k<2^20):
  Meets (Builtin.«tuple.__mul__» ⟨[.ref l,.int k u],[]⟩) (fun _ R s=>s.heap.get? l=some {cls:=.type "tuple",dict:=d,data:=.seq #[v] n,slots:=sl}∧
   if k=1 then R (.ok (.ret (.ref l))) s else R (.ok (.ret (.ref s.heap.objs.size))) {s with heap:=s.heap.push {cls:=.type "tuple",data:=.seq (List.replicate k.toNat v).toArray}}):=
 .of_wp fun prog w A R s h=>by
  obtain ⟨hp,g,dd,tk,os⟩:=s;obtain ⟨hl,h⟩:=h
  wp_walk
  refine wpAny_ite_false (by simp;omega) ?_
  wp_walk
  by_cases k1:k=1
  ·subst k1
   rw [if_pos rfl] at h
   wp_walk
   exact ⟨_,rfl,h⟩
  ·rw [if_neg k1] at h
   by_cases k0:k=0
   ·subst k0
    wp_walk
    exact ⟨_,rfl,h⟩
   ·have e:List.foldl (fun x1 x2=>x1++x2) #[] (List.replicate k.toNat #[v])=(List.replicate k.toNat v).toArray:=by
     have f:∀(m:Nat) (acc:List Value),List.foldl (fun x1 x2=>x1++x2) acc.toArray (List.replicate m #[v])=(acc++List.replicate m v).toArray:=by
      intro m
      induction m with
      |zero=>intro acc;simp
      |succ m ih=>
       intro acc
       rw [List.replicate_succ,List.foldl_cons,show acc.toArray++#[v]=(acc++[v]).toArray by simp,ih,List.replicate_succ]
       simp
     have:=f k.toNat []
     rw [List.nil_append] at this
     exact this
    wp_walk
    refine wpAny_ite_false (by simp;omega) ?_
    refine wpAny_ite_false (by simp;omega) ?_
    refine wpAny_ite_false (by simp [Tuple.tupleTooMany,sizeLine];omega) ?_
    rw [e]
    wp_walk
    refine wpAny_ite_false (by simp [sizeLine];omega) ?_
    wp_walk
    exact ⟨_,rfl,h⟩
end CT
namespace CT
open PySem PySem.Spec PySem.W L2
open Builtin Builtin.ObjectAttr
noncomputable abbrev bmV:List Value:=[.type "ValueError",.type "Exception",.type "BaseException",.type "object"]
noncomputable def i_:List Value->Bool
 |[]=>false
 |v::r=>(v::r)==bmV||(match v with|.ref _=>i_ r|_=>false)
theorem jN {x:Value} (hx:bmV.contains x=true):∀{l:List Value},i_ l=true->l.contains x=true
 |[],e=>nomatch e
 |v::r,e=>by
  unfold i_ at e
  rcases Bool.or_eq_true_iff.mp e with q|q
  ·rw [beq_iff_eq.mp q];exact hx
  ·cases v with
   |ref c=>rw [List.contains_cons,jN hx q,Bool.or_true]
   |_=>cases q
structure b4 (K:Frag) (C:Addr):Prop where
 hd:hasDictIn K C=true
 ov:(clsIn K C).any (fun cd=>i_ cd.mro)=true
 ga:findIn K (.ref C) "__getattribute__"=some (some (.builtin "BaseException.__getattribute__"))
 gn:findIn K (.ref C) "__getattr__"=some none
 sa:findIn K (.ref C) "__setattr__"=some (some (.builtin "object.__setattr__"))
theorem b4.mro {K:Frag} {C:Addr} (c:b4 K C) {x:Value} (hx:bmV.contains x=true):mroIn K C x=some true:=by
 obtain ⟨cd,hc,ho⟩:=any_some c.ov
 have h:=jN hx ho
 unfold mroIn
 rw [hc,Option.bind_some,if_neg (fun q=>by cases hl:cd.mro with|nil=>rw [hl] at h;cases h|cons _ _=>rw [hl] at q;cases q),h]
section
variable {prog:Program} {w:World} {A:Around} {E:Value->Shared->Prop} {s:Shared} {K:Frag} {x C:Addr} {ox:Obj} {od:Option Obj} {name:Str}
theorem xQ {tk:Tok} {f:Found} {Q:Fin->Shared->Prop} (X:K.In s.heap) (I:InstAt s.heap x ox C od) (hf:findObj K C od name=some f)
  (h:wpAny (model prog w) A (match f with|.value v=>ret v|.bind g a=>bindTo g a (.ref x) (.ref C)|.missing=>unsupported "x") Q E s) (hm:f≠.missing):
  wpAny (model prog w) A (Builtin.«object.__getattribute__» ⟨[.ref x,.str name tk],[]⟩) Q E s:=by
 have L0:=I.type (M:=model prog w)
 have L1:=looks_find (M:=model prog w) X I hf
 unfold Builtin.«object.__getattribute__»
 refine wpAny_bind (wpAny_pure (wpAny_bind (wpAny_pure (wpAny_bind (L0.here (wpAny_bind (L1.here ?_)))))))
 cases f with
 |missing=>exact absurd rfl hm
 |value v=>exact h
 |bind g a=>exact h
theorem vj {tk:Tok} {f:Found} {R:Result->Shared->Prop} (X:K.In s.heap) (I:InstAt s.heap x ox C od) (c:b4 K C) (hf:findObj K C od name=some f) (hm:f≠.missing)
  (h:wpAny (model prog w) A.in1 (match f with|.value v=>ret v|.bind g a=>bindTo g a (.ref x) (.ref C)|.missing=>unsupported "x")
   (fun fin s'=>match fin with|.done f=>R (.ok f) s'|.again c'=>c'.quiet=true∧codeAny (model prog w) A c' R s') (fun e s'=>R (.error e) s') s):
  codeAny (model prog w) A (.call (.builtin "BaseException.__getattribute__") ⟨[.ref x,.str name tk],[]⟩) R s:=by
 have S:=PySem.F.attr_ValueError.ga
 have L0:Looks (model prog w) s.heap (isInstance (.ref x) (.type "BaseException")) true:=I.type.andThen (looks_mroIn X (c.mro (by decide)))
 refine codeAny_call_builtin S.plain F.entry_bexc_ga (@check_slot (model prog w) _ _ s "BaseException.__getattribute__" "BaseException" "__getattribute__" (.ref x) [.str name tk] [] _ (by decide+kernel) (by decide+kernel) L0 (F.args_bexc_ga (.ref x) (.str name tk)) ?_)
 exact xQ X I hf h hm
theorem me {tk:Tok} {fill expr:Bool} {f:Found} {Q:Value->Shared->Prop} (X:K.In s.heap) (I:InstAt s.heap x ox C od) (c:b4 K C) (hf:findObj K C od name=some f) (hm:f≠.missing)
  (h:wpAny (model prog w) A.in1 (match f with|.value v=>ret v|.bind g a=>bindTo g a (.ref x) (.ref C)|.missing=>unsupported "x")
   (fun fin s'=>match fin with|.done (.ret v)=>wpAny (model prog w) A (handedOut v) Q E s'|_=>False) (fun e s'=>False) s):
  wpAny (model prog w) A (getAttrBy (.ref x) (.str name tk) fill expr) Q E s:=by
 have L0:=I.type (M:=model prog w)
 have L1:=looks_findIn (M:=model prog w) X c.ga
 have L2:=looks_findIn (M:=model prog w) X c.gn
 have S:=PySem.F.attr_ValueError.ga
 unfold getAttrBy
 refine wpAny_holding (wpAny_bind (L0.here (wpAny_bind (L1.here ?_))))
 show wpAny _ _ (getAttrByItsOwn _ _ _ _ _ _) _ _ _
 unfold getAttrByItsOwn
 refine wpAny_bind (L2.here ?_)
 refine wpAny_bind (wpAny_attempt (wpAny_holding ?_))
 have ec:callGetattribute (.ref x) (.str name tk) (.builtin "BaseException.__getattribute__") expr=boundAndCalled (.builtin "BaseException.__getattribute__") (.ref x) (.str name tk):=by cases expr<;>rfl
 rw [ec]
 unfold boundAndCalled
 rw [S.bind]
 refine wpAny_bind (wpAny_pure (wpAny_call (vj X I c hf hm (wpAny_mono h (fun fin s' z=>?_) fun e s' z=>z.elim))))
 rcases fin with (_|_|_|_)|_<;>first|exact z|exact z.elim
theorem rB {odd:Obj} {v:Value} {expr:Bool} {Q:Value->Shared->Prop} (X:K.In s.heap) (I:InstAt s.heap x ox C (some odd)) (c:b4 K C) (ha:findIn K (.ref C) name=some none) (hl:lookIn name odd=some (some v)) (hv:handedIn v=true)
  (h:Q v {s with toks:=s.toks+1}):wpAny (model prog w) A (getAttr (.ref x) name expr) Q E s:=by
 unfold getAttr
 refine wpAny_bind (wpAny_mkText (me (s:={s with toks:=s.toks+1}) (f:=.value v) X I c (findObj_own c.hd ha rfl hl) (fun z=>nomatch z) (wpAny_pure ?_)))
 show wpAny _ _ (handedOut v) _ _ _
 rw [handedOut_of hv];exact wpAny_pure h
theorem qN {Q:Option Value->Shared->Prop} (X:K.In s.heap) (I:InstAt s.heap x ox C od) (c:b4 K C) (hf:findObj K C od "__class__"=some (.bind (.builtin "getset_descriptor.__get__") (.builtin "object.__class__")))
  (h:Q (some (.ref C)) {s with toks:=s.toks+1}):wpAny (model prog w) A (getAttr? (.ref x) "__class__") Q E s:=by
 unfold getAttr? getAttrBy?
 refine wpAny_bind (wpAny_mkText (wpAny_bind (wpAny_attempt (me (s:={s with toks:=s.toks+1}) X I c hf (fun z=>nomatch z) ?_))))
 refine wpAny_bind (wpAny_holding (wpAny_call (class_get (s:={s with toks:=s.toks+1}) X I (c.mro (by decide)) ?_)))
 exact wpAny_pure (wpAny_pure (wpAny_pure h))
theorem lF (c:b4 K C) (hf:findObj K C od "__class__"=some (.bind (.builtin "getset_descriptor.__get__") (.builtin "object.__class__"))):KitX K (.ref x) (.ref C) (fun h=>InstAt h x ox C od) where
 ty:=fun _ _ _ I=>I.type
 it:=fun M h X _=>by
  obtain ⟨cd,hc,_⟩:=any_some c.ov
  unfold clsIn at hc
  split at hc
  ·rename_i ho
   intro A' Q' E' s' k q
   unfold isType loadHead
   exact wpAny_bind (wpAny_loadPart (k _ _ (X _ _ ho)) (wpAny_pure q))
  ·cases hc
 ne:=fun h tp dd its n sl X htp=>by
  obtain ⟨cd,hc,_⟩:=any_some c.ov
  cases hb:(Value.ref C==Value.ref tp) with
  |false=>rfl
  |true=>
   have e:=Value.ref.inj (beq_iff_eq.mp hb)
   rw [←e] at htp
   unfold clsIn at hc
   split at hc
   ·rename_i ho
    have z:=htp.symm.trans (X _ _ ho)
    cases z
   ·cases hc
 ca:=fun X I k=>qN X I c hf k
end
end CT
namespace CT
open PySem PySem.Spec PySem.W L2
noncomputable def jc (K:Frag) (C:Addr):Bool:=match K.lookup C with
 |some ⟨.type "type",_,.cls cd,sl⟩=>(match sl.toList with|[_,_,_,_,some (.builtin n),_]=>n=="ValueError.__new__"|_=>false)&&cd.mro.head?==some (.ref C)&&tailIn K bmV cd.mro.tail&&!cd.hasDel
 |_=>false
theorem pL {K:Frag} {C:Addr} (e:jc K C=true):∃nm q N bs bm hdct sn sub ab col dd k0 k1 k2 k3 k5,K.lookup C=some (excClassObj nm q C N bs bm hdct sn sub ab col dd k0 k1 k2 k3 k5 "ValueError.__new__")∧tailIn K bmV bm=true:=by
 unfold jc at e
 split at e
 ·rename_i dd cd sl ho
  simp only [Bool.and_eq_true,beq_iff_eq,Bool.not_eq_true'] at e
  obtain ⟨⟨⟨e1,e2⟩,e3⟩,e4⟩:=e
  split at e1
  ·rename_i k0 k1 k2 k3 n k5 hs
   obtain ⟨nm,bs,mro,ns,qn,hd,sn,sub,ab,col,del⟩:=cd
   dsimp only at e2 e3 e4
   cases mro with
   |nil=>cases e2
   |cons v bm=>
    obtain rfl:v=.ref C:=by simpa using e2
    have hsl:sl=#[k0,k1,k2,k3,some (.builtin n),k5]:=by
     obtain ⟨l⟩:=sl
     exact congrArg Array.mk hs
    subst hsl e4
    rw [show n="ValueError.__new__" from beq_iff_eq.mp e1] at ho
    exact ⟨nm,qn,ns,bs,bm,hd,sn,sub,ab,col,dd,k0,k1,k2,k3,k5,ho,e3⟩
  ·cases e1
 ·cases e
noncomputable abbrev cn (us:List Value):Obj:={cls:=.type "tuple",data:=.seq us.toArray}
noncomputable abbrev bM (C t:Addr):Obj:={cls:=.ref C,data:=.fields #[.ref t,.none,.none,.none,.bool false,.none]}
section
variable {prog:Program} {w:World} {A:Around} {K:Frag} {C f:Addr} {s:Shared} {R:Result->Shared->Prop} {us:List Value}
theorem l_ {Q:Fin->Shared->Prop} {E:Value->Shared->Prop} (X:K.In s.heap) (hm:jc K C=true) (hi:findIn K (.ref C) "__init__"=some (some (.ref f))) (hf:typeIn K (.ref f)=some (.type "function")) (hl:us.length<=sizeLine)
  (h:codeAny (model prog w) A (.call (.ref f) ⟨.ref (s.heap.objs.size+1)::us,[]⟩) (fun r s'=>match r with|.ok (.ret v)=>v=.none∧Q (.done (.ret (.ref (s.heap.objs.size+1)))) s'|.ok _=>False|.error e=>E e s')
   {s with heap:=(s.heap.push (cn us)).push (bM C s.heap.objs.size)}):
  wpAny (model prog w) A (Builtin.«type.__call__» ⟨.ref C::us,[]⟩) Q E s:=by
 obtain ⟨nm,q,N,bs,bm,hdct,sn,sub,ab,col,dd,k0,k1,k2,k3,k5,ho,ht⟩:=pL hm
 have FB:=PySem.F.excBase_ValueError
 obtain ⟨hh,g,d,t,os⟩:=s
 have hC:=X _ _ ho
 have T:=tail_of_in X ht
 repeat (first|with_reducible refine wpAny_loadPart_at hC ?_|with_reducible refine wpAny_madeBy_exc hC ?_|wp_step)
 refine codeAny_call_builtin_code (Code.quiet_builtin _ FB.quiet) (wpAny_check_new_subT FB T hC ?_)
 refine codeAny_exc_new_subT (hrest:=hl) FB T hC ?_
 have kk:∀b o,hh.get? b=some o->((hh.push (cn us)).push (bM C hh.objs.size)).get? b=some o:=fun b o e=>Heap.get?_push_of_some _ (Heap.get?_push_of_some _ e)
 have X1:K.In ((hh.push (cn us)).push (bM C hh.objs.size)):=X.keeps kk
 have hg:((hh.push (cn us)).push (bM C hh.objs.size)).get? (hh.objs.size+1)=some (bM C hh.objs.size):=by heap_get
 have J:InstAt ((hh.push (cn us)).push (bM C hh.objs.size)) (hh.objs.size+1) (bM C hh.objs.size) C none:=⟨hg,rfl,rfl,trivial⟩
 have L0:=J.type (M:=model prog w)
 have L1:Looks (model prog w) ((hh.push (cn us)).push (bM C hh.objs.size)) (isSubtype (.ref C) (.ref C)) true:=by
  refine looks_mroIn X1 ?_
  unfold mroIn clsIn
  rw [ho]
  simp
 have L2:=looks_findIn (M:=model prog w) X1 hi
 have L3:=bind_fn (M:=model prog w) X1 (.ref (hh.objs.size+1)) hf
 show wpAny _ _ _ _ _ _
 unfold isInstance callSpecial? specialOf
 repeat (first|with_reducible refine wpAny_call ?_|lk)
 refine codeAny_mono h fun r s' z=>?_
 rcases r with e|(v|_|_|_)<;>first|exact z|exact z.elim|skip
 obtain ⟨rfl,z⟩:=z
 exact wpAny_pure (wpAny_pure z)
theorem x9 (X:K.In s.heap) (hm:jc K C=true) (hi:findIn K (.ref C) "__init__"=some (some (.ref f))) (hf:typeIn K (.ref f)=some (.type "function")) (hl:us.length<=sizeLine)
  (h:codeAny (model prog w) (A.under (.builtin "type.__call__" ⟨.ref C::us,[]⟩)) (.call (.ref f) ⟨.ref (s.heap.objs.size+1)::us,[]⟩) (InitBack (s.heap.objs.size+1) R)
   {s with heap:=(s.heap.push (cn us)).push (bM C s.heap.objs.size)}):
  codeAny (model prog w) A (.call (.ref C) ⟨us,[]⟩) R s:=by
 obtain ⟨nm,q,N,bs,bm,hdct,sn,sub,ab,col,dd,k0,k1,k2,k3,k5,ho,ht⟩:=pL hm
 have hC:=X _ _ ho
 have f1:=tc_lookup
 have f2:=tc_bind (.ref C)
 have hT:s.TypeIs (.ref C) "type":=⟨_,hC,rfl⟩
 refine codeAny_of_tree ?_
 show wpAny _ _ (callAny (.ref C) _) _ _ _
 obtain ⟨hh,g,d,t,os⟩:=s
 repeat (any_goals (first|assumption|with_reducible refine wpAny_loadPart_at hC ?_|wp_step))
 refine ⟨rfl,codeAny_call_builtin_at (Code.quiet_builtin _ (by decide+kernel)) entry_typeCall (wpAny_check_type_call_sub hC (l_ X hm hi hf hl (codeAny_mono h fun r s' z=>?_)))⟩
 rcases r with e|(v|_|_|_)<;>first|exact z|exact z.elim
end
end CT
namespace CT
open PySem PySem.Spec PySem.W L2
noncomputable def aJ (fr:Bool) (x C:Addr) (dx:Option Addr):HO:=.ext fun h=>∃vs,h.get? x=some ⟨.ref C,dx,.fields vs,#[]⟩∧vs.size=6∧(fr=true->vs[1]?=some .none)
noncomputable def jk (d:Addr) (fs:List (Str×V)):HO:=.ext fun h=>∃mA,h.Ns1 d mA∧(∀f,c6 (fs.lookup f) (mA f))∧Within mA (fs.map (·.1))
section
variable {P:Program} {w:World} {H:Hp} {h:Heap} {x C d:Addr} {dx:Option Addr} {fs:List (Str×V)} {fr:Bool}
theorem eG (o:aR P w H h x (aJ fr x C dx)):∃vs,h.get? x=some ⟨.ref C,dx,.fields vs,#[]⟩∧vs.size=6∧(fr=true->vs[1]?=some .none):=o.1
theorem kY {vs:Array Value} (e:h.get? x=some ⟨.ref C,dx,.fields vs,#[]⟩) (hz:vs.size=6) (hf:fr=true->vs[1]?=some .none):aR P w H h x (aJ fr x C dx):=⟨⟨vs,e,hz,hf⟩,⟨_,e⟩,fun _ _ ⟨us,q,z⟩ k=>⟨us,k _ q,z⟩⟩
theorem Aj (o:aR P w H h d (jk d fs)):∃mA,h.Ns1 d mA∧(∀f,c6 (fs.lookup f) (mA f))∧Within mA (fs.map (·.1)):=o.1
end
section
variable {X:Cx} {pins:List (Addr×Obj)} {σ:St} {H:Hp} {s:Shared} {a C dx:Addr} {fs:List (Str×V)} {f:Str} {v:V} {A:Around} {E:Value->Shared->Prop} {fr:Bool}
theorem tI (I:Inv X pins σ H s) (e:H a=some (aJ fr a C (some dx))) (n:H dx=some (jk dx fs)):∃vs mA odd,s.heap.get? a=some ⟨.ref C,some dx,.fields vs,#[]⟩∧s.heap.Ns1 dx mA∧(∀f,c6 (fs.lookup f) (mA f))∧Within mA (fs.map (·.1))∧
  InstAt s.heap a ⟨.ref C,some dx,.fields vs,#[]⟩ C (some odd)∧∀name,lookIn name odd=some (mA name):=by
 obtain ⟨vs,h1,_⟩:=eG (I.hok a _ e)
 obtain ⟨mA,h2,r,q⟩:=Aj (I.hok dx _ n)
 obtain ⟨odd,h3,h4⟩:=j0 h2
 exact ⟨vs,mA,odd,h1,h2,r,q,⟨h1,rfl,rfl,h3⟩,h4⟩
theorem AQ {b:Bool} {Q:Value->Shared->Prop} (I:Inv X pins σ H s) (e:H a=some (aJ fr a C (some dx))) (n:H dx=some (jk dx fs)) (c:b4 X.K C) (na:bp X.K C f) (l:fs.lookup f=some v)
  (h:∀u s',Inv X pins σ H s'->RelV v u->Q u s'):wpAny (model X.prog X.w) A (getAttr (.ref a) f b) Q E s:=by
 obtain ⟨vs,mA,odd,h1,h2,r,q,J,hl⟩:=tI I e n
 obtain ⟨u,hu,ru⟩:=c6.some_of (v:=v) (o:=mA f) (by rw [←l];exact r f)
 exact rB I.kIn J c na (by rw [hl,hu]) (jH ru) (h u _ (I.tok _) ru)
end
section
variable {X:Cx} {o value e:Expr} {ta tv:TE} {f:Str} {pos pos' p:Pos}
noncomputable def zM (K:Frag) (ta:TE) (f:Str):TE:=fun σ H Q=>ta σ H fun x H1=>∃fr a C dx fs v,x=.ref a∧H1 a=some (aJ fr a C (some dx))∧H1 dx=some (jk dx fs)∧b4 K C∧bp K C f∧fs.lookup f=some v∧Q v H1
theorem vT (he:PE X e ta) (hb:attributeBase e f X.env (eval e X.env)=eval e X.env):PE X (.Attribute e f pos) (zM X.K ta f):=by
 intro pins s σ H Q I h
 refine mh hb (thn (he pins s σ H _ I h) fun u s1 ⟨x,H1,I1,rx,fr,a,C,dx,fs,v,ex,ea,en,c,n,l,q⟩=>?_)
 subst ex
 obtain rfl:u=Value.ref a:=rx
 exact AQ I1 ea en c n l fun u' s2 I2 ru=>⟨v,H1,I2,ru,q⟩
end
end CT
namespace CT
open PySem PySem.Spec PySem.W L2
section
variable {X:Cx} {pins:List (Addr×Obj)} {σ:St} {H:Hp} {s:Shared} {h':Heap}
theorem HOk.wg {P:Program} {w:World} {h:Heap} {a:Addr} (x:HOk P w H h) (e:h.get? a=none):H a=none:=by
 cases q:H a with
 |none=>rfl
 |some o=>
  have hx:=x a o q
  have:∃u,h.get? a=some u:=by
   cases o with
   |lst xs=>obtain ⟨_,_,_,_,z⟩:=hx;exact ⟨_,z⟩
   |tup xs=>obtain ⟨_,_,_,o,z,_⟩:=hx;exact ⟨_,z⟩
   |dK kvs=>obtain ⟨_,_,_,_,o,_,_,z,_⟩:=hx;exact ⟨_,z⟩
   |dT kvs=>obtain ⟨_,_,_,_,o,_,_,z,_⟩:=hx;exact ⟨_,z⟩
   |set S n=>obtain ⟨o,_,_,_,z,_⟩:=hx;exact ⟨_,z⟩
   |ins C dx fs=>obtain ⟨_,_,_,z,_⟩:=hx;exact ⟨_,z⟩
   |own y=>exact hx
   |xd fs=>obtain ⟨_,⟨_,_,_,z,_⟩,_⟩:=hx;exact ⟨_,z⟩
   |rng lo hi=>obtain ⟨_,_,_,z⟩:=hx;exact ⟨_,z⟩
   |frz ob u=>obtain ⟨z,_⟩:=hx;exact ⟨_,z⟩
   |tbl ps=>exact ⟨_,hx⟩
   |met f y=>exact ⟨_,hx⟩
   |ext φ=>exact hx.2.1
  obtain ⟨u,z⟩:=this
  rw [e] at z;cases z
theorem Inv.zd {a:Addr} {o:HO} {t':Nat} (I:Inv X pins σ H s) (k:∀b u,s.heap.get? b=some u->h'.get? b=some u) (hp:s.heap.get? a=none) (new:aR X.prog X.w (upd H a o) h' a o):
  Inv X pins σ (upd H a o) {s with heap:=h',toks:=t'}:=by
 have hn:=HOk.wg I.hok hp
 refine I.un (Un.mk (fun b u q _ _ _=>k b u q) (fun b u q _ _ _=>⟨u.slots,k b u q⟩) (fun b u q n _=>?_) (fun b u q _=>⟨u,k b u q⟩) (fun b xs q=>?_) (fun b u xs q=>?_) fun b ps q=>⟨#[],?_⟩) fun b u q=>?_
 ·rw [ag (fun z=>by rw [z,hp] at q;cases q)];exact n
 ·rw [ag (aj q hn)];exact q
 ·rw [ag (aj q hn)];exact q
 ·rw [ag (aj q hn),q];simp
 ·by_cases hb:b=a
  ·subst hb;rw [au] at q;cases q;exact new
  ·rw [ag hb] at q
   exact (I.hok b u q).eA (fun c v _ z=>k c v z) (fun c z=>by rw [ag (aj z hn)];exact z) fun c xs z=>by rw [ag (aj z hn)];exact z
end
section
variable {X:Cx} {pins:List (Addr×Obj)} {σ:St} {H:Hp} {s:Shared} {C f:Addr} {k:Nat} {CX:CXT} {fd:FuncData} {ps:List Str} {sp:Sp} {E:XK} {x:Str} {p pos:Pos} {e:Expr} {es:List Expr} {t:TA}
theorem xo {us:List Value} {Q:VK} (I:Inv X pins σ H s) (hm:excIn X.K C bmV "ValueError.__new__"=true) (hl:us.length<=sizeLine) (h:∀a,H a=none->Q (.ref a) (upd H a (aJ true a C none))):
  wpAny (model X.prog X.w) X.A (call (.ref C) us) (EP X pins σ Q) X.xe s:=by
 have K:=I.kIn
 unfold excIn at hm
 split at hm
 ·rename_i dd cd sl ho
  split at hm
  ·rename_i C' bm k0 k1 k2 k3 n k5 e1 e2
   simp only [Bool.and_eq_true,beq_iff_eq,Bool.not_eq_true'] at hm
   obtain ⟨⟨⟨⟨⟨rfl,rfl⟩,hdel⟩,ht⟩,hok⟩,hni⟩:=hm
   obtain ⟨nm,bs,mro,ns,qn,hd,sn,sub,ab,col,del⟩:=cd
   dsimp only at e1 hdel hok hni
   subst e1 hdel
   have hsl:sl=#[k0,k1,k2,k3,some (.builtin "ValueError.__new__"),k5]:=by
    obtain ⟨l⟩:=sl
    exact congrArg Array.mk e2
   subst hsl
   obtain ⟨hh,g,d,tk,os⟩:=s
   refine wpAny_call_exc_subT PySem.F.excBase_ValueError (tail_of_in K ht) (K _ _ ho) (.of_isNs (isNs_of_in K hok)) (nsMap_none_of_in K hok hni) (fun h' a made=>?_) hl
   obtain ⟨tt,h1,_,_⟩:=made.there
   exact ⟨.ref a,_,CT.Inv.zd (t':=tk) I made.keeps made.new (kY h1 rfl fun _=>rfl),rfl,h a (HOk.wg I.hok made.new)⟩
  ·cases hm
 ·cases hm
noncomputable def tX0 (C:Addr):TE:=fun _ H Q=>∀a,H a=none->Q (.ref a) (upd H a (aJ true a C none))
theorem tN (hm:excIn X.K C bmV "ValueError.__new__"=true) (hk:keepIn X.K (.ref C)=true) (hg:Gl X x) (hx:X.mg x=some (.ref C)) (hdb:(x==("__debug__":Str))=false:=by decide):PE X (.Call (.Name x p) [] [] pos) (tX0 C):=by
 intro pins s σ H Q I h
 refine wpAny_Call_Name_kw (cT I hg hx ?_ hdb)
 exact callWith_K0 I.kIn hk (xo (us:=[]) I hm (Nat.zero_le _) h)
structure XMk (K:Frag) (C f:Addr):Prop where
 makes:jc K C=true
 init:findIn K (.ref C) "__init__"=some (some (.ref f))
 fn:isFn K (.ref f)=true
 kp:keepIn K (.ref C)=true
theorem zf {Q:VK} {us:List Value} {vs:List V} (M:XMk X.K C f) (F:aA X.prog X.w X.K X.mg X.base CX k f fd ps sp) (hr:ay (k+1) X.A) (hb:Binds X.K fd ps []) (hx:Passes CX X E) (I:Inv X pins σ H s) (r:Vals vs us) (hl:us.length<=sizeLine)
  (h:∀a,H a=none->sp (.ref a::vs) (upd H a (aJ true a C none)) (fun v H2=>v=.non∧Q (.ref a) H2) E):wpAny (model X.prog X.w) X.A (call (.ref C) us) (EP X pins σ Q) X.xe s:=by
 have hq:=h (s.heap.objs.size+1) (I.hok.fresh (Nat.le_succ _))
 have hg:((s.heap.push (cn us)).push (bM C s.heap.objs.size)).get? (s.heap.objs.size+1)=some (bM C s.heap.objs.size):=by heap_get
 have I2:Inv X pins σ (upd H (s.heap.objs.size+1) (aJ true (s.heap.objs.size+1) C none)) {s with heap:=(s.heap.push (cn us)).push (bM C s.heap.objs.size)}:=
  I.laid (t':=s.toks) (fun b u q=>Heap.get?_push_of_some _ (Heap.get?_push_of_some _ q)) (Nat.le_succ _) (kY hg rfl fun _=>rfl)
 have r2:Vals (V.ref (s.heap.objs.size+1)::vs) (Value.ref (s.heap.objs.size+1)::us):=.cons rfl r
 have hn:(Value.ref (s.heap.objs.size+1)::us).length=ps.length:=by rw [←r2.length];exact F.len _ _ _ _ hq
 refine wpAny_call (x9 I.kIn M.makes M.init (beq_iff_eq.mp M.fn) hl (codeAny_mono (F.run _ X.stack _ _ ⟨Value.ref (s.heap.objs.size+1)::us,[]⟩ (Value.ref (s.heap.objs.size+1)::us) _ _ E (hr.make C us [])
  (I2.k6.make C us []) (by have:=hb _ (Value.ref (s.heap.objs.size+1)::us) I2.kIn (by rw [List.append_nil];exact hn);rw [List.append_nil] at this;exact this) r2 hq) fun r s' hq'=>?_))
 cases r with
 |error e=>exact hx pins σ _ _ e s' I2 hq'
 |ok fl=>
  cases fl with
  |ret u=>
   obtain ⟨v,H',I3,rv,ev,q3⟩:=I2.after hq'
   subst ev
   exact ⟨rv,V.ref (s.heap.objs.size+1),H',I3,rfl,q3⟩
  |next=>exact False.elim hq'
  |brk=>exact False.elim hq'
  |cont=>exact False.elim hq'
noncomputable def Bm (C:Addr) (sp:Sp) (E:XK) (t:TA):TE:=fun σ H Q=>t σ H fun vs H1=>vs.length<=1000∧∀a,H1 a=none->sp (.ref a::vs) (upd H1 a (aJ true a C none)) (fun v H2=>v=.non∧Q (.ref a) H2) E
theorem ql (M:XMk X.K C f) (F:aA X.prog X.w X.K X.mg X.base CX k f fd ps sp) (hr:ay (k+1) X.A) (hg:Gl X x) (hm:X.mg x=some (.ref C)) (hb:Binds X.K fd ps []) (hx:Passes CX X E) (ha:PA X (e::es) t)
  (hdb:(x==("__debug__":Str))=false:=by decide) (he:starEach (e::es) X.env=(false,eval e X.env)::starEach es X.env:=by rfl) (hpl:(backTo pos (starEach es X.env)).any (·.1)=false:=by rfl):
  PE X (.Call (.Name x p) (e::es) [] pos) (Bm C sp E t):=by
 intro pins s σ H Q I h
 refine wpAny_Call_Name_kw (cT I hg hm ?_ hdb)
 refine callWith_K (h₀:=X.base) I.ok.mod.kin M.kp (thn (ha pos pins s σ H _ I h) fun us s1 ⟨vs,H1,I1,r,hl,q⟩=>⟨I1.kIn,?_⟩) he hpl
 exact zf M F hr hb hx I1 r (by show us.length<=_;rw [←r.length,sizeLine_eq];omega) q
end
noncomputable def spX (C:Addr) (fls:List Str):Sp:=fun vs H Q _=>∃a us,vs=.ref a::us∧us.length=fls.length∧H a=some (aJ true a C none)∧
 ∀d H',H d=none->d≠a->H' a=some (aJ true a C (some d))->H' d=some (jk d (fls.zip us))->(∀b,b≠a->b≠d->H' b=H b)->Q .non H'
end CT
namespace CT
open PySem
inductive PK where
 |i (n:Int)
 |t (l:List PK)
mutual
noncomputable def PK.py:PK->PyData
 |.i n=>.int n
 |.t l=>.tuple (PK.pyL l)
noncomputable def PK.pyL:List PK->List PyData
 |[]=>[]
 |k::ks=>PK.py k::PK.pyL ks
end
mutual
noncomputable def PK.hs:PK->Int
 |.i n=>hashInt n
 |.t l=>reduceHash (Builtin.Tuple.tupleHashOf (PK.hsL l))
noncomputable def PK.hsL:List PK->List Int
 |[]=>[]
 |k::ks=>PK.hs k::PK.hsL ks
end
mutual
noncomputable def PK.dr:PK->Nat
 |.i _=>1
 |.t l=>PK.drL l+1
noncomputable def PK.drL:List PK->Nat
 |[]=>0
 |k::ks=>PK.dr k+PK.drL ks
end
mutual
noncomputable def PK.dp:PK->Nat
 |.i _=>0
 |.t l=>PK.dpL l+1
noncomputable def PK.dpL:List PK->Nat
 |[]=>0
 |k::ks=>max (PK.dp k) (PK.dpL ks)
end
mutual
noncomputable def b5 (h:Heap):PK->Value->Prop
 |.i n,v=>∃tk,v=.int n tk
 |.t l,v=>∃a o its n,v=.ref a∧h.get? a=some o∧o.cls=.type "tuple"∧o.data=.seq its n∧bh h l its.toList
noncomputable def bh (h:Heap):List PK->List Value->Prop
 |[],vs=>vs=[]
 |k::ks,vs=>∃v us,vs=v::us∧b5 h k v∧bh h ks us
end
mutual
theorem b5.inj {h:Heap}:∀{x y:PK} {v:Value},b5 h x v->b5 h y v->x=y
 |.i n,.i m,v,⟨tk,e1⟩,⟨tk',e2⟩=>by rw [e1] at e2;cases e2;rfl
 |.i n,.t l,v,⟨tk,e1⟩,⟨a,_,_,_,e2,_⟩=>by rw [e1] at e2;cases e2
 |.t l,.i n,v,⟨a,_,_,_,e2,_⟩,⟨tk,e1⟩=>by rw [e1] at e2;cases e2
 |.t l,.t l',v,⟨a,o,its,n,e1,g1,_,d1,r1⟩,⟨a',o',its',n',e2,g2,_,d2,r2⟩=>by
  rw [e1] at e2;cases e2
  rw [g1] at g2;cases g2
  rw [d1] at d2;cases d2
  rw [bh.inj r1 r2]
theorem bh.inj {h:Heap}:∀{x y:List PK} {vs:List Value},bh h x vs->bh h y vs->x=y
 |[],[],_,_,_=>rfl
 |[],_::_,_,e,⟨_,_,e',_⟩=>by rw [show _=_ from e] at e';cases e'
 |_::_,[],_,⟨_,_,e',_⟩,e=>by rw [show _=_ from e] at e';cases e'
 |k::ks,k'::ks',vs,⟨v,us,e,a,b⟩,⟨v',us',e',a',b'⟩=>by
  rw [e] at e';cases e'
  rw [b5.inj a a',bh.inj b b']
end
mutual
theorem b5.keep {h h':Heap} (hk:∀b o its n,h.get? b=some o->o.data=.seq its n->h'.get? b=some o):∀{x:PK} {v:Value},b5 h x v->b5 h' x v
 |.i _,_,e=>e
 |.t _,_,⟨a,o,its,n,e1,g,c,d,r⟩=>⟨a,o,its,n,e1,hk _ _ _ _ g d,c,d,bh.keep hk r⟩
theorem bh.keep {h h':Heap} (hk:∀b o its n,h.get? b=some o->o.data=.seq its n->h'.get? b=some o):∀{x:List PK} {vs:List Value},bh h x vs->bh h' x vs
 |[],_,e=>e
 |_::_,_,⟨v,us,e,a,b⟩=>⟨v,us,e,b5.keep hk a,bh.keep hk b⟩
end
mutual
theorem b5.reads {h:Heap}:∀{x:PK} {v:Value},b5 h x v->∃as,Reads h v x.py as
 |.i n,_,⟨tk,e⟩=>by subst e;exact ⟨_,.int n tk⟩
 |.t l,_,⟨a,o,its,n,e1,g,c,d,r⟩=>by
  subst e1
  obtain ⟨as,ra⟩:=bh.reads r
  exact ⟨_,.tuple g c d ra⟩
theorem bh.reads {h:Heap}:∀{x:List PK} {vs:List Value},bh h x vs->∃as,ReadsAll h vs (PK.pyL x) as
 |[],_,e=>by cases (show _=_ from e);exact ⟨_,.nil⟩
 |_::_,_,⟨v,us,e,a,b⟩=>by
  subst e
  obtain ⟨as,ra⟩:=b5.reads a
  obtain ⟨bs,rb⟩:=bh.reads b
  exact ⟨_,.cons ra rb⟩
end
mutual
theorem PK.lay:∀k:PK,k.py.canLay0=true
 |.i _=>rfl
 |.t l=>PK.yQ l
theorem PK.yQ:∀l:List PK,PyData.canLayAll0 (PK.pyL l)=true
 |[]=>rfl
 |k::ks=>by
  show (PyData.canLay0 (PK.py k)&&PyData.canLayAll0 (PK.pyL ks))=true
  rw [PK.lay k,PK.yQ ks];rfl
end
mutual
theorem PK.dep:∀k:PK,k.py.depth=k.dp
 |.i _=>rfl
 |.t l=>by
  show PyData.depthAll (PK.pyL l)+1=PK.dpL l+1
  rw [PK.wm l]
theorem PK.wm:∀l:List PK,PyData.depthAll (PK.pyL l)=PK.dpL l
 |[]=>rfl
 |k::ks=>by
  show max (PyData.depth (PK.py k)) (PyData.depthAll (PK.pyL ks))=max (PK.dp k) (PK.dpL ks)
  rw [PK.dep k,PK.wm ks]
end
noncomputable instance:DecidableEq PK:=fun a b=>Classical.propDecidable (a=b)
mutual
theorem PK.eqv:∀a b:PK,PyData.eqv a.py b.py=decide (a=b)
 |.i n,.i m=>by
  show decide (n=m)=_
  by_cases h:n=m<;>simp [h]
 |.i n,.t l=>by rw [decide_eq_false (by intro e;cases e)];rfl
 |.t l,.i n=>by rw [decide_eq_false (by intro e;cases e)];rfl
 |.t l,.t l'=>by
  show PyData.eqvAll (PK.pyL l) (PK.pyL l')=_
  rw [PK.y6 l l']
  by_cases h:l=l'<;>simp [h]
theorem PK.y6:∀a b:List PK,PyData.eqvAll (PK.pyL a) (PK.pyL b)=decide (a=b)
 |[],[]=>by rw [decide_eq_true rfl];rfl
 |[],_::_=>by rw [decide_eq_false (by intro e;cases e)];rfl
 |_::_,[]=>by rw [decide_eq_false (by intro e;cases e)];rfl
 |k::ks,k'::ks'=>by
  show (PyData.eqv (PK.py k) (PK.py k')&&PyData.eqvAll (PK.pyL ks) (PK.pyL ks'))=_
  rw [PK.eqv k k',PK.y6 ks ks']
  by_cases h:k=k'<;>by_cases h2:ks=ks'<;>simp [h,h2]
end
section
variable {prog:Program} {w:World} {E:Value->Shared->Prop}
theorem zo {A:Around} {s:Shared} {x y:PK} {u v:Value} {Q:Bool->Shared->Prop} (hu:A.units+min x.dp y.dp<cLine) (hx:b5 s.heap x u) (hy:b5 s.heap y v) (h:Q (decide (x=y)) s):wpAny (model prog w) A (eqBool u v) Q E s:=by
 obtain ⟨as,ra⟩:=hx.reads
 obtain ⟨bs,rb⟩:=hy.reads
 refine SeqAt.eqAt_reads _ _ A s u v as bs ra rb x.lay y.lay (by rw [PK.dep,PK.dep];exact hu) prog w E Q ?_
 rw [PK.eqv];exact h
end
end CT
namespace CT
open PySem
theorem rk {k:PK} {ks:List PK}:PK.dpL (k::ks)=max k.dp (PK.dpL ks):=rfl
theorem i7:∀(a b:List PK),PK.hsL (a++b)=PK.hsL a++PK.hsL b
 |[],_=>rfl
 |k::ks,b=>by show PK.hs k::PK.hsL (ks++b)=_;rw [i7 ks b];rfl
theorem iW:∀(a b:List PK),PK.drL (a++b)=PK.drL a+PK.drL b
 |[],_=>by show _=0+_;rw [Nat.zero_add];rfl
 |k::ks,b=>by show PK.dr k+PK.drL (ks++b)=(PK.dr k+PK.drL ks)+_;rw [iW ks b];omega
section
variable {prog:Program} {w:World}
theorem vn:∀(n:Nat) (k:PK),k.dp<=n->∀{A:Around} {E:Value->Shared->Prop} {s:Shared} {v:Value} {Q:Int->Shared->Prop},A.units+n<cLine->b5 s.heap k v->Q k.hs {s with toks:=s.toks+k.dr}->
  wpAny (model prog w) A (pyHash v) Q E s:=by
 intro n
 induction n with
 |zero=>
  intro k hk A E s v Q hu hi h
  cases k with
  |i m=>obtain ⟨tk,e⟩:=hi;subst e;exact wpAny_pyHash_int h
  |t l=>exact absurd (show PK.dpL l+1<=0 from hk) (by omega)
 |succ n ih=>
  intro k hk A E s v Q hu hi h
  cases k with
  |i m=>obtain ⟨tk,e⟩:=hi;subst e;exact wpAny_pyHash_int h
  |t l=>
   obtain ⟨a,o,its,m,e,g,c,d,r⟩:=hi
   subst e
   have hl:PK.dpL l<=n:=by have:PK.dpL l+1<=n+1:=hk;omega
   have T:s.TypeIs (.ref a) "tuple":=⟨o,g,c⟩
   have no:¬((some (Value.builtin "tuple.__hash__")==some Value.none)=true):=by rw [beq_builtin_none];exact Bool.false_ne_true
   unfold pyHash
   first|unfold pyHashByItsType|skip
   first|refine wpAny_bind (wpAny_cRoomFor_or (.inr (by omega)) ?_)|skip
   refine wpAny_bind (wpAny_specialOf T F.slot_tuple_hash.lookup ?_);show wpAny _ _ (if (some (Value.builtin "tuple.__hash__")==some Value.none)=true then _ else _) Q E s
   rw [if_neg no]
   refine wpAny_bind (wpAny_specialOf T F.slot_tuple_hash.lookup ?_);show wpAny _ _ (callSpecialIfBoundUnlessNone? (.ref a) "__hash__" _>>=_) Q E s
   refine wpAny_bind (wpAny_callSpecialIfBoundUnlessNone?_slot T F.slot_tuple_hash (wpAny_call_entry F.slot_tuple_hash T F.entry_tuple_hash ?_ (F.args_tuple_hash_1 _)))
   show wpAny _ _ (Builtin.Tuple.tupleItemsOf (.ref a)>>=_) _ _ s
   refine wpAny_bind (wpAny_tupleItemsOf g d ?_)
   refine wpAny_bind ?_;rw [←Array.forIn_toList]
   refine wpAny_forIn_list _ (fun rest (b:Array Int) s'=>∃dn lf,l=dn++lf∧bh s.heap lf rest∧b.toList=PK.hsL dn∧s'={s with toks:=s.toks+PK.drL dn}) _ ?_ ?_ _ _ ⟨[],l,rfl,r,rfl,rfl⟩
   ·rintro x rest b s' ⟨dn,lf,e1,hl',hb,e2⟩
    subst e1 e2
    cases lf with
    |nil=>exact nomatch (show x::rest=[] from hl')
    |cons k' ks'=>
     obtain ⟨v',us,e3,ha,ht⟩:=hl'
     cases e3
     have hk':k'.dp<=n:=by
      have:∀(dn:List PK),k'.dp<=PK.dpL (dn++k'::ks'):=by
       intro dn
       induction dn with
       |nil=>show k'.dp<=max _ _;omega
       |cons z zs ihz=>show k'.dp<=max _ (PK.dpL (zs++k'::ks'));omega
      exact Nat.le_trans (this dn) hl
     refine wpAny_bind (ih k' hk' (show A.in1.units+n<cLine by show A.units+1+n<cLine;omega) (s:={s with toks:=s.toks+PK.drL dn}) ha ?_)
     have fin:∃dn' lf',dn++k'::ks'=dn'++lf'∧bh s.heap lf' rest∧(b.push (PK.hs k')).toList=PK.hsL dn'∧({s with toks:=s.toks+PK.drL dn+PK.dr k'}:Shared)={s with toks:=s.toks+PK.drL dn'}:=
      ⟨dn++[k'],ks',by simp,ht,by rw [Array.toList_push,hb,i7];rfl,by rw [iW];show _={s with toks:=s.toks+(PK.drL dn+(PK.dr k'+0))};rw [Nat.add_zero,Nat.add_assoc]⟩
     first
      |exact wpAny_pure fin
      |exact wpAny_bind (wpAny_pure (wpAny_pure fin))
   ·rintro b s' ⟨dn,lf,e1,hl',hb,e2⟩
    subst e1 e2
    cases lf with
    |cons _ _=>obtain ⟨_,_,e3,_⟩:=hl';cases e3
    |nil=>
     rw [List.append_nil] at h
     show wpAny _ _ (retInt (Builtin.Tuple.tupleHashOf b.toList)) _ _ _
     rw [hb]
     refine wpAny_ret_mkInt ?_
     change Q (reduceHash (Builtin.Tuple.tupleHashOf (PK.hsL dn))) {s with toks:=s.toks+(PK.drL dn+1)} at h
     generalize Builtin.Tuple.tupleHashOf (PK.hsL dn)=z at h ⊢
     show wpAny _ _ (if (decide (-(2:Int)^63<=z)&&decide (z<2^63))=true then _ else _) Q E _
     unfold reduceHash at h
     by_cases hz:(decide (-(2:Int)^63<=z)&&decide (z<2^63))=true
     ·rw [if_pos hz] at h ⊢
      exact wpAny_pure (by simpa [Nat.add_assoc] using h)
     ·rw [if_neg hz] at h ⊢
      exact wpAny_bind (wpAny_rule (wpAny_pure (by simpa [Nat.add_assoc] using h)))
theorem qV:∀(n:Nat) (k:PK),k.dp<=n->∀{A:Around} {E:Value->Shared->Prop} {s:Shared} {v:Value} {Q:Bool->Shared->Prop},b5 s.heap k v->Q true s->wpAny (model prog w) A (eqIsQuiet n v) Q E s:=by
 intro n
 induction n with
 |zero=>
  intro k hk A E s v Q hi h
  cases k with
  |i m=>obtain ⟨tk,e⟩:=hi;subst e;rw [eqIsQuiet_byValue _ (by rfl)];exact wpAny_pure h
  |t l=>exact absurd (show PK.dpL l+1<=0 from hk) (by omega)
 |succ n ih=>
  intro k hk A E s v Q hi h
  cases k with
  |i m=>obtain ⟨tk,e⟩:=hi;subst e;rw [eqIsQuiet_byValue _ (by rfl)];exact wpAny_pure h
  |t l=>
   obtain ⟨a,o,its,m,e,g,c,d,r⟩:=hi
   subst e
   have hl:PK.dpL l<=n:=by have:PK.dpL l+1<=n+1:=hk;omega
   have T:s.TypeIs (.ref a) "tuple":=⟨o,g,c⟩
   unfold eqIsQuiet
   refine wpAny_bind (wpAny_specialOf T F.slot_tuple_eq.lookup ?_);show wpAny _ _ (isInstance (.ref a) (.type "tuple")>>=_) _ _ s
   refine wpAny_bind (wpAny_isInstance T isSubtype_tuple_tuple ?_);simp only [Bool.not_true,Bool.false_eq_true,if_false]
   refine wpAny_bind (wpAny_seqItems g d ?_)
   refine wpAny_bind ?_
   show wpAny _ _ (forIn its _ _) _ _ s;rw [←Array.forIn_toList]
   refine wpAny_forIn_list _ (fun rest q s'=>q.1=none∧s'=s∧∃lf,PK.dpL lf<=n∧bh s.heap lf rest) _ ?_ ?_ _ _ ⟨rfl,rfl,l,hl,r⟩
   ·rintro x rest q s' ⟨hq,e1,lf,hlf,hr⟩
    subst e1
    cases lf with
    |nil=>exact nomatch (show x::rest=[] from hr)
    |cons k' ks'=>
     obtain ⟨v',us,e3,ha,ht⟩:=hr
     cases e3
     rw [rk] at hlf
     refine wpAny_bind (ih k' (by omega) ha ?_);simp only [Bool.not_true,Bool.false_eq_true,if_false]
     exact wpAny_pure ⟨rfl,rfl,ks',by omega,ht⟩
   ·rintro ⟨q1,q2⟩ s' ⟨hq,e1,_⟩
    subst e1
    cases (show q1=none from hq)
    exact wpAny_pure h
noncomputable def kE (prog:Program) (w:World):HeapKind prog w PK where
 is:=fun h k a=>b5 h k (.ref a)∧k.dp<=8
 hash:=PK.hs
 draws:=PK.dr
 room:=fun A=>A.units+8<cLine
 inj:=fun hx hy=>hx.1.inj hy.1
 keeps:=fun x ho hd hs=>⟨x.1.keep fun b o its n hb hb2=>(hs.2 b (by
  rintro rfl
  rw [ho] at hb
  cases hb
  rw [hd] at hb2
  cases hb2)).trans hb,x.2⟩
 pyHash:=fun hu hk h=>vn 8 _ hk.2 hu hk.1 h
 eqBool:=fun {A E s x y a b Q} hu hx hy h=>zo (by have:=hx.2;have:=hy.2;omega) hx.1 hy.1 h
 quiet:=fun hk h=>qV 8 _ hk.2 hk.1 h
end
end CT
namespace CT
open PySem
section
variable {prog:Program} {w:World} {E:Value->Shared->Prop} {K:Type} [DecidableEq K] {knd:HeapKind prog w K} {A:Around} {s:Shared}
noncomputable def cu (knd:HeapKind prog w K) (h:Heap) (d:Addr) (xs:List (K×Addr×Value)) (ep:Nat):Prop:=
 ∃o es,h.get? d=some o∧o.ExactDict∧o.data=.dict es ep∧es.toList=xs.map (entryOfKey knd)∧(xs.map (·.1)).Nodup
theorem cu.keep {h h':Heap} {d:Addr} {xs:List (K×Addr×Value)} {ep:Nat} (x:cu knd h d xs ep) (k:∀o,h.get? d=some o->h'.get? d=some o):cu knd h' d xs ep:=let ⟨o,es,g,r⟩:=x;⟨o,es,k o g,r⟩
theorem cu.new (h:Heap):cu knd (h.push {cls:=.type "dict",data:=.dict #[]}) h.objs.size [] 0:=⟨_,#[],Heap.get?_push_size _ rfl,⟨rfl,rfl,rfl⟩,rfl,rfl,List.nodup_nil⟩
end
end CT
namespace CT
open PySem
noncomputable def Sit (h:Heap) (b:Bool) (i a:Addr) (k:Nat):Prop:=match b with|true=>h.IsTupleIter i a k|false=>h.IsListIter i a k
noncomputable def Ssq (h:Heap) (b:Bool) (a:Addr) (xs:Array Value):Prop:=match b with|true=>h.IsTuple a xs|false=>h.IsList a xs
theorem Sit.at {h h':Heap} {b:Bool} {i a:Addr} {k:Nat} (x:Sit h b i a k) (e:∀o,h.get? i=some o->h'.get? i=some o):Sit h' b i a k:=by
 cases b with
 |true=>obtain ⟨o,ho,r⟩:=x;exact ⟨o,e o ho,r⟩
 |false=>exact Heap.IsListIter.at x e
theorem Ssq.at {h h':Heap} {b:Bool} {a:Addr} {xs:Array Value} (x:Ssq h b a xs) (e:∀o,h.get? a=some o->h'.get? a=some o):Ssq h' b a xs:=by
 cases b with
 |true=>obtain ⟨o,ho,r⟩:=x;exact ⟨o,e o ho,r⟩
 |false=>exact Heap.IsList.at x e
theorem Sit.rec {h:Heap} {b:Bool} {i a:Addr} {k:Nat} (x:Sit h b i a k):∃o n vs,h.get? i=some o∧o.cls=.type n∧o.data=.fields vs:=by
 cases b with
 |true=>obtain ⟨o,ho,c,d⟩:=x;exact ⟨o,_,_,ho,c,d⟩
 |false=>obtain ⟨o,ho,c,d⟩:=x;exact ⟨o,_,_,ho,c,d⟩
section
variable {prog:Program} {w:World} {A:Around} {E:Value->Shared->Prop} {s:Shared}
theorem gU {it t:Addr} {i:Nat} {items} {x:Value} {Q:Value->Shared->Prop} (hit:s.heap.IsTupleIter it t i) (ht:s.heap.IsTuple t items) (hx:items[i]?=some x)
  (hQ:∀h',h'.IsTupleIter it t (i+1)->Heap.SameBut it s.heap h'->Q x {s with heap:=h'}):wpAny (model prog w) A (Builtin.SmallTypes.nextOf (.ref it)) Q E s:=by
 obtain ⟨o,ho,hc,hd⟩:=id hit
 obtain ⟨ol,hol,_,nl,hdl⟩:=ht
 unfold Builtin.SmallTypes.nextOf
 refine wpAny_bind (wpAny_callSpecial?_slot (name:=Str.ofString "__next__") hit.typeIs F.slot_tuple_iterator_next
  (wpAny_call_entry F.slot_tuple_iterator_next hit.typeIs F.entry_tuple_iterator_next ?_ (F.args_tuple_iterator_next_1 _)))
 show wpAny _ _ (field (.ref it) 0>>=_) _ _ s
 refine wpAny_bind (wpAny_field ho hd (x:=.ref t) rfl ?_)
 show wpAny _ _ (if (Value.ref t==Value.none)=true then _ else _) _ _ s
 rw [if_neg (show ¬((Value.ref t==Value.none)=true) from Bool.false_ne_true)]
 show wpAny _ _ (field (.ref it) 1>>=_) _ _ s
 refine wpAny_bind (wpAny_field ho hd (x:=.int i 0) rfl ?_)
 show wpAny _ _ (seqItems? (.ref t)>>=_) _ _ s
 refine wpAny_bind (wpAny_seqItems hol hdl ?_)
 simp only [Int.toNat_natCast,hx]
 refine wpAny_bind (wpAny_setField ho hd (by simp) (wpAny_pure ⟨x,rfl,wpAny_pure (hQ _ ?_ (Heap.SameBut.update ..))⟩))
 exact ⟨_,Heap.get?_update_self _ ho (Obj.isFreed_of_fields (Obj.data_mapFields hd _)),(Obj.cls_mapFields ..).trans hc,by
  rw [Obj.data_mapFields hd];simp [rawInt]⟩
theorem iu {it t:Addr} {i:Nat} {items} {Q:Value->Shared->Prop} (hh:A.handled=none) (hit:s.heap.IsTupleIter it t i) (ht:s.heap.IsTuple t items) (hx:items[i]?=none)
  (hE:∀h' e,Heap.ExtBut it s.heap h'->(∃o,h'.get? e=some o∧o.cls=.type "StopIteration")->E (.ref e) {s with heap:=h'}):
  wpAny (model prog w) A (Builtin.SmallTypes.nextOf (.ref it)) Q E s:=by
 obtain ⟨o,ho,hc,hd⟩:=id hit
 obtain ⟨ol,hol,_,nl,hdl⟩:=ht
 unfold Builtin.SmallTypes.nextOf
 refine wpAny_bind (wpAny_callSpecial?_slot (name:=Str.ofString "__next__") hit.typeIs F.slot_tuple_iterator_next
  (wpAny_call_entry F.slot_tuple_iterator_next hit.typeIs F.entry_tuple_iterator_next ?_ (F.args_tuple_iterator_next_1 _)))
 show wpAny _ _ (field (.ref it) 0>>=_) _ _ s
 refine wpAny_bind (wpAny_field ho hd (x:=.ref t) rfl ?_)
 show wpAny _ _ (if (Value.ref t==Value.none)=true then _ else _) _ _ s
 rw [if_neg (show ¬((Value.ref t==Value.none)=true) from Bool.false_ne_true)]
 show wpAny _ _ (field (.ref it) 1>>=_) _ _ s
 refine wpAny_bind (wpAny_field ho hd (x:=.int i 0) rfl ?_)
 show wpAny _ _ (seqItems? (.ref t)>>=_) _ _ s
 refine wpAny_bind (wpAny_seqItems hol hdl ?_)
 simp only [Int.toNat_natCast,hx]
 refine wpAny_bind (wpAny_rule (wpAny_bind (wpAny_setField ho hd (by simp) ?_)))
 show wpAny _ _ (newExc (.type "StopIteration") []>>=_) _ _ _
 refine wpAny_bind ?_
 simp only [newExc,newTuple]
 refine wpAny_bind (wpAny_newObj_type ?_ (by size_fits))
 refine wpAny_bind (m:=firstArgMember _ _) (wpAny_of_eq (a:=Value.none) (by first|rfl|(simp only [firstArgMember];rfl)) ?_)
 refine wpAny_newObj_type ?_ (by size_fits)
 simp only [raiseNew]
 refine wpAny_bind (wpAny_handled ?_)
 first|rw [show A.in1.handled=none from hh]|rw [hh]
 refine wpAny_bind (wpAny_pure (wpAny_throw ?_))
 exact hE _ _ (((Heap.SameBut.update ..).extBut.push _).push _) ⟨_,Heap.get?_push_size _ rfl,rfl⟩
theorem bg {b:Bool} {it a:Addr} {i:Nat} {items:Array Value} {x:Value} {Q:Value->Shared->Prop} (hit:Sit s.heap b it a i) (hl:Ssq s.heap b a items) (hx:items[i]?=some x)
  (hQ:∀h',Sit h' b it a (i+1)->Heap.SameBut it s.heap h'->Q x {s with heap:=h'}):wpAny (model prog w) A (Builtin.SmallTypes.nextOf (.ref it)) Q E s:=by
 cases b with
 |true=>exact gU hit hl hx hQ
 |false=>exact wpAny_nextOf_list_item hit hl hx hQ
theorem bX {b:Bool} {it a:Addr} {i:Nat} {items:Array Value} {Q:Value->Shared->Prop} (hh:A.handled=none) (hit:Sit s.heap b it a i) (hl:Ssq s.heap b a items) (hx:items[i]?=none)
  (hE:∀h' e,Heap.ExtBut it s.heap h'->(∃o,h'.get? e=some o∧o.cls=.type "StopIteration")->E (.ref e) {s with heap:=h'}):wpAny (model prog w) A (Builtin.SmallTypes.nextOf (.ref it)) Q E s:=by
 cases b with
 |true=>exact iu hh hit hl hx hE
 |false=>exact wpAny_nextOf_list_end hh hit hl hx hE
noncomputable abbrev ar (h:Heap) (T:Addr) (vs:Array Value):Prop:=h.get? T=some {cls:=.type "tuple",data:=.seq vs}
theorem y4:8<=sizeLine:=by rw [sizeLine_eq];decide
theorem aX {T:Addr} {vs:Array Value} {x:Value} {k:Nat} {Q:Unit->Shared->Prop} (hT:ar s.heap T vs) (hv:vs.size<=8)
  (h:∀h',ar h' T (vs.setIfInBounds k x)->Heap.SameBut T s.heap h'->Q () {s with heap:=h'}):wpAny (model prog w) A (updateSeq T (·.setIfInBounds k x)) Q E s:=by
 have h8:=y4
 refine wpAny_updateSeq hT rfl (h _ ?_ (Heap.SameBut.update ..)) (hz:=by omega) (_hz':=by simp;omega)
 show Heap.get? _ _=_
 rw [Heap.get?_update_self _ hT rfl]
 simp [Obj.mapSeq]
theorem ne3 {l:List Addr} {a b:Addr} (ha:a∉l) (hb:b∈l):a≠b:=fun e=>ha (e▸hb)
theorem pf {z TI TO i1 i2 a1 a2:Addr} {b1 b2:Bool} {k:Nat} {xs ys ts:Array Value} {x y:Value} {Q:Value->Shared->Prop}
  (nd:[z,TI,TO,i1,i2].Nodup) (n1:a1∉[z,TO,i1,i2]) (n2:a2∉[z,TO,i1,i2])
  (hz:IsZip s.heap z TI TO .none) (hTI:ar s.heap TI #[.ref i1,.ref i2]) (hTO:ar s.heap TO ts) (hts:ts.size=2)
  (h1:Sit s.heap b1 i1 a1 k) (h2:Sit s.heap b2 i2 a2 k) (hl1:Ssq s.heap b1 a1 xs) (hl2:Ssq s.heap b2 a2 ys) (hx:xs[k]?=some x) (hy:ys[k]?=some y)
  (hQ:∀h',IsZip h' z TI TO (rawInt s.heap.objs.size)->ar h' TO #[x,y]->Sit h' b1 i1 a1 (k+1)->Sit h' b2 i2 a2 (k+1)->ar h' s.heap.objs.size #[x,y]->h'.objs.size=s.heap.objs.size+1->
   (∀c o,c∉[z,TO,i1,i2]->s.heap.get? c=some o->h'.get? c=some o)->Q (.ref s.heap.objs.size) {s with heap:=h'}):
  wpAny (model prog w) A (Builtin.«zip.__next__» ⟨[.ref z],[]⟩) (fun fin s'=>∃v,fin=.done (.ret v)∧Q v s') E s:=by
 simp only [List.nodup_cons,List.mem_cons,List.not_mem_nil,or_false,not_or,List.nodup_nil,and_true,not_false_eq_true] at nd
 obtain ⟨⟨zTI,zTO,zi1,zi2⟩,⟨TITO,TIi1,TIi2⟩,⟨TOi1,TOi2⟩,i12⟩:=nd
 simp only [List.mem_cons,List.not_mem_nil,or_false,not_or] at n1 n2
 obtain ⟨a1z,a1T,a1i,a1j⟩:=n1
 obtain ⟨a2z,a2T,a2i,a2j⟩:=n2
 show wpAny _ _ (field (.ref z) 2>>=_) _ _ _
 refine wpAny_bind (wpAny_field hz rfl (x:=.bool false) rfl ?_)
 show wpAny _ _ (field (.ref z) 3>>=_) _ _ _
 refine wpAny_bind (wpAny_field hz rfl (x:=.ref TI) rfl ?_)
 refine wpAny_bind (wpAny_seqItems hTI rfl ?_)
 show wpAny _ _ (Builtin.SmallTypes.ownedTupleIsFree (.ref z)>>=_) _ _ _
 refine wpAny_bind ?_
 unfold Builtin.SmallTypes.ownedTupleIsFree
 refine wpAny_bind (wpAny_field hz rfl (x:=.none) rfl (wpAny_pure ?_))
 simp only [if_true]
 refine wpAny_bind (wpAny_rule ?_)
 refine wpAny_bind (wpAny_field hz rfl (x:=.ref TO) rfl ?_)
 refine wpAny_bind (wpAny_setField_rec hz (by simp) fun h₁ hz₁ hs₁=>?_)
 replace hz₁:IsZip h₁ z TI TO .ellipsis:=hz₁
 refine wpAny_bind ?_
 simp only [List.zipIdx_cons,List.zipIdx_nil,List.forIn_cons,List.forIn_nil]
 refine wpAny_bind (wpAny_bind (wpAny_onRaise ?_))
 show wpAny _ _ (Builtin.SmallTypes.nextOf (.ref i1)>>=_) _ _ _
 refine wpAny_bind (bg (h1.at fun o e=>hs₁.extBut _ _ (Ne.symm zi1) e) (hl1.at fun o e=>hs₁.extBut _ _ a1z e) hx fun h₂ h1₂ hs₂=>wpAny_pure ?_)
 have hTO₂:ar h₂ TO ts:=hs₂.extBut _ _ TOi1 (hs₁.extBut _ _ (Ne.symm zTO) hTO)
 refine wpAny_bind (wpAny_seqItems hTO₂ rfl ?_)
 refine wpAny_bind (aX hTO₂ (by omega) fun h₃ hTO₃ hs₃=>?_)
 refine wpAny_bind (wpAny_letGo (wpAny_pure ?_))
 refine wpAny_bind (wpAny_bind (wpAny_onRaise ?_))
 show wpAny _ _ (Builtin.SmallTypes.nextOf (.ref i2)>>=_) _ _ _
 refine wpAny_bind (bg (h2.at fun o e=>hs₃.extBut _ _ (Ne.symm TOi2) (hs₂.extBut _ _ (Ne.symm i12) (hs₁.extBut _ _ (Ne.symm zi2) e)))
  (hl2.at fun o e=>hs₃.extBut _ _ a2T (hs₂.extBut _ _ a2i (hs₁.extBut _ _ a2z e))) hy fun h₄ h2₄ hs₄=>wpAny_pure ?_)
 have hTO₄:=hs₄.extBut _ _ TOi2 hTO₃
 refine wpAny_bind (wpAny_seqItems hTO₄ rfl ?_)
 refine wpAny_bind (aX hTO₄ (by simp;omega) fun h₅ hTO₅ hs₅=>?_)
 refine wpAny_bind (wpAny_letGo (wpAny_pure (wpAny_pure ?_)))
 have ets:((ts.setIfInBounds 0 x).setIfInBounds 1 y)=#[x,y]:=by
  match ts,hts with
  |⟨[p,q]⟩,_=>rfl
 replace hTO₅:ar h₅ TO #[x,y]:=by rw [←ets];exact hTO₅
 refine wpAny_bind (wpAny_seqItems hTO₅ rfl ?_)
 refine wpAny_bind (wpAny_newTuple ?_)
 have hsz:h₅.objs.size=s.heap.objs.size:=by rw [hs₅.1,hs₄.1,hs₃.1,hs₂.1,hs₁.1]
 have hz₅:IsZip h₅ z TI TO .ellipsis:=hs₅.extBut _ _ zTO (hs₄.extBut _ _ zi2 (hs₃.extBut _ _ zTO (hs₂.extBut _ _ zi1 hz₁)))
 have hk₅:∀c o,c∉[z,TO,i1,i2]->s.heap.get? c=some o->h₅.get? c=some o:=fun c o hc e=>
  hs₅.extBut _ _ (ne3 hc (by simp)) (hs₄.extBut _ _ (ne3 hc (by simp)) (hs₃.extBut _ _ (ne3 hc (by simp)) (hs₂.extBut _ _ (ne3 hc (by simp)) (hs₁.extBut _ _ (ne3 hc (by simp)) e))))
 have h1₅:Sit h₅ b1 i1 a1 (k+1):=h1₂.at fun o e=>hs₅.extBut _ _ (Ne.symm TOi1) (hs₄.extBut _ _ i12 (hs₃.extBut _ _ (Ne.symm TOi1) e))
 have h2₅:Sit h₅ b2 i2 a2 (k+1):=h2₄.at fun o e=>hs₅.extBut _ _ (Ne.symm TOi2) e
 have hzlt:z<h₅.objs.size:=Heap.lt_size hz₅
 have hTOlt:TO<h₅.objs.size:=Heap.lt_size hTO₅
 show wpAny _ _ (Builtin.SmallTypes.ownedTupleHandOut (.ref z) (.ref h₅.objs.size)>>=_) _ _ _
 refine wpAny_bind ?_
 unfold Builtin.SmallTypes.ownedTupleHandOut
 have hz₆:IsZip (h₅.push {cls:=.type "tuple",data:=.seq #[x,y]}) z TI TO .ellipsis:=Heap.get?_push_of_some _ hz₅
 refine wpAny_bind (wpAny_setField_rec hz₆ (by simp) fun h₇ hz₇ hs₇=>?_)
 replace hz₇:IsZip h₇ z TI TO (rawInt h₅.objs.size):=hz₇
 refine wpAny_setField_rec hz₇ (by simp) fun h₈ hz₈ hs₈=>?_
 replace hz₈:IsZip h₈ z TI TO (rawInt h₅.objs.size):=hz₈
 have up:∀c o,c≠z->h₅.get? c=some o->h₈.get? c=some o:=fun c o c1 e=>hs₈.extBut _ _ c1 (hs₇.extBut _ _ c1 (Heap.get?_push_of_some _ e))
 have hT₈:ar h₈ h₅.objs.size #[x,y]:=hs₈.extBut _ _ (Nat.ne_of_gt hzlt) (hs₇.extBut _ _ (Nat.ne_of_gt hzlt) (Heap.get?_push_size _ rfl))
 have hz8:h₈.objs.size=h₅.objs.size+1:=by rw [hs₈.1,hs₇.1,Heap.size_push]
 rw [hsz] at hz₈ hT₈ hz8
 refine wpAny_pure ⟨_,rfl,?_⟩
 show Q (.ref h₅.objs.size) _
 rw [hsz]
 exact hQ h₈ hz₈ (up _ _ (Ne.symm zTO) hTO₅) (h1₅.at fun o e=>up _ o (Ne.symm zi1) e) (h2₅.at fun o e=>up _ o (Ne.symm zi2) e) hT₈ hz8 fun c o hc e=>up c o (ne3 hc (by simp)) (hk₅ c o hc e)
theorem rR {z TI TO i1 i2 a1 a2:Addr} {b1 b2:Bool} {k:Nat} {xs ys ts:Array Value} {Q:PySem.Fin->Shared->Prop} (hh:A.handled=none)
  (nd:[z,TI,TO,i1,i2].Nodup) (n1:a1∉[z,TO,i1,i2]) (n2:a2∉[z,TO,i1,i2])
  (hz:IsZip s.heap z TI TO .none) (hTI:ar s.heap TI #[.ref i1,.ref i2]) (hTO:ar s.heap TO ts) (hts:ts.size=2)
  (h1:Sit s.heap b1 i1 a1 k) (h2:Sit s.heap b2 i2 a2 k) (hl1:Ssq s.heap b1 a1 xs) (hl2:Ssq s.heap b2 a2 ys) (hend:xs[k]?=none∨ys[k]?=none)
  (hE:∀h' e,(∀c o,c∉[z,TO,i1,i2]->s.heap.get? c=some o->h'.get? c=some o)->(∃o,h'.get? e=some o∧o.cls=.type "StopIteration")->E (.ref e) {s with heap:=h'}):
  wpAny (model prog w) A (Builtin.«zip.__next__» ⟨[.ref z],[]⟩) Q E s:=by
 simp only [List.nodup_cons,List.mem_cons,List.not_mem_nil,or_false,not_or,List.nodup_nil,and_true,not_false_eq_true] at nd
 obtain ⟨⟨zTI,zTO,zi1,zi2⟩,⟨TITO,TIi1,TIi2⟩,⟨TOi1,TOi2⟩,i12⟩:=nd
 simp only [List.mem_cons,List.not_mem_nil,or_false,not_or] at n1 n2
 obtain ⟨a1z,a1T,a1i,a1j⟩:=n1
 obtain ⟨a2z,a2T,a2i,a2j⟩:=n2
 show wpAny _ _ (field (.ref z) 2>>=_) _ _ _
 refine wpAny_bind (wpAny_field hz rfl (x:=.bool false) rfl ?_)
 show wpAny _ _ (field (.ref z) 3>>=_) _ _ _
 refine wpAny_bind (wpAny_field hz rfl (x:=.ref TI) rfl ?_)
 refine wpAny_bind (wpAny_seqItems hTI rfl ?_)
 show wpAny _ _ (Builtin.SmallTypes.ownedTupleIsFree (.ref z)>>=_) _ _ _
 refine wpAny_bind ?_
 unfold Builtin.SmallTypes.ownedTupleIsFree
 refine wpAny_bind (wpAny_field hz rfl (x:=.none) rfl (wpAny_pure ?_))
 simp only [if_true]
 refine wpAny_bind (wpAny_rule ?_)
 refine wpAny_bind (wpAny_field hz rfl (x:=.ref TO) rfl ?_)
 refine wpAny_bind (wpAny_setField_rec hz (by simp) fun h₁ hz₁ hs₁=>?_)
 replace hz₁:IsZip h₁ z TI TO .ellipsis:=hz₁
 refine wpAny_bind ?_
 simp only [List.zipIdx_cons,List.zipIdx_nil,List.forIn_cons,List.forIn_nil]
 refine wpAny_bind (wpAny_bind (wpAny_onRaise ?_))
 show wpAny _ _ (Builtin.SmallTypes.nextOf (.ref i1)>>=_) _ _ _
 have hi1:=h1.at (h':=h₁) fun o e=>hs₁.extBut _ _ (Ne.symm zi1) e
 have hL1:=hl1.at (h':=h₁) fun o e=>hs₁.extBut _ _ a1z e
 cases hx:xs[k]? with
 |none=>
  refine wpAny_bind (bX hh hi1 hL1 hx fun h₂ e hs₂ he=>?_)
  obtain ⟨oe,hoe,hce⟩:=he
  have hz₂:IsZip h₂ z TI TO .ellipsis:=hs₂ _ _ zi1 hz₁
  have hez:e≠z:=fun x=>by subst x;rw [hz₂] at hoe;cases hoe;simp at hce
  refine wpAny_setField_rec hz₂ (by simp) fun h₃ _ hs₃=>hE h₃ e (fun c o hc x=>hs₃.extBut _ _ (ne3 hc (by simp)) (hs₂ _ _ (ne3 hc (by simp)) (hs₁.extBut _ _ (ne3 hc (by simp)) x))) ⟨oe,hs₃.extBut _ _ hez hoe,hce⟩
 |some x=>
  have hy:ys[k]?=none:=by rcases hend with h|h;rw [hx] at h;cases h;exact h
  refine wpAny_bind (bg hi1 hL1 hx fun h₂ h1₂ hs₂=>wpAny_pure ?_)
  have hTO₂:ar h₂ TO ts:=hs₂.extBut _ _ TOi1 (hs₁.extBut _ _ (Ne.symm zTO) hTO)
  refine wpAny_bind (wpAny_seqItems hTO₂ rfl ?_)
  refine wpAny_bind (aX hTO₂ (by omega) fun h₃ hTO₃ hs₃=>?_)
  refine wpAny_bind (wpAny_letGo (wpAny_pure ?_))
  refine wpAny_bind (wpAny_bind (wpAny_onRaise ?_))
  show wpAny _ _ (Builtin.SmallTypes.nextOf (.ref i2)>>=_) _ _ _
  refine wpAny_bind (bX hh (h2.at fun o e=>hs₃.extBut _ _ (Ne.symm TOi2) (hs₂.extBut _ _ (Ne.symm i12) (hs₁.extBut _ _ (Ne.symm zi2) e)))
   (hl2.at fun o e=>hs₃.extBut _ _ a2T (hs₂.extBut _ _ a2i (hs₁.extBut _ _ a2z e))) hy fun h₄ e hs₄ he=>?_)
  obtain ⟨oe,hoe,hce⟩:=he
  have hz₄:IsZip h₄ z TI TO .ellipsis:=hs₄ _ _ zi2 (hs₃.extBut _ _ zTO (hs₂.extBut _ _ zi1 hz₁))
  have hez:e≠z:=fun x=>by subst x;rw [hz₄] at hoe;cases hoe;simp at hce
  refine wpAny_setField_rec hz₄ (by simp) fun h₅ _ hs₅=>hE h₅ e (fun c o hc x=>hs₅.extBut _ _ (ne3 hc (by simp)) (hs₄ _ _ (ne3 hc (by simp)) (hs₃.extBut _ _ (ne3 hc (by simp)) (hs₂.extBut _ _ (ne3 hc (by simp)) (hs₁.extBut _ _ (ne3 hc (by simp)) x))))) ⟨oe,hs₅.extBut _ _ hez hoe,hce⟩
theorem qu {z TI TO i1 i2 i3 a1 a2 a3:Addr} {b1 b2 b3:Bool} {k:Nat} {xs ys us ts:Array Value} {x y u:Value} {Q:Value->Shared->Prop}
  (nd:[z,TI,TO,i1,i2,i3].Nodup) (n1:a1∉[z,TO,i1,i2,i3]) (n2:a2∉[z,TO,i1,i2,i3]) (n3:a3∉[z,TO,i1,i2,i3])
  (hz:IsZip s.heap z TI TO .none) (hTI:ar s.heap TI #[.ref i1,.ref i2,.ref i3]) (hTO:ar s.heap TO ts) (hts:ts.size=3)
  (h1:Sit s.heap b1 i1 a1 k) (h2:Sit s.heap b2 i2 a2 k) (h3:Sit s.heap b3 i3 a3 k) (hl1:Ssq s.heap b1 a1 xs) (hl2:Ssq s.heap b2 a2 ys) (hl3:Ssq s.heap b3 a3 us)
  (hx:xs[k]?=some x) (hy:ys[k]?=some y) (hu:us[k]?=some u)
  (hQ:∀h',IsZip h' z TI TO (rawInt s.heap.objs.size)->ar h' TO #[x,y,u]->Sit h' b1 i1 a1 (k+1)->Sit h' b2 i2 a2 (k+1)->Sit h' b3 i3 a3 (k+1)->ar h' s.heap.objs.size #[x,y,u]->h'.objs.size=s.heap.objs.size+1->
   (∀c o,c∉[z,TO,i1,i2,i3]->s.heap.get? c=some o->h'.get? c=some o)->Q (.ref s.heap.objs.size) {s with heap:=h'}):
  wpAny (model prog w) A (Builtin.«zip.__next__» ⟨[.ref z],[]⟩) (fun fin s'=>∃v,fin=.done (.ret v)∧Q v s') E s:=by
 simp only [List.nodup_cons,List.mem_cons,List.not_mem_nil,or_false,not_or,List.nodup_nil,and_true,not_false_eq_true] at nd
 obtain ⟨⟨zTI,zTO,zi1,zi2,zi3⟩,⟨TITO,TIi1,TIi2,TIi3⟩,⟨TOi1,TOi2,TOi3⟩,⟨i12,i13⟩,i23⟩:=nd
 simp only [List.mem_cons,List.not_mem_nil,or_false,not_or] at n1 n2 n3
 obtain ⟨a1z,a1T,a1i,a1j,a1k⟩:=n1
 obtain ⟨a2z,a2T,a2i,a2j,a2k⟩:=n2
 obtain ⟨a3z,a3T,a3i,a3j,a3k⟩:=n3
 show wpAny _ _ (field (.ref z) 2>>=_) _ _ _
 refine wpAny_bind (wpAny_field hz rfl (x:=.bool false) rfl ?_)
 show wpAny _ _ (field (.ref z) 3>>=_) _ _ _
 refine wpAny_bind (wpAny_field hz rfl (x:=.ref TI) rfl ?_)
 refine wpAny_bind (wpAny_seqItems hTI rfl ?_)
 show wpAny _ _ (Builtin.SmallTypes.ownedTupleIsFree (.ref z)>>=_) _ _ _
 refine wpAny_bind ?_
 unfold Builtin.SmallTypes.ownedTupleIsFree
 refine wpAny_bind (wpAny_field hz rfl (x:=.none) rfl (wpAny_pure ?_))
 simp only [if_true]
 refine wpAny_bind (wpAny_rule ?_)
 refine wpAny_bind (wpAny_field hz rfl (x:=.ref TO) rfl ?_)
 refine wpAny_bind (wpAny_setField_rec hz (by simp) fun h₁ hz₁ hs₁=>?_)
 replace hz₁:IsZip h₁ z TI TO .ellipsis:=hz₁
 refine wpAny_bind ?_
 simp only [List.zipIdx_cons,List.zipIdx_nil,List.forIn_cons,List.forIn_nil]
 refine wpAny_bind (wpAny_bind (wpAny_onRaise ?_))
 show wpAny _ _ (Builtin.SmallTypes.nextOf (.ref i1)>>=_) _ _ _
 refine wpAny_bind (bg (h1.at fun o e=>hs₁.extBut _ _ (Ne.symm zi1) e) (hl1.at fun o e=>hs₁.extBut _ _ a1z e) hx fun h₂ h1₂ hs₂=>wpAny_pure ?_)
 have hTO₂:ar h₂ TO ts:=hs₂.extBut _ _ TOi1 (hs₁.extBut _ _ (Ne.symm zTO) hTO)
 refine wpAny_bind (wpAny_seqItems hTO₂ rfl ?_)
 refine wpAny_bind (aX hTO₂ (by omega) fun h₃ hTO₃ hs₃=>?_)
 refine wpAny_bind (wpAny_letGo (wpAny_pure ?_))
 refine wpAny_bind (wpAny_bind (wpAny_onRaise ?_))
 show wpAny _ _ (Builtin.SmallTypes.nextOf (.ref i2)>>=_) _ _ _
 refine wpAny_bind (bg (h2.at fun o e=>hs₃.extBut _ _ (Ne.symm TOi2) (hs₂.extBut _ _ (Ne.symm i12) (hs₁.extBut _ _ (Ne.symm zi2) e)))
  (hl2.at fun o e=>hs₃.extBut _ _ a2T (hs₂.extBut _ _ a2i (hs₁.extBut _ _ a2z e))) hy fun h₄ h2₄ hs₄=>wpAny_pure ?_)
 have hTO₄:=hs₄.extBut _ _ TOi2 hTO₃
 refine wpAny_bind (wpAny_seqItems hTO₄ rfl ?_)
 refine wpAny_bind (aX hTO₄ (by simp;omega) fun h₅ hTO₅ hs₅=>?_)
 refine wpAny_bind (wpAny_letGo (wpAny_pure ?_))
 refine wpAny_bind (wpAny_bind (wpAny_onRaise ?_))
 show wpAny _ _ (Builtin.SmallTypes.nextOf (.ref i3)>>=_) _ _ _
 refine wpAny_bind (bg (h3.at fun o e=>hs₅.extBut _ _ (Ne.symm TOi3) (hs₄.extBut _ _ (Ne.symm i23) (hs₃.extBut _ _ (Ne.symm TOi3) (hs₂.extBut _ _ (Ne.symm i13) (hs₁.extBut _ _ (Ne.symm zi3) e)))))
  (hl3.at fun o e=>hs₅.extBut _ _ a3T (hs₄.extBut _ _ a3j (hs₃.extBut _ _ a3T (hs₂.extBut _ _ a3i (hs₁.extBut _ _ a3z e))))) hu fun h₆ h3₆ hs₆=>wpAny_pure ?_)
 have hTO₆:=hs₆.extBut _ _ TOi3 hTO₅
 refine wpAny_bind (wpAny_seqItems hTO₆ rfl ?_)
 refine wpAny_bind (aX hTO₆ (by simp;omega) fun h₇ hTO₇ hs₇=>?_)
 refine wpAny_bind (wpAny_letGo (wpAny_pure (wpAny_pure ?_)))
 have ets:(((ts.setIfInBounds 0 x).setIfInBounds 1 y).setIfInBounds 2 u)=#[x,y,u]:=by
  match ts,hts with
  |⟨[p,q,r]⟩,_=>rfl
 replace hTO₇:ar h₇ TO #[x,y,u]:=by rw [←ets];exact hTO₇
 refine wpAny_bind (wpAny_seqItems hTO₇ rfl ?_)
 refine wpAny_bind (wpAny_newTuple ?_)
 have hsz:h₇.objs.size=s.heap.objs.size:=by rw [hs₇.1,hs₆.1,hs₅.1,hs₄.1,hs₃.1,hs₂.1,hs₁.1]
 have hz₅:IsZip h₇ z TI TO .ellipsis:=hs₇.extBut _ _ zTO (hs₆.extBut _ _ zi3 (hs₅.extBut _ _ zTO (hs₄.extBut _ _ zi2 (hs₃.extBut _ _ zTO (hs₂.extBut _ _ zi1 hz₁)))))
 have hk₅:∀c o,c∉[z,TO,i1,i2,i3]->s.heap.get? c=some o->h₇.get? c=some o:=fun c o hc e=>
  hs₇.extBut _ _ (ne3 hc (by simp)) (hs₆.extBut _ _ (ne3 hc (by simp)) (hs₅.extBut _ _ (ne3 hc (by simp)) (hs₄.extBut _ _ (ne3 hc (by simp)) (hs₃.extBut _ _ (ne3 hc (by simp)) (hs₂.extBut _ _ (ne3 hc (by simp)) (hs₁.extBut _ _ (ne3 hc (by simp)) e))))))
 have h1₅:Sit h₇ b1 i1 a1 (k+1):=h1₂.at fun o e=>hs₇.extBut _ _ (Ne.symm TOi1) (hs₆.extBut _ _ i13 (hs₅.extBut _ _ (Ne.symm TOi1) (hs₄.extBut _ _ i12 (hs₃.extBut _ _ (Ne.symm TOi1) e))))
 have h2₅:Sit h₇ b2 i2 a2 (k+1):=h2₄.at fun o e=>hs₇.extBut _ _ (Ne.symm TOi2) (hs₆.extBut _ _ i23 (hs₅.extBut _ _ (Ne.symm TOi2) e))
 have h3₅:Sit h₇ b3 i3 a3 (k+1):=h3₆.at fun o e=>hs₇.extBut _ _ (Ne.symm TOi3) e
 have hzlt:z<h₇.objs.size:=Heap.lt_size hz₅
 have hTOlt:TO<h₇.objs.size:=Heap.lt_size hTO₇
 show wpAny _ _ (Builtin.SmallTypes.ownedTupleHandOut (.ref z) (.ref h₇.objs.size)>>=_) _ _ _
 refine wpAny_bind ?_
 unfold Builtin.SmallTypes.ownedTupleHandOut
 have hz₆:IsZip (h₇.push {cls:=.type "tuple",data:=.seq #[x,y,u]}) z TI TO .ellipsis:=Heap.get?_push_of_some _ hz₅
 refine wpAny_bind (wpAny_setField_rec hz₆ (by simp) fun h₈ hz₈ hs₈=>?_)
 replace hz₈:IsZip h₈ z TI TO (rawInt h₇.objs.size):=hz₈
 refine wpAny_setField_rec hz₈ (by simp) fun h₉ hz₉ hs₉=>?_
 replace hz₉:IsZip h₉ z TI TO (rawInt h₇.objs.size):=hz₉
 have up:∀c o,c≠z->h₇.get? c=some o->h₉.get? c=some o:=fun c o c1 e=>hs₉.extBut _ _ c1 (hs₈.extBut _ _ c1 (Heap.get?_push_of_some _ e))
 have hT₈:ar h₉ h₇.objs.size #[x,y,u]:=hs₉.extBut _ _ (Nat.ne_of_gt hzlt) (hs₈.extBut _ _ (Nat.ne_of_gt hzlt) (Heap.get?_push_size _ rfl))
 have hz8:h₉.objs.size=h₇.objs.size+1:=by rw [hs₉.1,hs₈.1,Heap.size_push]
 rw [hsz] at hz₉ hT₈ hz8
 refine wpAny_pure ⟨_,rfl,?_⟩
 show Q (.ref h₇.objs.size) _
 rw [hsz]
 exact hQ h₉ hz₉ (up _ _ (Ne.symm zTO) hTO₇) (h1₅.at fun o e=>up _ o (Ne.symm zi1) e) (h2₅.at fun o e=>up _ o (Ne.symm zi2) e) (h3₅.at fun o e=>up _ o (Ne.symm zi3) e) hT₈ hz8 fun c o hc e=>up c o (ne3 hc (by simp)) (hk₅ c o hc e)
theorem r8 {z TI TO i1 i2 i3 a1 a2 a3:Addr} {b1 b2 b3:Bool} {k:Nat} {xs ys us ts:Array Value} {Q:PySem.Fin->Shared->Prop} (hh:A.handled=none)
  (nd:[z,TI,TO,i1,i2,i3].Nodup) (n1:a1∉[z,TO,i1,i2,i3]) (n2:a2∉[z,TO,i1,i2,i3]) (n3:a3∉[z,TO,i1,i2,i3])
  (hz:IsZip s.heap z TI TO .none) (hTI:ar s.heap TI #[.ref i1,.ref i2,.ref i3]) (hTO:ar s.heap TO ts) (hts:ts.size=3)
  (h1:Sit s.heap b1 i1 a1 k) (h2:Sit s.heap b2 i2 a2 k) (h3:Sit s.heap b3 i3 a3 k) (hl1:Ssq s.heap b1 a1 xs) (hl2:Ssq s.heap b2 a2 ys) (hl3:Ssq s.heap b3 a3 us)
  (hend:xs[k]?=none∨ys[k]?=none∨us[k]?=none)
  (hE:∀h' e,(∀c o,c∉[z,TO,i1,i2,i3]->s.heap.get? c=some o->h'.get? c=some o)->(∃o,h'.get? e=some o∧o.cls=.type "StopIteration")->E (.ref e) {s with heap:=h'}):
  wpAny (model prog w) A (Builtin.«zip.__next__» ⟨[.ref z],[]⟩) Q E s:=by
 simp only [List.nodup_cons,List.mem_cons,List.not_mem_nil,or_false,not_or,List.nodup_nil,and_true,not_false_eq_true] at nd
 obtain ⟨⟨zTI,zTO,zi1,zi2,zi3⟩,⟨TITO,TIi1,TIi2,TIi3⟩,⟨TOi1,TOi2,TOi3⟩,⟨i12,i13⟩,i23⟩:=nd
 simp only [List.mem_cons,List.not_mem_nil,or_false,not_or] at n1 n2 n3
 obtain ⟨a1z,a1T,a1i,a1j,a1k⟩:=n1
 obtain ⟨a2z,a2T,a2i,a2j,a2k⟩:=n2
 obtain ⟨a3z,a3T,a3i,a3j,a3k⟩:=n3
 show wpAny _ _ (field (.ref z) 2>>=_) _ _ _
 refine wpAny_bind (wpAny_field hz rfl (x:=.bool false) rfl ?_)
 show wpAny _ _ (field (.ref z) 3>>=_) _ _ _
 refine wpAny_bind (wpAny_field hz rfl (x:=.ref TI) rfl ?_)
 refine wpAny_bind (wpAny_seqItems hTI rfl ?_)
 show wpAny _ _ (Builtin.SmallTypes.ownedTupleIsFree (.ref z)>>=_) _ _ _
 refine wpAny_bind ?_
 unfold Builtin.SmallTypes.ownedTupleIsFree
 refine wpAny_bind (wpAny_field hz rfl (x:=.none) rfl (wpAny_pure ?_))
 simp only [if_true]
 refine wpAny_bind (wpAny_rule ?_)
 refine wpAny_bind (wpAny_field hz rfl (x:=.ref TO) rfl ?_)
 refine wpAny_bind (wpAny_setField_rec hz (by simp) fun h₁ hz₁ hs₁=>?_)
 replace hz₁:IsZip h₁ z TI TO .ellipsis:=hz₁
 refine wpAny_bind ?_
 simp only [List.zipIdx_cons,List.zipIdx_nil,List.forIn_cons,List.forIn_nil]
 refine wpAny_bind (wpAny_bind (wpAny_onRaise ?_))
 show wpAny _ _ (Builtin.SmallTypes.nextOf (.ref i1)>>=_) _ _ _
 have hi1:=h1.at (h':=h₁) fun o e=>hs₁.extBut _ _ (Ne.symm zi1) e
 have hL1:=hl1.at (h':=h₁) fun o e=>hs₁.extBut _ _ a1z e
 cases hx:xs[k]? with
 |none=>
  refine wpAny_bind (bX hh hi1 hL1 hx fun h₂ e hs₂ he=>?_)
  obtain ⟨oe,hoe,hce⟩:=he
  have hz₂:IsZip h₂ z TI TO .ellipsis:=hs₂ _ _ zi1 hz₁
  have hez:e≠z:=fun x=>by subst x;rw [hz₂] at hoe;cases hoe;simp at hce
  refine wpAny_setField_rec hz₂ (by simp) fun h₃ _ hs₃=>hE h₃ e (fun c o hc x=>hs₃.extBut _ _ (ne3 hc (by simp)) (hs₂ _ _ (ne3 hc (by simp)) (hs₁.extBut _ _ (ne3 hc (by simp)) x))) ⟨oe,hs₃.extBut _ _ hez hoe,hce⟩
 |some x=>
  have hyu:ys[k]?=none∨us[k]?=none:=by rcases hend with h|h;rw [hx] at h;cases h;exact h
  refine wpAny_bind (bg hi1 hL1 hx fun h₂ h1₂ hs₂=>wpAny_pure ?_)
  have hTO₂:ar h₂ TO ts:=hs₂.extBut _ _ TOi1 (hs₁.extBut _ _ (Ne.symm zTO) hTO)
  refine wpAny_bind (wpAny_seqItems hTO₂ rfl ?_)
  refine wpAny_bind (aX hTO₂ (by omega) fun h₃ hTO₃ hs₃=>?_)
  refine wpAny_bind (wpAny_letGo (wpAny_pure ?_))
  refine wpAny_bind (wpAny_bind (wpAny_onRaise ?_))
  show wpAny _ _ (Builtin.SmallTypes.nextOf (.ref i2)>>=_) _ _ _
  have hi2:=h2.at (h':=h₃) fun o e=>hs₃.extBut _ _ (Ne.symm TOi2) (hs₂.extBut _ _ (Ne.symm i12) (hs₁.extBut _ _ (Ne.symm zi2) e))
  have hL2:=hl2.at (h':=h₃) fun o e=>hs₃.extBut _ _ a2T (hs₂.extBut _ _ a2i (hs₁.extBut _ _ a2z e))
  cases hy:ys[k]? with
  |none=>
   refine wpAny_bind (bX hh hi2 hL2 hy fun h₄ e hs₄ he=>?_)
   obtain ⟨oe,hoe,hce⟩:=he
   have hz₄:IsZip h₄ z TI TO .ellipsis:=hs₄ _ _ zi2 (hs₃.extBut _ _ zTO (hs₂.extBut _ _ zi1 hz₁))
   have hez:e≠z:=fun x=>by subst x;rw [hz₄] at hoe;cases hoe;simp at hce
   refine wpAny_setField_rec hz₄ (by simp) fun h₅ _ hs₅=>hE h₅ e (fun c o hc x=>hs₅.extBut _ _ (ne3 hc (by simp)) (hs₄ _ _ (ne3 hc (by simp)) (hs₃.extBut _ _ (ne3 hc (by simp)) (hs₂.extBut _ _ (ne3 hc (by simp)) (hs₁.extBut _ _ (ne3 hc (by simp)) x))))) ⟨oe,hs₅.extBut _ _ hez hoe,hce⟩
  |some y=>
   have hu:us[k]?=none:=by rcases hyu with h|h;rw [hy] at h;cases h;exact h
   refine wpAny_bind (bg hi2 hL2 hy fun h₄ h2₄ hs₄=>wpAny_pure ?_)
   have hTO₄:=hs₄.extBut _ _ TOi2 hTO₃
   refine wpAny_bind (wpAny_seqItems hTO₄ rfl ?_)
   refine wpAny_bind (aX hTO₄ (by simp;omega) fun h₅ hTO₅ hs₅=>?_)
   refine wpAny_bind (wpAny_letGo (wpAny_pure ?_))
   refine wpAny_bind (wpAny_bind (wpAny_onRaise ?_))
   show wpAny _ _ (Builtin.SmallTypes.nextOf (.ref i3)>>=_) _ _ _
   refine wpAny_bind (bX hh (h3.at fun o e=>hs₅.extBut _ _ (Ne.symm TOi3) (hs₄.extBut _ _ (Ne.symm i23) (hs₃.extBut _ _ (Ne.symm TOi3) (hs₂.extBut _ _ (Ne.symm i13) (hs₁.extBut _ _ (Ne.symm zi3) e)))))
    (hl3.at fun o e=>hs₅.extBut _ _ a3T (hs₄.extBut _ _ a3j (hs₃.extBut _ _ a3T (hs₂.extBut _ _ a3i (hs₁.extBut _ _ a3z e))))) hu fun h₆ e hs₆ he=>?_)
   obtain ⟨oe,hoe,hce⟩:=he
   have hz₆:IsZip h₆ z TI TO .ellipsis:=hs₆ _ _ zi3 (hs₅.extBut _ _ zTO (hs₄.extBut _ _ zi2 (hs₃.extBut _ _ zTO (hs₂.extBut _ _ zi1 hz₁))))
   have hez:e≠z:=fun x=>by subst x;rw [hz₆] at hoe;cases hoe;simp at hce
   refine wpAny_setField_rec hz₆ (by simp) fun h₇ _ hs₇=>hE h₇ e (fun c o hc x=>hs₇.extBut _ _ (ne3 hc (by simp)) (hs₆ _ _ (ne3 hc (by simp)) (hs₅.extBut _ _ (ne3 hc (by simp)) (hs₄.extBut _ _ (ne3 hc (by simp)) (hs₃.extBut _ _ (ne3 hc (by simp)) (hs₂.extBut _ _ (ne3 hc (by simp)) (hs₁.extBut _ _ (ne3 hc (by simp)) x))))))) ⟨oe,hs₇.extBut _ _ hez hoe,hce⟩
theorem dW {z TI TO:Addr} {f0:Value} {Q:Option Value->Shared->Prop} (hz:IsZip s.heap z TI TO f0)
  (h:wpAny (model prog w) A.in1 (Builtin.«zip.__next__» ⟨[.ref z],[]⟩) (fun fin s'=>∃v,fin=.done (.ret v)∧Q (some v) s') (fun e s'=>∃a o,e=.ref a∧s'.heap.get? a=some o∧o.cls=.type "StopIteration"∧Q none s') s):
  wpAny (model prog w) A (pyNext (.ref z)) Q E s:=by
 have hT:s.TypeIs (.ref z) "zip":=⟨_,hz,rfl⟩
 unfold pyNext
 refine wpAny_bind (wpAny_attempt (wpAny_callSpecial?_slot (name:=Str.ofString "__next__") hT F.slot_zip_next
  (wpAny_call_entry F.slot_zip_next hT F.entry_zip_next (wpAny_mono h (fun fin s' hv=>?_) fun e s' he=>?_) (F.args_zip_next_1 _))))
 ·obtain ⟨v,rfl,q⟩:=hv
  exact ⟨v,rfl,wpAny_pure q⟩
 ·obtain ⟨a,o,rfl,ho,hc,q⟩:=he
  refine wpAny_bind (wpAny_isInstance (T:="StopIteration") (b:=true) ⟨o,ho,hc⟩ isSubtype_stop ?_)
  exact wpAny_pure q
noncomputable def bf (b:Bool) (a:Addr):Obj:={cls:=.type (match b with|true=>"tuple_iterator"|false=>"list_iterator"),data:=.fields #[.ref a,.int 0 0]}
theorem cV {b:Bool} {a:Addr} {xs:Array Value} {Q:Value->Shared->Prop} (h:Ssq s.heap b a xs) (hQ:Q (.ref s.heap.objs.size) {s with heap:=s.heap.push (bf b a)}):wpAny (model prog w) A (pyIter (.ref a)) Q E s:=by
 cases b with
 |true=>exact wpAny_pyIter_tuple h hQ
 |false=>exact wpAny_pyIter_list h hQ
theorem Sit.new {h:Heap} (b:Bool) (a:Addr):Sit (h.push (bf b a)) b h.objs.size a 0:=by
 cases b with
 |true=>exact ⟨_,Heap.get?_push_size _ rfl,rfl,rfl⟩
 |false=>exact ⟨_,Heap.get?_push_size _ rfl,rfl,rfl⟩
end
theorem ny (b1 b2:Bool) (a1 a2:Addr) (xs ys:Array Value):
  Meets (Builtin.«zip.__new__» ⟨[.type "zip",.ref a1,.ref a2],[]⟩) (fun _ R s=>Ssq s.heap b1 a1 xs∧Ssq s.heap b2 a2 ys∧
   ∀h',ar h' (s.heap.objs.size+2) #[.ref s.heap.objs.size,.ref (s.heap.objs.size+1)]->ar h' (s.heap.objs.size+3) #[.none,.none]->IsZip h' (s.heap.objs.size+4) (s.heap.objs.size+2) (s.heap.objs.size+3) .none->
    Sit h' b1 s.heap.objs.size a1 0->Sit h' b2 (s.heap.objs.size+1) a2 0->
    (∀c o,s.heap.get? c=some o->h'.get? c=some o)->h'.objs.size=s.heap.objs.size+5->R (.ok (.ret (.ref (s.heap.objs.size+4)))) {s with heap:=h'}):=
 .of_wp fun prog w A R s h=>by
  obtain ⟨hp,g,d,tk,os⟩:=s;obtain ⟨hl1,hl2,h⟩:=h
  have hsub:=sub_zip
  have hL1:Ssq (Shared.heap ⟨hp,g,d,tk,os⟩) b1 a1 xs:=hl1
  have hL2:Ssq (Shared.heap ⟨hp.push (bf b1 a1),g,d,tk,os⟩) b2 a2 ys:=Ssq.at (h':=hp.push (bf b1 a1)) hl2 fun o e=>Heap.get?_push_of_some _ e
  wp_walk using cV hL1,cV hL2
  refine ⟨_,rfl,?_⟩
  dsimp only at h ⊢
  generalize e1:hp.push (bf b1 a1)=h1
  generalize e2:h1.push (bf b2 a2)=h2
  generalize e3:h2.push _=h3
  generalize e4:h3.push _=h4
  generalize e5:h4.push _=h5
  have z1:h1.objs.size=hp.objs.size+1:=e1▸Heap.size_push ..
  have z2:h2.objs.size=hp.objs.size+2:=by rw [←e2,Heap.size_push,z1]
  have z3:h3.objs.size=hp.objs.size+3:=by rw [←e3,Heap.size_push,z2]
  have z4:h4.objs.size=hp.objs.size+4:=by rw [←e4,Heap.size_push,z3]
  have z5:h5.objs.size=hp.objs.size+5:=by rw [←e5,Heap.size_push,z4]
  have k5:∀c o,h4.get? c=some o->h5.get? c=some o:=fun c o e=>e5▸Heap.get?_push_of_some _ e
  have k4:∀c o,h3.get? c=some o->h5.get? c=some o:=fun c o e=>k5 c o (e4▸Heap.get?_push_of_some _ e)
  have k3:∀c o,h2.get? c=some o->h5.get? c=some o:=fun c o e=>k4 c o (e3▸Heap.get?_push_of_some _ e)
  have k2:∀c o,h1.get? c=some o->h5.get? c=some o:=fun c o e=>k3 c o (e2▸Heap.get?_push_of_some _ e)
  have g3:=Heap.get?_push_size h2 (o:={cls:=.type "tuple",data:=.seq #[.ref hp.objs.size,.ref h1.objs.size]}) rfl
  have g4:=Heap.get?_push_size h3 (o:={cls:=.type "tuple",data:=.seq #[.none,.none]}) rfl
  have g5:=Heap.get?_push_size h4 (o:={cls:=.type "zip",data:=.fields #[.none,.bool false,.bool false,.ref h2.objs.size,.ref h3.objs.size]}) rfl
  have q3:h3.get? h2.objs.size=_:=(congrArg (fun h=>h.get? h2.objs.size) e3).symm.trans g3
  have q4:h4.get? h3.objs.size=_:=(congrArg (fun h=>h.get? h3.objs.size) e4).symm.trans g4
  have q5:h5.get? h4.objs.size=_:=(congrArg (fun h=>h.get? h4.objs.size) e5).symm.trans g5
  rw [z1,z2] at q3
  rw [z3] at q4
  rw [z2,z3,z4] at q5
  rw [z4]
  refine h h5 (k4 _ _ q3) (k5 _ _ q4) q5 (Sit.at (Sit.new (h:=hp) b1 a1) fun o e=>k2 _ _ (e1▸e)) ?_ (fun c o e=>k2 _ _ (e1▸Heap.get?_push_of_some _ e)) z5
  rw [←z1]
  exact Sit.at (Sit.new (h:=h1) b2 a2) fun o e=>k3 _ _ (e2▸e)
theorem n8 (b1 b2 b3:Bool) (a1 a2 a3:Addr) (xs ys us:Array Value):
  Meets (Builtin.«zip.__new__» ⟨[.type "zip",.ref a1,.ref a2,.ref a3],[]⟩) (fun _ R s=>Ssq s.heap b1 a1 xs∧Ssq s.heap b2 a2 ys∧Ssq s.heap b3 a3 us∧
   ∀h',ar h' (s.heap.objs.size+3) #[.ref s.heap.objs.size,.ref (s.heap.objs.size+1),.ref (s.heap.objs.size+2)]->ar h' (s.heap.objs.size+4) #[.none,.none,.none]->
    IsZip h' (s.heap.objs.size+5) (s.heap.objs.size+3) (s.heap.objs.size+4) .none->
    Sit h' b1 s.heap.objs.size a1 0->Sit h' b2 (s.heap.objs.size+1) a2 0->Sit h' b3 (s.heap.objs.size+2) a3 0->
    (∀c o,s.heap.get? c=some o->h'.get? c=some o)->h'.objs.size=s.heap.objs.size+6->R (.ok (.ret (.ref (s.heap.objs.size+5)))) {s with heap:=h'}):=
 .of_wp fun prog w A R s h=>by
  obtain ⟨hp,g,d,tk,os⟩:=s;obtain ⟨hl1,hl2,hl3,h⟩:=h
  have hsub:=sub_zip
  have hL1:Ssq (Shared.heap ⟨hp,g,d,tk,os⟩) b1 a1 xs:=hl1
  have hL2:Ssq (Shared.heap ⟨hp.push (bf b1 a1),g,d,tk,os⟩) b2 a2 ys:=Ssq.at (h':=hp.push (bf b1 a1)) hl2 fun o e=>Heap.get?_push_of_some _ e
  have hL3:Ssq (Shared.heap ⟨(hp.push (bf b1 a1)).push (bf b2 a2),g,d,tk,os⟩) b3 a3 us:=Ssq.at (h':=(hp.push (bf b1 a1)).push (bf b2 a2)) hl3 fun o e=>Heap.get?_push_of_some _ (Heap.get?_push_of_some _ e)
  wp_walk using cV hL1,cV hL2,cV hL3
  refine ⟨_,rfl,?_⟩
  dsimp only at h ⊢
  generalize e1:hp.push (bf b1 a1)=h1
  generalize e2:h1.push (bf b2 a2)=h2
  generalize e2b:h2.push (bf b3 a3)=h2b
  generalize e3:h2b.push _=h3
  generalize e4:h3.push _=h4
  generalize e5:h4.push _=h5
  have z1:h1.objs.size=hp.objs.size+1:=e1▸Heap.size_push ..
  have z2:h2.objs.size=hp.objs.size+2:=by rw [←e2,Heap.size_push,z1]
  have z2b:h2b.objs.size=hp.objs.size+3:=by rw [←e2b,Heap.size_push,z2]
  have z3:h3.objs.size=hp.objs.size+4:=by rw [←e3,Heap.size_push,z2b]
  have z4:h4.objs.size=hp.objs.size+5:=by rw [←e4,Heap.size_push,z3]
  have z5:h5.objs.size=hp.objs.size+6:=by rw [←e5,Heap.size_push,z4]
  have k5:∀c o,h4.get? c=some o->h5.get? c=some o:=fun c o e=>e5▸Heap.get?_push_of_some _ e
  have k4:∀c o,h3.get? c=some o->h5.get? c=some o:=fun c o e=>k5 c o (e4▸Heap.get?_push_of_some _ e)
  have k3:∀c o,h2b.get? c=some o->h5.get? c=some o:=fun c o e=>k4 c o (e3▸Heap.get?_push_of_some _ e)
  have k2b:∀c o,h2.get? c=some o->h5.get? c=some o:=fun c o e=>k3 c o (e2b▸Heap.get?_push_of_some _ e)
  have k2:∀c o,h1.get? c=some o->h5.get? c=some o:=fun c o e=>k2b c o (e2▸Heap.get?_push_of_some _ e)
  have g3:=Heap.get?_push_size h2b (o:={cls:=.type "tuple",data:=.seq #[.ref hp.objs.size,.ref h1.objs.size,.ref h2.objs.size]}) rfl
  have g4:=Heap.get?_push_size h3 (o:={cls:=.type "tuple",data:=.seq #[.none,.none,.none]}) rfl
  have g5:=Heap.get?_push_size h4 (o:={cls:=.type "zip",data:=.fields #[.none,.bool false,.bool false,.ref h2b.objs.size,.ref h3.objs.size]}) rfl
  have q3:h3.get? h2b.objs.size=_:=(congrArg (fun h=>h.get? h2b.objs.size) e3).symm.trans g3
  have q4:h4.get? h3.objs.size=_:=(congrArg (fun h=>h.get? h3.objs.size) e4).symm.trans g4
  have q5:h5.get? h4.objs.size=_:=(congrArg (fun h=>h.get? h4.objs.size) e5).symm.trans g5
  rw [z1,z2,z2b] at q3
  rw [z3] at q4
  rw [z2b,z3,z4] at q5
  rw [z4]
  refine h h5 (k4 _ _ q3) (k5 _ _ q4) q5 (Sit.at (Sit.new (h:=hp) b1 a1) fun o e=>k2 _ _ (e1▸e)) ?_ ?_ (fun c o e=>k2 _ _ (e1▸Heap.get?_push_of_some _ e)) z5
  ·rw [←z1]
   exact Sit.at (Sit.new (h:=h1) b2 a2) fun o e=>k2b _ _ (e2▸e)
  ·rw [←z2]
   exact Sit.at (Sit.new (h:=h2) b3 a3) fun o e=>k3 _ _ (e2b▸e)
theorem jt (a b c:Value):checkTypeCall "zip" ⟨[a,b,c],[]⟩=pure ():=by kernel_rfl
theorem ko (a b c:Value):checkBuiltinCall "zip.__new__" ⟨[.type "zip",a,b,c],[]⟩=pure ():=by kernel_rfl
theorem gh (a b c d:Value):argsOk "object.__init__" ⟨[a,b,c,d],[]⟩:=by
 unfold argsOk;rw [signature?_of (id:="object.__init__") (n:=['_','_','t','i','n','i','_','_']) (o:=['t','c','e','j','b','o']) (by kernel_rfl) F.owner_object];kernel_rfl
section
variable {prog:Program} {w:World} {A:Around} {E:Value->Shared->Prop} {s:Shared}
theorem om {b1 b2:Bool} {a1 a2:Addr} {xs ys:Array Value} {Q:Value->Shared->Prop} (hl1:Ssq s.heap b1 a1 xs) (hl2:Ssq s.heap b2 a2 ys)
  (h:∀h',ar h' (s.heap.objs.size+2) #[.ref s.heap.objs.size,.ref (s.heap.objs.size+1)]->ar h' (s.heap.objs.size+3) #[.none,.none]->IsZip h' (s.heap.objs.size+4) (s.heap.objs.size+2) (s.heap.objs.size+3) .none->
    Sit h' b1 s.heap.objs.size a1 0->Sit h' b2 (s.heap.objs.size+1) a2 0->
    (∀c o,s.heap.get? c=some o->h'.get? c=some o)->h'.objs.size=s.heap.objs.size+5->Q (.ref (s.heap.objs.size+4)) {s with heap:=h'}):
  wpAny (model prog w) A (call (.type "zip") [.ref a1,.ref a2]) Q E s:=by
 refine callType_new F.called_zip (by decide) (F.typeCall_zip_2 _ _) (F.newCall_zip_2 _ _) (fun obj=>F.args_object_init_3 obj _ _) F.entry_zip_new
  (ny b1 b2 a1 a2 xs ys) ⟨hl1,hl2,fun h' x1 x2 x3 x4 x5 x6 x7=>?_⟩
 exact ⟨⟨_,x3,rfl⟩,h h' x1 x2 x3 x4 x5 x6 x7⟩
theorem mZ {b1 b2 b3:Bool} {a1 a2 a3:Addr} {xs ys us:Array Value} {Q:Value->Shared->Prop} (hl1:Ssq s.heap b1 a1 xs) (hl2:Ssq s.heap b2 a2 ys) (hl3:Ssq s.heap b3 a3 us)
  (h:∀h',ar h' (s.heap.objs.size+3) #[.ref s.heap.objs.size,.ref (s.heap.objs.size+1),.ref (s.heap.objs.size+2)]->ar h' (s.heap.objs.size+4) #[.none,.none,.none]->
    IsZip h' (s.heap.objs.size+5) (s.heap.objs.size+3) (s.heap.objs.size+4) .none->
    Sit h' b1 s.heap.objs.size a1 0->Sit h' b2 (s.heap.objs.size+1) a2 0->Sit h' b3 (s.heap.objs.size+2) a3 0->
    (∀c o,s.heap.get? c=some o->h'.get? c=some o)->h'.objs.size=s.heap.objs.size+6->Q (.ref (s.heap.objs.size+5)) {s with heap:=h'}):
  wpAny (model prog w) A (call (.type "zip") [.ref a1,.ref a2,.ref a3]) Q E s:=by
 refine callType_new F.called_zip (by decide) (jt _ _ _) (ko _ _ _) (fun obj=>gh obj _ _ _) F.entry_zip_new
  (n8 b1 b2 b3 a1 a2 a3 xs ys us) ⟨hl1,hl2,hl3,fun h' x1 x2 x3 x4 x5 x6 x7 x8=>?_⟩
 exact ⟨⟨_,x3,rfl⟩,h h' x1 x2 x3 x4 x5 x6 x7 x8⟩
end
end CT
namespace CT
open PySem PySem.Spec L2
open PyProof.Rows hiding St
noncomputable def SqB (K:PySem.W.Frag) (H:Hp) (b:Bool) (a:Addr) (xs:List V):Prop:=match b with|true=>SqT K H a xs|false=>SqL K H a xs
section
variable {X:Cx} {pins:List (Addr×Obj)} {σ:St} {H:Hp} {s:Shared} {a:Addr} {xs ys:List V} {b:Bool}
theorem Inv.sqb (I:Inv X pins σ H s) (h:SqB X.K H b a xs):∃its:List Value,Vals xs its∧Ssq s.heap b a its.toArray∧xs.length<=sizeLine:=by
 cases b with
 |true=>obtain ⟨its,r,p,z⟩:=I.tuple h;exact ⟨its,r,p,z⟩
 |false=>obtain ⟨its,r,p,z⟩:=I.list h;exact ⟨its,r,p.isList,z⟩
theorem Inv.d9 (I:Inv X pins σ H s) (h:SqB X.K H b a xs) (h':SqB X.K H b a ys):xs=ys:=by
 cases b with
 |true=>exact I.kh h h'
 |false=>exact I.kI h h'
theorem Inv.cH {c:Addr} (I:Inv X pins σ H s) (h:SqB X.K H b a xs) (f:aY X pins H c):a≠c:=by
 have fromK:∀o,X.K.lookup a=some o->a≠c:=fun o hk z=>by
  have e:=I.ok.mod.kin a o hk
  rcases f.2.2.2.1 with q|q
  ·exact I.ok.fA a o e (z▸q)
  ·exact absurd (Nat.lt_of_lt_of_le (Heap.lt_size e) (Nat.le_trans I.ok.bsz (z▸q))) (Nat.lt_irrefl _)
 have fromR:∀u,Rd H a u->a≠c:=fun u h=>by
  rcases h with h|⟨_,h⟩<;>exact aj h f.1
 cases b with
 |true=>
  rcases h with h|⟨o,_,_,hk,_⟩
  ·exact fromR _ h
  ·exact fromK o hk
 |false=>
  rcases h with h|⟨o,_,_,hk,_⟩
  ·exact fromR _ h
  ·exact fromK o hk
theorem Inv.d8 {h':Heap} {t':Nat} {ch:List Addr} (I:Inv X pins σ H s) (hf:∀b∈ch,aY X pins H b) (k:∀b o,b∉ch->s.heap.get? b=some o->h'.get? b=some o):Inv X pins σ H {s with heap:=h',toks:=t'}:=by
 have nit:∀b u,H b=some u->b∉ch:=fun b u e z=>by have:=(hf b z).1;rw [e] at this;cases this
 refine I.step (g':=s.gens) (d':=s.drawn) (ch:=ch) (fun b hb=>?_) (fun b o _ _ hc e _=>k b o hc e) (fun b o _ _ hc e _=>⟨o.slots,k b o hc e⟩) (fun _ _ _ _ n=>n)
  (fun b o hc e=>⟨o,k b o hc e⟩) (fun _ _ e=>e) (fun _ _ _ e=>e) (fun b ps e=>⟨#[],by rw [e];simp⟩) (fun m hm=>?_) (fun b u e=>?_) I.bare
 ·obtain ⟨f0,f1,f2,f3,f4,f5⟩:=hf b hb
  exact ⟨f3,f1,f4,f5⟩
 ·obtain ⟨o,es,ep,ho,r⟩:=hm
  exact ⟨o,es,ep,k _ o (fun z=>(hf _ z).2.1 rfl) ho,r⟩
 ·refine (I.hok b u e).eA (fun c v hc q=>k c v ?_ q) (fun _ q=>q) fun _ _ q=>q
  rcases hc with z|z
  ·rw [z];exact nit b u e
  ·exact nit c _ z
theorem Inv.adopt {T:Addr} {o:HO} (I:Inv X pins σ H s) (f:aY X pins H T) (new:aR X.prog X.w (upd H T o) s.heap T o):Inv X pins σ (upd H T o) s:=by
 have neT:∀{b:Addr} {u:HO},H b=some u->b≠T:=fun e=>aj e f.1
 have r:Inv X pins σ (upd H T o) {s with heap:=s.heap,gens:=s.gens,drawn:=s.drawn,toks:=s.toks}:=
  I.step (ch:=[T]) (fun b hb=>by
   have e:b=T:=by simpa using hb
   subst e
   obtain ⟨f0,f1,f2,f3,f4,f5⟩:=f
   exact ⟨f3,f1,f4,f5⟩) (fun b o _ _ _ e _=>e) (fun b o _ _ _ e _=>⟨o.slots,e⟩) (fun b o hc e n=>by rw [ag (fun z=>hc (by simp [z]))];exact n)
   (fun b o _ e=>⟨o,e⟩) (fun b xs e=>by rw [ag (neT e)];exact e) (fun b o u e=>by rw [ag (neT e)];exact e) (fun b ps e=>⟨#[],by rw [ag (neT e),e];simp⟩) (fun m hm=>hm) (fun b u e=>by
    by_cases hb:b=T
    ·subst hb;rw [au] at e;cases e;exact new
    ·rw [ag hb] at e
     exact (I.hok b u e).eA (fun _ _ _ q=>q) (fun c q=>by rw [ag (neT q)];exact q) fun c xs q=>by rw [ag (neT q)];exact q) I.bare
 exact r
end
noncomputable def yE (K:PySem.W.Frag) (b1 b2:Bool) (a1 a2:Addr):It:=
 ⟨fun i H=>∃xs ys x y,SqB K H b1 a1 xs∧SqB K H b2 a2 ys∧xs[i]?=some x∧ys[i]?=some y,
  fun i H v H'=>∃T x y,H T=none∧v=.ref T∧H'=upd H T (.tup [x,y])∧(∀xs,SqB K H b1 a1 xs->xs[i]?=some x)∧(∀ys,SqB K H b2 a2 ys->ys[i]?=some y),
  fun i H=>∃xs ys,SqB K H b1 a1 xs∧SqB K H b2 a2 ys∧(xs.length<=i∨ys.length<=i)⟩
noncomputable def xO (K:PySem.W.Frag) (b1 b2 b3:Bool) (a1 a2 a3:Addr):It:=
 ⟨fun i H=>∃xs ys us x y u,SqB K H b1 a1 xs∧SqB K H b2 a2 ys∧SqB K H b3 a3 us∧xs[i]?=some x∧ys[i]?=some y∧us[i]?=some u,
  fun i H v H'=>∃T x y u,H T=none∧v=.ref T∧H'=upd H T (.tup [x,y,u])∧(∀xs,SqB K H b1 a1 xs->xs[i]?=some x)∧(∀ys,SqB K H b2 a2 ys->ys[i]?=some y)∧(∀us,SqB K H b3 a3 us->us[i]?=some u),
  fun i H=>∃xs ys us,SqB K H b1 a1 xs∧SqB K H b2 a2 ys∧SqB K H b3 a3 us∧(xs.length<=i∨ys.length<=i∨us.length<=i)⟩
theorem jg {xs:List V} {its:List Value} {i:Nat} {x:V} (r:Vals xs its) (h:xs[i]?=some x):∃u,its.toArray[i]?=some u∧RelV x u:=by
 obtain ⟨u,h1,h2⟩:=r.get h
 exact ⟨u,by simpa using h1,h2⟩
theorem jA {xs:List V} {its:List Value} {i:Nat} (r:Vals xs its) (h:xs.length<=i):its.toArray[i]?=none:=by
 have:=r.length
 simp
 omega
theorem jj {α:Type} {a b c d e x:α} (h:x∈[a,c,d,e]):x∈[a,b,c,d,e]:=by
 simp only [List.mem_cons,List.not_mem_nil,or_false] at h ⊢
 rcases h with h|h|h|h<;>simp [h]
theorem oO {P:Program} {w:World} {K:PySem.W.Frag} {elts:List Expr} {x1} {pos:Pos} {z TI TO i1 i2 a1 a2:Addr} {b1 b2:Bool} (nd:[z,TI,TO,i1,i2].Nodup):
  Turn P w K (.Tuple elts x1 pos) (yE K b1 b2 a1 a2) [z,TI,TO,i1,i2] z
   (fun i h=>IsZip h z TI TO .none∧ar h TI #[.ref i1,.ref i2]∧(∃ts,ar h TO ts∧ts.size=2)∧Sit h b1 i1 a1 i∧Sit h b2 i2 a2 i) where
 mem:=by simp
 obj:=fun i h ⟨q1,q2,⟨ts,q3,_⟩,q4,q5⟩ b hb=>by
  simp only [List.mem_cons,List.not_mem_nil,or_false] at hb
  rcases hb with rfl|rfl|rfl|rfl|rfl
  ·exact ⟨_,q1,fun v e=>by have e':Data.fields _=Data.cell v:=e;cases e'⟩
  ·exact ⟨_,q2,fun v e=>by have e':Data.seq _ _=Data.cell v:=e;cases e'⟩
  ·exact ⟨_,q3,fun v e=>by have e':Data.seq _ _=Data.cell v:=e;cases e'⟩
  ·obtain ⟨o,n,vs,e,_,d⟩:=q4.rec
   exact ⟨o,e,fun v e=>by rw [d] at e;cases e⟩
  ·obtain ⟨o,n,vs,e,_,d⟩:=q5.rec
   exact ⟨o,e,fun v e=>by rw [d] at e;cases e⟩
 keep:=fun i h h' ⟨q1,q2,⟨ts,q3,q3'⟩,q4,q5⟩ k=>⟨k z (by simp) _ q1,k TI (by simp) _ q2,⟨ts,k TO (by simp) _ q3,q3'⟩,q4.at fun o e=>k i1 (by simp) o e,q5.at fun o e=>k i2 (by simp) o e⟩
 item:=by
  intro X hP hw hK hc i pins s σ H E I hf ⟨q1,q2,⟨ts,q3,q3'⟩,q4,q5⟩ hg
  subst hP hw hK
  obtain ⟨xs,ys,x,y,hx,hy,ex,ey⟩:=hg
  obtain ⟨its,r1,p1,_⟩:=CT.Inv.sqb I hx
  obtain ⟨its2,r2,p2,_⟩:=CT.Inv.sqb I hy
  obtain ⟨u,eu,ru⟩:=jg r1 ex
  obtain ⟨v,ev,rv⟩:=jg r2 ey
  have n1:a1∉[z,TO,i1,i2]:=fun m=>CT.Inv.cH I hx (hf a1 (jj m)) rfl
  have n2:a2∉[z,TO,i1,i2]:=fun m=>CT.Inv.cH I hy (hf a2 (jj m)) rfl
  refine dW q1 (pf nd n1 n2 q1 q2 q3 q3' q4 q5 p1 p2 eu ev fun h' z1 z2 z3 z4 z5 z6 kk=>?_)
  refine ⟨_,rfl,wpAny_letOwnedTupleGo_zip z1 fun h2 z1' sb=>?_⟩
  have nT:∀b∈[z,TI,TO,i1,i2],b≠s.heap.objs.size:=fun b hb=>by
   simp only [List.mem_cons,List.not_mem_nil,or_false] at hb
   rcases hb with rfl|rfl|rfl|rfl|rfl
   ·exact Nat.ne_of_lt (Heap.lt_size q1)
   ·exact Nat.ne_of_lt (Heap.lt_size q2)
   ·exact Nat.ne_of_lt (Heap.lt_size q3)
   ·obtain ⟨o,n,vs,e,_,d⟩:=q4.rec;exact Nat.ne_of_lt (Heap.lt_size e)
   ·obtain ⟨o,n,vs,e,_,d⟩:=q5.rec;exact Nat.ne_of_lt (Heap.lt_size e)
  have nd':=nd
  simp only [List.nodup_cons,List.mem_cons,List.not_mem_nil,or_false,not_or,List.nodup_nil,and_true,not_false_eq_true] at nd'
  obtain ⟨⟨zTI,zTO,zi1,zi2⟩,⟨TITO,TIi1,TIi2⟩,⟨TOi1,TOi2⟩,i12⟩:=nd'
  have k2:∀c o,c∉[z,TO,i1,i2]->s.heap.get? c=some o->h2.get? c=some o:=fun c o hc e=>sb.extBut c o (fun q=>hc (by simp [q])) (kk c o hc e)
  have I1:Inv X pins σ H {s with heap:=h2}:=CT.Inv.d8 (t':=s.toks) (ch:=[z,TO,i1,i2]) I (fun b hb=>hf b (jj hb)) k2
  have hT:h2.get? s.heap.objs.size=some {cls:=.type "tuple",data:=.seq #[u,v]}:=sb.extBut _ _ (Ne.symm (nT z (by simp))) z5
  have I2:Inv X pins σ (upd H s.heap.objs.size (.tup [x,y])) {s with heap:=h2}:=CT.Inv.adopt I1 (I.eR (Nat.le_refl _) (I.hok.fresh (Nat.le_refl _)))
   ⟨by show 2<=sizeLine;decide,[u,v],.cons ru (.cons rv .nil),_,hT,rfl,_,rfl⟩
  refine ⟨.ref s.heap.objs.size,_,I2,rfl,⟨_,x,y,I.hok.fresh (Nat.le_refl _),rfl,rfl,fun xs' h'=>by rw [CT.Inv.d9 I h' hx];exact ex,fun ys' h'=>by rw [CT.Inv.d9 I h' hy];exact ey⟩,?_,fun b hb=>?_⟩
  ·refine ⟨z1',k2 _ _ (by simp [Ne.symm zTI,TITO,TIi1,TIi2]) q2,⟨#[u,v],sb.extBut _ _ (Ne.symm zTO) z2,rfl⟩,z3.at fun o e=>sb.extBut _ _ (Ne.symm zi1) e,z4.at fun o e=>sb.extBut _ _ (Ne.symm zi2) e⟩
  ·rw [ag (nT b hb)];exact (hf b hb).1
 done:=by
  intro X hP hw hK hc i pins s σ H E I hf ⟨q1,q2,⟨ts,q3,q3'⟩,q4,q5⟩ hg
  subst hP hw hK
  obtain ⟨xs,ys,hx,hy,he⟩:=hg
  obtain ⟨its,r1,p1,_⟩:=CT.Inv.sqb I hx
  obtain ⟨its2,r2,p2,_⟩:=CT.Inv.sqb I hy
  have n1:a1∉[z,TO,i1,i2]:=fun m=>CT.Inv.cH I hx (hf a1 (jj m)) rfl
  have n2:a2∉[z,TO,i1,i2]:=fun m=>CT.Inv.cH I hy (hf a2 (jj m)) rfl
  refine dW q1 (rR (I.ok.hd hc) nd n1 n2 q1 q2 q3 q3' q4 q5 p1 p2 (he.imp (jA r1) (jA r2)) fun h' e kk ⟨o,ho,hcls⟩=>⟨e,o,rfl,ho,hcls,rfl,?_⟩)
  exact CT.Inv.d8 (t':=s.toks) (ch:=[z,TO,i1,i2]) I (fun b hb=>hf b (jj hb)) kk
 self:=fun _ _ _ _ _ ⟨q1,_⟩ h=>wpAny_pyIter_zip q1 h
noncomputable def zi (K:PySem.W.Frag) (t:TA):TI:=fun σ H R=>t σ H fun vs H1=>∃b1 b2 a1 a2 xs ys,vs=[.ref a1,.ref a2]∧SqB K H1 b1 a1 xs∧SqB K H1 b2 a2 ys∧R (yE K b1 b2 a1 a2) H1
noncomputable def zS (K:PySem.W.Frag) (t:TA):TI:=fun σ H R=>t σ H fun vs H1=>∃b1 b2 b3 a1 a2 a3 xs ys us,vs=[.ref a1,.ref a2,.ref a3]∧SqB K H1 b1 a1 xs∧SqB K H1 b2 a2 ys∧SqB K H1 b3 a3 us∧R (xO K b1 b2 b3 a1 a2 a3) H1
section
variable {X:Cx} {elts:List Expr} {x1:Nat} {tpos:Pos}
theorem uT {a b:Expr} {ta:TA} {k} {p pos:Pos} (hg:Gl X "zip") (hm:X.mg "zip"=none) (ha:PA X [a,b] ta) (hs:starEach [a,b] X.env=[(false,eval a X.env),(false,eval b X.env)]:=by rfl) (hs2:starEach [b] X.env=[(false,eval b X.env)]:=by rfl):
  PI X (.Tuple elts k tpos) (.Call (.Name "zip" p) [a,b] [] pos) (zi X.K ta):=by
 intro pins s σ H R I h
 refine Call_ (dC I hg hm boot_zip (PyProof.Rows.callWith_type1 (thn (ha pos pins s σ H _ I h) fun us s1 ⟨vs,H1,I1,r1,q1⟩=>?_) (by rw [hs,hs2]) (by rw [hs2];rfl)))
 obtain ⟨b1,b2,a1,a2,xs,ys,e,hx,hy,q⟩:=q1
 subst e
 cases r1 with
 |cons r rr=>
  cases rr with
  |cons r' rr=>
   cases rr
   cases r
   cases r'
   obtain ⟨its,rv1,p1,_⟩:=CT.Inv.sqb I1 hx
   obtain ⟨its2,rv2,p2,_⟩:=CT.Inv.sqb I1 hy
   refine om p1 p2 fun h' x1 x2 x3 x4 x5 x6 x7=>?_
   refine wpAny_pyIter_zip x3 ?_
   refine ⟨_,_,_,_,H1,rfl,I1.kept (t':=s1.toks) x6,oO (TI:=s1.heap.objs.size+2) (TO:=s1.heap.objs.size+3) (i1:=s1.heap.objs.size) (i2:=s1.heap.objs.size+1) (by simp),⟨x3,x1,⟨_,x2,rfl⟩,x4,x5⟩,fun b hb=>?_,q⟩
   have hle:s1.heap.objs.size<=b:=by
    simp only [List.mem_cons,List.not_mem_nil,or_false] at hb
    rcases hb with rfl|rfl|rfl|rfl|rfl<;>omega
   exact I1.eR hle (I1.hok.fresh hle)
end
end CT
namespace CT
open PySem PySem.Spec L2
open PyProof.Rows hiding St
noncomputable def KP:List (PK×Addr×V)->List (PK×Addr×Value)->Prop:=Paired fun p q=>p.1=q.1∧p.2.1=q.2.1∧RelV p.2.2 q.2.2
noncomputable def Bg (h:Heap) (d:Addr) (xs:List (PK×Addr×Value)) (ep:Nat):Prop:=
 ∃o es,h.get? d=some o∧o.ExactDict∧o.data=.dict es ep∧es.toList=xs.map (fun x=>⟨x.1.hs,.ref x.2.1,x.2.2⟩)∧(xs.map (·.1)).Nodup
noncomputable def PD (a:Addr) (ep:Nat) (kvs:List (PK×Addr×V)):HO:=.ext fun h=>kvs.length<=sizeLine∧(a==sysModules)=false∧∃xs,KP kvs xs∧Bg h a xs ep
section
variable {P:Program} {w:World} {H:Hp} {h:Heap} {a:Addr} {ep:Nat} {kvs:List (PK×Addr×V)}
theorem zK (ok:HOk P w H h) (e:H a=some (PD a ep kvs)):kvs.length<=sizeLine∧(a==sysModules)=false∧∃xs,KP kvs xs∧cu (kE P w) h a xs ep:=(show aR P w H h a (PD a ep kvs) from ok a _ e).1
theorem yS {xs:List (PK×Addr×Value)} (z:kvs.length<=sizeLine) (hd:(a==sysModules)=false) (k:KP kvs xs) (r:cu (kE P w) h a xs ep):aR P w H h a (PD a ep kvs):=
 ⟨⟨z,hd,xs,k,r⟩,let ⟨o,_,e,_⟩:=r;⟨o,e⟩,fun h1 h2 ⟨z,hd,xs,k,r⟩ kk=>⟨z,hd,xs,k,cu.keep (knd:=kE P w) r kk⟩⟩
end
section
variable {X:Cx} {tg o i e value:Expr} {pos pos' apos cpos:Pos} {td ty tv:TE}
noncomputable def zY:TE:=fun _ H Q=>∀p,H p=none->Q (.ref p) (upd H p (PD p 0 []))
theorem uB:PE X (.Dict [] [] pos) zY:=fun pins s σ H Q I h=>
 wpAny_Dict_empty ⟨.ref s.heap.objs.size,_,I.laid (a:=s.heap.objs.size) (o:=PD s.heap.objs.size 0 []) (t':=s.toks) (fun _ _ q=>Heap.get?_push_of_some _ q) (Nat.le_refl _)
  (yS (Nat.zero_le _) (beq_eq_false_iff_ne.mpr (Ne.symm (Nat.ne_of_lt I.big))) (xs:=[]) .nil (cu.new s.heap)),rfl,h _ (I.hok.fresh (Nat.le_refl _))⟩
end
end CT
namespace CT
open PySem PySem.Spec L2
open PyProof.Rows hiding St
inductive D where
 |non|bl (b:Bool)|int (i:Int)|str (x:Str)|tup (xs:List D)|lst (xs:List D)|ins (C:Addr) (fs:List (Str×D))|exc (C:Addr) (fs:List (Str×D))
 |ty (n:String)|cl (C:Addr)
 |dct (kvs:List (D×D))|pdc (es:List (PK×D))
mutual
noncomputable def PK.d:PK->D
 |.i n=>.int n
 |.t l=>.tup (PK.dL l)
noncomputable def PK.dL:List PK->List D
 |[]=>[]
 |k::ks=>PK.d k::PK.dL ks
end
noncomputable def A0:Key->D
 |.inl i=>.int i
 |.inr x=>.str x
noncomputable abbrev Ad:=Addr->Prop
noncomputable def SqK (K:PySem.W.Frag) (a:Addr) (xs:List V):Prop:=
 ∃(o:Obj) (its:Array Value) (n:Nat),K.lookup a=some o∧o.cls=.type "list"∧o.dict=none∧o.data=.seq its n∧its.size<=sizeLine∧Vals xs its.toList
mutual
inductive Rds (K:PySem.W.Frag) (H:Hp) (S:Ad):D->V->Prop
 |non:Rds K H S .non .non
 |bl (b:Bool):Rds K H S (.bl b) (.bl b)
 |int (i:Int):Rds K H S (.int i) (.int i)
 |str (x:Str):Rds K H S (.str x) (.str x)
 |ty (n:String):Rds K H S (.ty n) (.ty n)
 |cl (C:Addr):Rds K H S (.cl C) (.ref C)
 |tup {a:Addr} {vs:List V} {xs:List D}:H a=some (.tup vs)->¬S a->ae K H S xs vs->Rds K H S (.tup xs) (.ref a)
 |lst {a:Addr} {vs:List V} {xs:List D}:Rd H a (.lst vs)->¬S a->ae K H S xs vs->Rds K H S (.lst xs) (.ref a)
 |lstK {a:Addr} {vs:List V} {xs:List D}:SqK K a vs->ae K H S xs vs->Rds K H S (.lst xs) (.ref a)
 |ins {a C dx:Addr} {fs:List (Str×D)} {gs:List (Str×V)}:H a=some (.ins C dx gs)->¬S a->aG K H S fs gs->Rds K H S (.ins C fs) (.ref a)
 |fH {fr:Bool} {a C:Addr}:H a=some (aJ fr a C none)->¬S a->Rds K H S (.exc C []) (.ref a)
 |exc {fr:Bool} {a C dx:Addr} {fs:List (Str×D)} {gs:List (Str×V)}:H a=some (aJ fr a C (some dx))->H dx=some (jk dx gs)->¬S a->¬S dx->aG K H S fs gs->Rds K H S (.exc C fs) (.ref a)
 |dK {a:Addr} {kvs:List (Key×V)} {es:List (D×D)}:H a=some (.dK kvs)->¬S a->es.map (·.1)=kvs.map (fun p=>A0 p.1)->ae K H S (es.map (·.2)) (kvs.map (·.2))->Rds K H S (.dct es) (.ref a)
 |dP {a:Addr} {ep:Nat} {kvs:List (PK×Addr×V)} {es:List (PK×D)}:H a=some (PD a ep kvs)->¬S a->bD K H S es kvs->Rds K H S (.pdc es) (.ref a)
inductive ae (K:PySem.W.Frag) (H:Hp) (S:Ad):List D->List V->Prop
 |nil:ae K H S [] []
 |cons {d:D} {v:V} {ds:List D} {vs:List V}:Rds K H S d v->ae K H S ds vs->ae K H S (d::ds) (v::vs)
inductive bD (K:PySem.W.Frag) (H:Hp) (S:Ad):List (PK×D)->List (PK×Addr×V)->Prop
 |nil:bD K H S [] []
 |cons {k:PK} {a:Addr} {d:D} {v:V} {ds:List (PK×D)} {vs:List (PK×Addr×V)}:k.dp<=8->Rds K H S (PK.d k) (.ref a)->Rds K H S d v->bD K H S ds vs->bD K H S ((k,d)::ds) ((k,a,v)::vs)
inductive aG (K:PySem.W.Frag) (H:Hp) (S:Ad):List (Str×D)->List (Str×V)->Prop
 |nil:aG K H S [] []
 |cons {n:Str} {d:D} {v:V} {ds:List (Str×D)} {vs:List (Str×V)}:Rds K H S d v->aG K H S ds vs->aG K H S ((n,d)::ds) ((n,v)::vs)
end
noncomputable def Ext (S:Ad) (H H':Hp):Prop:=∀a o,¬S a->H a=some o->H' a=some o
noncomputable abbrev no:Ad:=fun _=>False
noncomputable abbrev aF (H H':Hp):Prop:=Ext no H H'
theorem Ext.refl {S:Ad} {H:Hp}:Ext S H H:=fun _ _ _ e=>e
theorem Ext.trans {S:Ad} {H H1 H2:Hp} (a:Ext S H H1) (b:Ext S H1 H2):Ext S H H2:=fun c o n e=>b c o n (a c o n e)
theorem Ext.to {H H':Hp} (e:aF H H') (S:Ad):Ext S H H':=fun a o _ h=>e a o (fun z=>z) h
theorem Ext.new {H:Hp} {p:Addr} {o:HO} (hp:H p=none):aF H (upd H p o):=fun a u _ e=>by rw [ag (aj e hp)];exact e
theorem Ext.set {H:Hp} {S:Ad} {p:Addr} {o:HO} (hp:S p):Ext S H (upd H p o):=fun a u n e=>by rw [ag (fun z:a=p=>n (by rw [z];exact hp))];exact e
theorem Ext.ne {H H':Hp} (e:aF H H') {a:Addr} (h:H a≠none):H' a≠none:=by
 cases q:H a with
 |none=>exact absurd q h
 |some o=>rw [e a o (fun z=>z) q];intro z;cases z
theorem Rd.ext {S:Ad} {H H':Hp} {a:Addr} {u:HO} (e:Ext S H H') (n:¬S a) (r:Rd H a u):Rd H' a u:=r.elim (fun z=>.inl (e _ _ n z)) fun ⟨o,z⟩=>.inr ⟨o,e _ _ n z⟩
section
variable {K:PySem.W.Frag} {H H':Hp} {S S':Ad}
mutual
theorem Rds.ext (e:Ext S H H'):∀{d:D} {v:V},Rds K H S d v->Rds K H' S d v
 |_,_,.non=>.non
 |_,_,.bl b=>.bl b
 |_,_,.int i=>.int i
 |_,_,.str x=>.str x
 |_,_,.ty n=>.ty n
 |_,_,.cl C=>.cl C
 |_,_,.tup h n r=>.tup (e _ _ n h) n (ae.ext e r)
 |_,_,.lst h n r=>.lst (CT.Rd.ext e n h) n (ae.ext e r)
 |_,_,.lstK h r=>.lstK h (ae.ext e r)
 |_,_,.ins h n r=>.ins (e _ _ n h) n (aG.ext e r)
 |_,_,.fH h n=>.fH (e _ _ n h) n
 |_,_,.exc h h2 n n2 r=>.exc (e _ _ n h) (e _ _ n2 h2) n n2 (aG.ext e r)
 |_,_,.dK h n k r=>.dK (e _ _ n h) n k (ae.ext e r)
 |_,_,.dP h n r=>.dP (e _ _ n h) n (bD.ext e r)
theorem bD.ext (e:Ext S H H'):∀{ds:List (PK×D)} {vs:List (PK×Addr×V)},bD K H S ds vs->bD K H' S ds vs
 |_,_,.nil=>.nil
 |_,_,.cons p k r t=>.cons p (Rds.ext e k) (Rds.ext e r) (bD.ext e t)
theorem ae.ext (e:Ext S H H'):∀{ds:List D} {vs:List V},ae K H S ds vs->ae K H' S ds vs
 |_,_,.nil=>.nil
 |_,_,.cons r t=>.cons (Rds.ext e r) (ae.ext e t)
theorem aG.ext (e:Ext S H H'):∀{ds:List (Str×D)} {vs:List (Str×V)},aG K H S ds vs->aG K H' S ds vs
 |_,_,.nil=>.nil
 |_,_,.cons r t=>.cons (Rds.ext e r) (aG.ext e t)
end
mutual
theorem Rds.av (e:∀a,S' a->S a∨H a=none):∀{d:D} {v:V},Rds K H S d v->Rds K H S' d v
 |_,_,.non=>.non
 |_,_,.bl b=>.bl b
 |_,_,.int i=>.int i
 |_,_,.str x=>.str x
 |_,_,.ty n=>.ty n
 |_,_,.cl C=>.cl C
 |_,_,.tup h n r=>.tup h (fun z=>(e _ z).elim n fun q=>by rw [h] at q;cases q) (ae.av e r)
 |_,_,.lst h n r=>.lst h (fun z=>(e _ z).elim n fun q=>by rcases h with h|⟨_,h⟩<;>(rw [h] at q;cases q)) (ae.av e r)
 |_,_,.lstK h r=>.lstK h (ae.av e r)
 |_,_,.ins h n r=>.ins h (fun z=>(e _ z).elim n fun q=>by rw [h] at q;cases q) (aG.av e r)
 |_,_,.fH h n=>.fH h (fun z=>(e _ z).elim n fun q=>by rw [h] at q;cases q)
 |_,_,.exc h h2 n n2 r=>.exc h h2 (fun z=>(e _ z).elim n fun q=>by rw [h] at q;cases q) (fun z=>(e _ z).elim n2 fun q=>by rw [h2] at q;cases q) (aG.av e r)
 |_,_,.dK h n k r=>.dK h (fun z=>(e _ z).elim n fun q=>by rw [h] at q;cases q) k (ae.av e r)
 |_,_,.dP h n r=>.dP h (fun z=>(e _ z).elim n fun q=>by rw [h] at q;cases q) (bD.av e r)
theorem bD.av (e:∀a,S' a->S a∨H a=none):∀{ds:List (PK×D)} {vs:List (PK×Addr×V)},bD K H S ds vs->bD K H S' ds vs
 |_,_,.nil=>.nil
 |_,_,.cons p k r t=>.cons p (Rds.av e k) (Rds.av e r) (bD.av e t)
theorem ae.av (e:∀a,S' a->S a∨H a=none):∀{ds:List D} {vs:List V},ae K H S ds vs->ae K H S' ds vs
 |_,_,.nil=>.nil
 |_,_,.cons r t=>.cons (Rds.av e r) (ae.av e t)
theorem aG.av (e:∀a,S' a->S a∨H a=none):∀{ds:List (Str×D)} {vs:List (Str×V)},aG K H S ds vs->aG K H S' ds vs
 |_,_,.nil=>.nil
 |_,_,.cons r t=>.cons (Rds.av e r) (aG.av e t)
end
theorem ae.length:∀{ds:List D} {vs:List V},ae K H S ds vs->ds.length=vs.length
 |_,_,.nil=>rfl
 |_,_,.cons _ t=>by rw [List.length_cons,List.length_cons,ae.length t]
theorem ae.get:∀{ds:List D} {vs:List V} {i:Nat} {d:D},ae K H S ds vs->ds[i]?=some d->∃v,vs[i]?=some v∧Rds K H S d v
 |_,_,0,_,.cons r _,e=>by simp at e;subst e;exact ⟨_,rfl,r⟩
 |_,_,i+1,_,.cons _ t,e=>by
  obtain ⟨v,h1,h2⟩:=ae.get (i:=i) t (by simpa using e)
  exact ⟨v,by simpa using h1,h2⟩
theorem ae.app:∀{ds es:List D} {vs us:List V},ae K H S ds vs->ae K H S es us->ae K H S (ds++es) (vs++us)
 |_,_,_,_,.nil,s=>s
 |_,_,_,_,.cons r t,s=>.cons r (ae.app t s)
theorem ae.rep {d:D} {v:V} (r:Rds K H S d v):∀n:Nat,ae K H S (List.replicate n d) (List.replicate n v)
 |0=>.nil
 |n+1=>.cons r (ae.rep r n)
theorem aG.look {f:Str}:∀{ds:List (Str×D)} {vs:List (Str×V)} {d:D},aG K H S ds vs->ds.lookup f=some d->∃v,vs.lookup f=some v∧Rds K H S d v
 |(n,x)::r,_,d,.cons q t,e=>by
  rw [List.lookup_cons] at e ⊢
  cases hb:f==n with
  |true=>rw [hb] at e;cases e;exact ⟨_,rfl,q⟩
  |false=>rw [hb] at e;exact aG.look t e
theorem aG.none {f:Str}:∀{ds:List (Str×D)} {vs:List (Str×V)},aG K H S ds vs->ds.lookup f=none->vs.lookup f=none
 |[],_,.nil,_=>rfl
 |(n,x)::r,_,.cons q t,e=>by
  rw [List.lookup_cons] at e ⊢
  cases hb:f==n with
  |true=>rw [hb] at e;cases e
  |false=>rw [hb] at e;exact aG.none t e
theorem Rds.aU {i:Int} {v:V} (r:Rds K H S (.int i) v):v=.int i:=by cases r;rfl
theorem Rds.blV {b:Bool} {v:V} (r:Rds K H S (.bl b) v):v=.bl b:=by cases r;rfl
theorem Rds.nP {v:V} (r:Rds K H S .non v):v=.non:=by cases r;rfl
theorem Rds.dQ {xs:List D} {v:V} (r:Rds K H S (.tup xs) v):∃a vs,v=.ref a∧H a=some (.tup vs)∧ae K H S xs vs:=by cases r with|tup h n r=>exact ⟨_,_,rfl,h,r⟩
theorem Rds.g_ {xs:List D} {v:V} (r:Rds K H S (.lst xs) v):∃a vs,v=.ref a∧SqL K H a vs∧ae K H S xs vs:=by
 cases r with
 |lst h n r=>exact ⟨_,_,rfl,.inl h,r⟩
 |lstK h r=>exact ⟨_,_,rfl,.inr h,r⟩
theorem Rds.gc {C:Addr} {fs:List (Str×D)} {v:V} (r:Rds K H S (.ins C fs) v):∃a dx gs,v=.ref a∧H a=some (.ins C dx gs)∧aG K H S fs gs:=by cases r with|ins h n r=>exact ⟨_,_,_,rfl,h,r⟩
theorem ae.one {d:D} {vs:List V} (r:ae K H S [d] vs):∃v,vs=[v]∧Rds K H S d v:=by cases r with|cons r t=>cases t;exact ⟨_,rfl,r⟩
theorem ae.two {d e:D} {vs:List V} (r:ae K H S [d,e] vs):∃v u,vs=[v,u]∧Rds K H S d v∧Rds K H S e u:=by
 cases r with|cons r t=>obtain ⟨u,rfl,q⟩:=t.one;exact ⟨_,_,rfl,r,q⟩
noncomputable def Dom (H:Hp) (S:Ad):Prop:=∀a,S a->H a≠none
theorem Dom.ext {H H':Hp} {S:Ad} (d:Dom H S) (e:aF H H'):Dom H' S:=fun a h=>e.ne (d a h)
theorem Dom.not {H:Hp} {S:Ad} (d:Dom H S) {p:Addr} (hp:H p=Option.none):¬S p:=fun z=>d p z hp
theorem Rds.dF {p:Addr} {vs:List V} {xs:List D} (dm:Dom H S) (hp:H p=Option.none) (r:ae K H S xs vs):Rds K (upd H p (.tup vs)) S (.tup xs) (.ref p):=.tup au (dm.not hp) (r.ext ((Ext.new hp).to S))
theorem Rds.iX {p:Addr} {vs:List V} {xs:List D} (dm:Dom H S) (hp:H p=Option.none) (r:ae K H S xs vs):Rds K (upd H p (.lst vs)) S (.lst xs) (.ref p):=.lst (.inl au) (dm.not hp) (r.ext ((Ext.new hp).to S))
end
inductive Ow where
 |l (xs:List D)|d (es:List (PK×D))
noncomputable def Ow.D:Ow->D
 |.l xs=>.lst xs
 |.d es=>.pdc es
noncomputable def cC (K:PySem.W.Frag) (H:Hp) (S:Ad) (a:Addr):Ow->HO->Prop
 |.l xs,o=>∃vs,o=.lst vs∧ae K H S xs vs
 |.d es,o=>∃ep kvs,o=PD a ep kvs∧bD K H S es kvs
inductive Sl where
 |nil|any|val (d:D)|owx (c:Ow)|new (C x dx:Addr) (fs:List (Str×D))
noncomputable abbrev Sl.own (xs:List D):Sl:=.owx (.l xs)
section
variable {K:PySem.W.Frag} {H H':Hp} {S S':Ad} {a:Addr} {c:Ow} {o:HO}
theorem cC.ext (e:Ext S H H') (h:cC K H S a c o):cC K H' S a c o:=by
 cases c with
 |l xs=>obtain ⟨vs,q,r⟩:=h;exact ⟨vs,q,r.ext e⟩
 |d es=>obtain ⟨ep,vs,q,r⟩:=h;exact ⟨ep,vs,q,r.ext e⟩
theorem cC.av (e:∀a,S' a->S a∨H a=none) (h:cC K H S a c o):cC K H S' a c o:=by
 cases c with
 |l xs=>obtain ⟨vs,q,r⟩:=h;exact ⟨vs,q,r.av e⟩
 |d es=>obtain ⟨ep,vs,q,r⟩:=h;exact ⟨ep,vs,q,r.av e⟩
theorem cC.rds (h:cC K H S a c o) (ha:H a=some o) (n:¬S a):Rds K H S c.D (.ref a):=by
 cases c with
 |l xs=>obtain ⟨vs,rfl,r⟩:=h;exact .lst (.inl ha) n r
 |d es=>obtain ⟨ep,vs,rfl,r⟩:=h;exact .dP ha n r
theorem cC.sort (h:cC K H S a c o):(∃vs,o=.lst vs)∨∃ep kvs,o=PD a ep kvs:=by
 cases c with
 |l xs=>obtain ⟨vs,rfl,r⟩:=h;exact .inl ⟨vs,rfl⟩
 |d es=>obtain ⟨ep,vs,rfl,r⟩:=h;exact .inr ⟨ep,vs,rfl⟩
end
noncomputable abbrev Rho:=List Sl
noncomputable def Sl.du:Sl->Prop
 |.owx _=>True|.new _ _ _ _=>True|_=>False
noncomputable def RO (K:PySem.W.Frag) (H:Hp) (S:Ad):Sl->Option V->Prop
 |.nil,v=>v=none
 |.any,_=>True
 |.val d,v=>∃u,v=some u∧Rds K H S d u
 |.owx c,v=>∃a o,v=some (.ref a)∧S a∧H a=some o∧cC K H S a c o
 |.new C x dx fs,v=>∃gs,v=some (.ref x)∧S x∧H x=some (.ins C dx gs)∧aG K H S fs gs
theorem RO.ext {K:PySem.W.Frag} {H H':Hp} {S:Ad} (e:aF H H'):∀{x:Sl} {v:Option V},RO K H S x v->RO K H' S x v
 |.nil,_,h=>h
 |.any,_,_=>trivial
 |.val _,_,⟨u,h,r⟩=>⟨u,h,r.ext (e.to S)⟩
 |.owx _,_,⟨a,vs,h,s,o,r⟩=>⟨a,vs,h,s,e _ _ (fun z=>z) o,r.ext (e.to S)⟩
 |.new _ _ _ _,_,⟨gs,h,s,o,r⟩=>⟨gs,h,s,e _ _ (fun z=>z) o,r.ext (e.to S)⟩
structure VE (K:PySem.W.Frag) (H:Hp) (S:Ad) (ρ:Rho) (σ:St):Prop where
 len:ρ.length=σ.length
 rel:∀(i:Nat) (x:Sl),ρ[i]?=some x->∃v,σ[i]?=some v∧RO K H S x v
 dist:∀(i j:Nat) (x y:Sl) (a:Addr),i≠j->ρ[i]?=some x->ρ[j]?=some y->x.du->y.du->σ[i]?=some (some (.ref a))->σ[j]?≠some (some (.ref a))
 dom:Dom H S
section
variable {K:PySem.W.Frag} {H H':Hp} {S:Ad} {ρ:Rho} {σ:St} {i:Nat}
theorem VE.ext (v:VE K H S ρ σ) (e:aF H H'):VE K H' S ρ σ:=⟨v.len,fun i x h=>let ⟨u,h1,h2⟩:=v.rel i x h;⟨u,h1,h2.ext e⟩,v.dist,v.dom.ext e⟩
theorem VE.get {d:D} (v:VE K H S ρ σ) (h:ρ[i]?=some (.val d)):∃u,σ[i]?=some (some u)∧Rds K H S d u:=by
 obtain ⟨w,h1,u,rfl,r⟩:=v.rel i _ h
 exact ⟨u,h1,r⟩
theorem VE.set {d:D} {u:V} (v:VE K H S ρ σ) (r:Rds K H S d u):VE K H S (ρ.set i (.val d)) (σ.set i (some u)):=by
 refine ⟨by simpa using v.len,fun j x h=>?_,fun j k x y a hjk h1 h2 o1 o2 h3=>?_,v.dom⟩
 ·by_cases hj:i=j
  ·subst hj
   have hi:i<ρ.length:=by
    have:=(List.getElem?_eq_some_iff.mp h).1
    simpa using this
   rw [List.getElem?_set_self hi] at h
   cases h
   exact ⟨some u,List.getElem?_set_self (v.len▸hi),u,rfl,r⟩
  ·rw [List.getElem?_set_ne hj] at h ⊢
   exact v.rel j x h
 ·have n1:i≠j:=fun z=>by
   subst z
   have hi:=(List.getElem?_eq_some_iff.mp h1).1
   rw [List.getElem?_set_self (by simpa using hi)] at h1;cases h1;exact o1
  have n2:i≠k:=fun z=>by
   subst z
   have hi:=(List.getElem?_eq_some_iff.mp h2).1
   rw [List.getElem?_set_self (by simpa using hi)] at h2;cases h2;exact o2
  rw [List.getElem?_set_ne n1] at h1 h3
  rw [List.getElem?_set_ne n2] at h2 ⊢
  exact v.dist j k x y a hjk h1 h2 o1 o2 h3
theorem VE.unset (v:VE K H S ρ σ) (h:ρ[i]?=some .nil):σ[i]?=some none:=by
 obtain ⟨w,h1,rfl⟩:=v.rel i _ h
 exact h1
end
noncomputable def tD (K:PySem.W.Frag) (ρ:Rho) (d:D):TE:=fun σ H Q=>∃S,VE K H S ρ σ∧∀v H',aF H H'->Rds K H' S d v->Q v H'
noncomputable def tDT (K:PySem.W.Frag) (ρ:Rho) (b:Bool):TT:=fun σ H Q=>∃S,VE K H S ρ σ∧∀H',aF H H'->Q b H'
noncomputable def tDA (K:PySem.W.Frag) (ρ:Rho) (ds:List D):TA:=fun σ H Q=>∃S,VE K H S ρ σ∧∀vs H',aF H H'->ae K H' S ds vs->Q vs H'
noncomputable def DE (X:Cx) (ρ:Rho) (e:Expr) (d:D):Prop:=PE X e (tD X.K ρ d)
noncomputable def DT (X:Cx) (ρ:Rho) (e:Expr) (b:Bool):Prop:=PT X e (tDT X.K ρ b)
noncomputable def DW (X:Cx) (ρ:Rho) (e:Expr) (b:Bool):Prop:=PW X e (tDT X.K ρ b)
noncomputable def DA (X:Cx) (ρ:Rho) (es:List Expr) (ds:List D):Prop:=PA X es (tDA X.K ρ ds)
section
variable {X:Cx}
theorem PE.weak {e:Expr} {t t':TE} (h:PE X e t) (w:∀σ H Q,t' σ H Q->t σ H Q):PE X e t':=fun pins s σ H Q I q=>h pins s σ H Q I (w σ H Q q)
theorem PT.weak {e:Expr} {t t':TT} (h:PT X e t) (w:∀σ H Q,t' σ H Q->t σ H Q):PT X e t':=fun pins s σ H Q I q=>h pins s σ H Q I (w σ H Q q)
theorem PW.weak {e:Expr} {t t':TT} (h:PW X e t) (w:∀σ H Q,t' σ H Q->t σ H Q):PW X e t':=fun wh pins s σ H Q I q=>h wh pins s σ H Q I (w σ H Q q)
theorem PA.weak {es:List Expr} {t t':TA} (h:PA X es t) (w:∀σ H Q,t' σ H Q->t σ H Q):PA X es t':=fun pos pins s σ H Q I q=>h pos pins s σ H Q I (w σ H Q q)
theorem PS.weak {st:Stmt} {t t':TS} (h:PS X st t) (w:∀D σ H,t' D σ H->t D σ H):PS X st t':=fun pins s σ H D I q=>h pins s σ H D I (w D σ H q)
theorem PSs.weak {st:List Stmt} {t t':TS} (h:PSs X st t) (w:∀D σ H,t' D σ H->t D σ H):PSs X st t':=fun pins s σ H D I q=>h pins s σ H D I (w D σ H q)
variable {ρ:Rho} {a b c e:Expr} {pos:Pos} {d da db dc:D}
theorem l0 {i:Nat} {x:Str} (hN:X.N[i]?=some x) (hv:Vis X.env.scope x) (hr:ρ[i]?=some (.val d)) (hd:(x==("__debug__":Str))=false:=by decide) (hcd:(x==("__classdict__":Str))=false:=by decide):DE X ρ (.Name x pos) d:=
 PE.weak (gy hN hv hd hcd) fun σ H Q ⟨S,ve,k⟩=>let ⟨u,h1,r⟩:=ve.get hr;⟨u,h1,k u H Ext.refl r⟩
theorem yv {i:Int} {j}:DE X ρ (.Constant (.int i) j pos) (.int i):=PE.weak wt fun σ H Q ⟨S,ve,k⟩=>k _ H Ext.refl (.int i)
theorem tU {q:Bool} {j}:DE X ρ (.Constant (.bool q) j pos) (.bl q):=PE.weak zG fun σ H Q ⟨S,ve,k⟩=>k _ H Ext.refl (.bl q)
theorem gE {j}:DE X ρ (.Constant .none j pos) .non:=PE.weak yg fun σ H Q ⟨S,ve,k⟩=>k _ H Ext.refl .non
theorem wx {x:Str} {j}:DE X ρ (.Constant (.str x) j pos) (.str x):=PE.weak wj fun σ H Q ⟨S,ve,k⟩=>k _ H Ext.refl (.str x)
theorem zC {x:Str} {n:String} (hg:Gl X x) (hm:X.mg x=none) (hv:bootBuiltins x=some (.type n)) (hn:x≠"__name__":=by decide) (hd:(x==("__debug__":Str))=false:=by decide):DE X ρ (.Name x pos) (.ty n):=
 PE.weak (u5 hg hm hv (v:=.ty n) rfl hn hd) fun σ H Q ⟨S,ve,k⟩=>k _ H Ext.refl (.ty n)
theorem zE {x:Str} {C:Addr} (hg:Gl X x) (hm:X.mg x=some (.ref C)) (hd:(x==("__debug__":Str))=false:=by decide):DE X ρ (.Name x pos) (.cl C):=
 PE.weak (mS hg hm (v:=.ref C) rfl hd) fun σ H Q ⟨S,ve,k⟩=>k _ H Ext.refl (.cl C)
theorem r9 {x:Str} {i:Int} {t:Tok} (hg:Gl X x) (hm:X.mg x=some (.int i t)) (hd:(x==("__debug__":Str))=false:=by decide):DE X ρ (.Name x pos) (.int i):=
 PE.weak (mS hg hm (v:=.int i) ⟨t,rfl⟩ hd) fun σ H Q ⟨S,ve,k⟩=>k _ H Ext.refl (.int i)
noncomputable def R2D (K:PySem.W.Frag) (r:R2) (da db d:D):Prop:=∀(x y:V) (H:Hp) (S:Ad) (Q:VK),Rds K H S da x->Rds K H S db y->Dom H S->(∀v H',aF H H'->Rds K H' S d v->Q v H')->r x y H Q
theorem lz {r:R2} (h:R2D X.K r da db d) (σ:St) (H:Hp) (Q:VK) (q:tD X.K ρ d σ H Q):tOp r (tD X.K ρ da) (tD X.K ρ db) σ H Q:=by
 obtain ⟨S,ve,k⟩:=q
 exact ⟨S,ve,fun x H1 e1 r1=>⟨S,ve.ext e1,fun y H2 e2 r2=>h x y H2 S Q (r1.ext (e2.to S)) r2 ((ve.ext e1).ext e2).dom fun v H' e3 r3=>k v H' (e1.trans (e2.trans e3)) r3⟩⟩
theorem c_ {op:Operator} {r:R2} (ho:OpR X (binaryOp op) r) (h:R2D X.K r da db d) (ha:DE X ρ a da) (hb:DE X ρ b db):DE X ρ (.BinOp a op b pos) d:=PE.weak (Ac ho ha hb) (lz h)
theorem bL {op:CmpOp} {r:R2} (ho:OpR X (compareOp op) r) (h:R2D X.K r da db d) (ha:DE X ρ a da) (hb:DE X ρ b db) (hm:behindInMarks op b=false):DE X ρ (.Compare a [op] [b] pos) d:=PE.weak (ur ho ha hb hm) (lz h)
theorem vJ {te:TE} {q:Bool} (h:∀σ H Q,tD X.K ρ (.bl q) σ H Q->te σ H Q) (σ:St) (H:Hp) (Q:Bool->Hp->Prop) (w:tDT X.K ρ q σ H Q):tB te σ H Q:=by
 obtain ⟨S,ve,k⟩:=w
 exact h σ H _ ⟨S,ve,fun v H' e r=>⟨q,r.blV,k H' e⟩⟩
theorem bK {op:CmpOp} {r:R2} {q:Bool} (ho:OpR X (compareOp op) r) (h:R2D X.K r da db (.bl q)) (ha:DE X ρ a da) (hb:DE X ρ b db) (hm:behindInMarks op b=false):DT X ρ (.Compare a [op] [b] pos) q:=by
 refine PT.weak (uy ho ha hb hm) fun σ H Q w=>?_
 obtain ⟨S,ve,k⟩:=w
 exact lz h σ H _ ⟨S,ve,fun v H' e r=>by rw [r.blV];exact ⟨q,rfl,k H' e⟩⟩
theorem gk {q:Bool} (h:DE X ρ e (.bl q)) (he:∀whole,isTrue e X.env whole=(do let v←whole;standAt e.pos;holding [v] (truthy v)):=by intro _;rfl):DT X ρ e q:=PT.weak (yp h he) (vJ fun _ _ _ w=>w)
theorem xB {i j:Int} {K:PySem.W.Frag}:R2D K (rI0 fun i j=>.int (i+j)) (.int i) (.int j) (.int (i+j)):=fun x y H S Q rx ry dm k=>⟨i,j,rx.aU,ry.aU,k _ H Ext.refl (.int _)⟩
theorem yX {i j:Int} {K:PySem.W.Frag}:R2D K (rI0 fun i j=>.int (i - j)) (.int i) (.int j) (.int (i - j)):=fun x y H S Q rx ry dm k=>⟨i,j,rx.aU,ry.aU,k _ H Ext.refl (.int _)⟩
theorem yw {i j:Int} {K:PySem.W.Frag} (h:ic i j):R2D K (rI ic fun i j=>.int (i*j)) (.int i) (.int j) (.int (i*j)):=fun x y H S Q rx ry dm k=>⟨i,j,rx.aU,ry.aU,h,k _ H Ext.refl (.int _)⟩
theorem wQ {i j:Int} {K:PySem.W.Frag} (h:0<j):R2D K (rI (fun _ j=>0<j) fun i j=>.int (i%j)) (.int i) (.int j) (.int (i%j)):=fun x y H S Q rx ry dm k=>⟨i,j,rx.aU,ry.aU,h,k _ H Ext.refl (.int _)⟩
theorem vz {i j:Int} {K:PySem.W.Frag} (h:nM i j):R2D K (rI nM fun i j=>.int (i / j)) (.int i) (.int j) (.int (i / j)):=fun x y H S Q rx ry dm k=>⟨i,j,rx.aU,ry.aU,h,k _ H Ext.refl (.int _)⟩
theorem dE {i j:Int} {K:PySem.W.Frag} {g:Int->Int->Bool}:R2D K (rI0 fun i j=>.bl (g i j)) (.int i) (.int j) (.bl (g i j)):=fun x y H S Q rx ry dm k=>⟨i,j,rx.aU,ry.aU,k _ H Ext.refl (.bl _)⟩
theorem wL {i j:Int} (ha:DE X ρ a (.int i)) (hb:DE X ρ b (.int j)):DE X ρ (.BinOp a .Add b pos) (.int (i+j)):=c_ yf xB ha hb
theorem y3 {i j:Int} (ha:DE X ρ a (.int i)) (hb:DE X ρ b (.int j)):DE X ρ (.BinOp a .Sub b pos) (.int (i - j)):=c_ xx yX ha hb
theorem yr {i j:Int} (h:ic i j) (ha:DE X ρ a (.int i)) (hb:DE X ρ b (.int j)):DE X ρ (.BinOp a .Mult b pos) (.int (i*j)):=c_ yI (yw h) ha hb
theorem w6 {i j:Int} (h:0<j) (ha:DE X ρ a (.int i)) (hb:DE X ρ b (.int j)):DE X ρ (.BinOp a .Mod b pos) (.int (i%j)):=c_ xy (wQ h) ha hb
theorem uD {i j:Int} (h:nM i j) (ha:DE X ρ a (.int i)) (hb:DE X ρ b (.int j)):DE X ρ (.BinOp a .FloorDiv b pos) (.int (i / j)):=c_ uO (vz h) ha hb
theorem zT {i j:Int} (ha:DE X ρ a (.int i)) (hb:DE X ρ b (.int j)):DE X ρ (.Compare a [.Lt] [b] pos) (.bl (decide (i<j))):=bL nY dE ha hb (aN _)
theorem zq {i j:Int} (ha:DE X ρ a (.int i)) (hb:DE X ρ b (.int j)):DE X ρ (.Compare a [.LtE] [b] pos) (.bl (decide (i<=j))):=bL oz dE ha hb (aN _)
theorem Av {i j:Int} (ha:DE X ρ a (.int i)) (hb:DE X ρ b (.int j)):DE X ρ (.Compare a [.Gt] [b] pos) (.bl (decide (j<i))):=bL sO dE ha hb (aN _)
theorem Ai {i j:Int} (ha:DE X ρ a (.int i)) (hb:DE X ρ b (.int j)):DE X ρ (.Compare a [.GtE] [b] pos) (.bl (decide (j<=i))):=bL tx dE ha hb (aN _)
theorem Am {i j:Int} (ha:DE X ρ a (.int i)) (hb:DE X ρ b (.int j)):DT X ρ (.Compare a [.Lt] [b] pos) (decide (i<j)):=bK nY dE ha hb (aN _)
theorem zj {i j:Int} (ha:DE X ρ a (.int i)) (hb:DE X ρ b (.int j)):DT X ρ (.Compare a [.LtE] [b] pos) (decide (i<=j)):=bK oz dE ha hb (aN _)
theorem Ab {i j:Int} (ha:DE X ρ a (.int i)) (hb:DE X ρ b (.int j)):DT X ρ (.Compare a [.Gt] [b] pos) (decide (j<i)):=bK sO dE ha hb (aN _)
theorem Au {i j:Int} (ha:DE X ρ a (.int i)) (hb:DE X ρ b (.int j)):DT X ρ (.Compare a [.GtE] [b] pos) (decide (j<=i)):=bK tx dE ha hb (aN _)
noncomputable def flat:D->Option V
 |.non=>some .non|.bl b=>some (.bl b)|.int i=>some (.int i)|.str x=>some (.str x)
 |_=>none
theorem iP {K:PySem.W.Frag} {H:Hp} {S:Ad} {d:D} {u v:V} (h:flat d=some u) (r:Rds K H S d v):v=u:=by
 cases r<;>(simp only [flat] at h;first|(cases h;rfl)|cases h)
theorem tw {K:PySem.W.Frag} {u v:V} (ha:flat da=some u) (hb:flat db=some v) (hs:nD u v=true):R2D K rEq da db (.bl (decide (u=v))):=fun x y H S Q rx ry dm k=>by
 rw [iP ha rx,iP hb ry]
 exact ⟨hs,k _ H Ext.refl (.bl _)⟩
theorem tL {K:PySem.W.Frag} {u v:V} (ha:flat da=some u) (hb:flat db=some v) (hs:nD u v=true):R2D K rNe da db (.bl (!decide (u=v))):=fun x y H S Q rx ry dm k=>by
 rw [iP ha rx,iP hb ry]
 exact ⟨hs,k _ H Ext.refl (.bl _)⟩
theorem xn {i j:Int} (ha:DE X ρ a (.int i)) (hb:DE X ρ b (.int j)):DE X ρ (.Compare a [.Eq] [b] pos) (.bl (decide (i=j))):=by
 have:=bL (pos:=pos) sR (tw (K:=X.K) (da:=.int i) (db:=.int j) rfl rfl rfl) ha hb (aN _)
 simpa using this
theorem wu {i j:Int} (ha:DE X ρ a (.int i)) (hb:DE X ρ b (.int j)):DE X ρ (.Compare a [.NotEq] [b] pos) (.bl (!decide (i=j))):=by
 have:=bL (pos:=pos) sY (tL (K:=X.K) (da:=.int i) (db:=.int j) rfl rfl rfl) ha hb (aN _)
 simpa using this
theorem xY {i j:Int} (ha:DE X ρ a (.int i)) (hb:DE X ρ b (.int j)):DT X ρ (.Compare a [.Eq] [b] pos) (decide (i=j)):=by
 have:=bK (pos:=pos) sR (tw (K:=X.K) (da:=.int i) (db:=.int j) rfl rfl rfl) ha hb (aN _)
 simpa using this
theorem wy {i j:Int} (ha:DE X ρ a (.int i)) (hb:DE X ρ b (.int j)):DT X ρ (.Compare a [.NotEq] [b] pos) (!decide (i=j)):=by
 have:=bK (pos:=pos) sY (tL (K:=X.K) (da:=.int i) (db:=.int j) rfl rfl rfl) ha hb (aN _)
 simpa using this
theorem wG {i:Int} (ha:DE X ρ a (.int i)):DE X ρ (.UnaryOp .USub a pos) (.int (-i)):=
 PE.weak (zu yB ha) fun σ H Q ⟨S,ve,k⟩=>⟨S,ve,fun v H' e r=>⟨i,r.aU,k _ H' e (.int _)⟩⟩
theorem yz {op} (h:DE X ρ a d):DE X ρ (.BoolOp op [a] pos) d:=xi h
theorem pF {p q:Bool} {rest:List Expr} (ha:DE X ρ a (.bl p)) (hb:p=true->DE X ρ (.BoolOp .And (b::rest) pos) (.bl q)):DE X ρ (.BoolOp .And (a::b::rest) pos) (.bl (p&&q)):=by
 cases p with
 |true=>exact PE.weak (qk ha (hb rfl)) fun σ H Q ⟨S,ve,k⟩=>⟨S,ve,fun v H' e r=>⟨true,r.blV,by refine ej ?_;exact ⟨S,ve.ext e,fun v' H'' e' r'=>k v' H'' (e.trans e') r'⟩⟩⟩
 |false=>
  have hn:PE X (.BoolOp .And (b::rest) pos) (fun _ _ _=>False):=fun _ _ _ _ _ _ z=>z.elim
  exact PE.weak (qk ha hn) fun σ H Q ⟨S,ve,k⟩=>⟨S,ve,fun v H' e r=>⟨false,r.blV,by refine eQ ?_;exact k _ H' e (.bl _)⟩⟩
theorem tZ {p q:Bool} {rest:List Expr} (ha:DE X ρ a (.bl p)) (hb:p=false->DE X ρ (.BoolOp .Or (b::rest) pos) (.bl q)):DE X ρ (.BoolOp .Or (a::b::rest) pos) (.bl (p||q)):=by
 cases p with
 |false=>exact PE.weak (tM ha (hb rfl)) fun σ H Q ⟨S,ve,k⟩=>⟨S,ve,fun v H' e r=>⟨false,r.blV,by refine eQ ?_;exact ⟨S,ve.ext e,fun v' H'' e' r'=>k v' H'' (e.trans e') r'⟩⟩⟩
 |true=>
  have hn:PE X (.BoolOp .Or (b::rest) pos) (fun _ _ _=>False):=fun _ _ _ _ _ _ z=>z.elim
  exact PE.weak (tM ha hn) fun σ H Q ⟨S,ve,k⟩=>⟨S,ve,fun v H' e r=>⟨true,r.blV,by refine ej ?_;exact k _ H' e (.bl _)⟩⟩
theorem yn {p:Bool} (ha:DE X ρ a (.bl p)):DE X ρ (.UnaryOp .Not a pos) (.bl (!p)):=PE.weak (xj ha) fun σ H Q ⟨S,ve,k⟩=>⟨S,ve,fun v H' e r=>⟨p,r.blV,k _ H' e (.bl _)⟩⟩
theorem wC {p:Bool} (ha:DT X ρ a p):DT X ρ (.UnaryOp .Not a pos) (!p):=PT.weak (xA ha) fun σ H Q ⟨S,ve,k⟩=>⟨S,ve,fun H' e=>k H' e⟩
theorem DW.dt {p:Bool} (h:DW X ρ e p):DT X ρ e p:=PW.pt h
theorem uw {p:Bool} (ha:DT X ρ a p):DW X ρ (.BoolOp .And [a] pos) p:=vo ha
theorem wI {p:Bool} (ha:DT X ρ a p):DW X ρ (.BoolOp .Or [a] pos) p:=x_ ha
theorem pQ {p q:Bool} {rest:List Expr} (ha:DT X ρ a p) (hb:p=true->DW X ρ (.BoolOp .And (b::rest) pos) q):DW X ρ (.BoolOp .And (a::b::rest) pos) (p&&q):=by
 cases p with
 |true=>exact PW.weak (qw ha (hb rfl)) fun σ H Q ⟨S,ve,k⟩=>⟨S,ve,fun H' e=>by refine ej ?_;exact ⟨S,ve.ext e,fun H'' e'=>k H'' (e.trans e')⟩⟩
 |false=>
  have hn:PW X (.BoolOp .And (b::rest) pos) (fun _ _ _=>False):=fun _ _ _ _ _ _ _ z=>z.elim
  exact PW.weak (qw ha hn) fun σ H Q ⟨S,ve,k⟩=>⟨S,ve,fun H' e=>by refine eQ ?_;exact k H' e⟩
theorem tR {p q:Bool} {rest:List Expr} (ha:DT X ρ a p) (hb:p=false->DW X ρ (.BoolOp .Or (b::rest) pos) q):DW X ρ (.BoolOp .Or (a::b::rest) pos) (p||q):=by
 cases p with
 |false=>exact PW.weak (sX ha (hb rfl)) fun σ H Q ⟨S,ve,k⟩=>⟨S,ve,fun H' e=>by refine eQ ?_;exact ⟨S,ve.ext e,fun H'' e'=>k H'' (e.trans e')⟩⟩
 |true=>
  have hn:PW X (.BoolOp .Or (b::rest) pos) (fun _ _ _=>False):=fun _ _ _ _ _ _ _ z=>z.elim
  exact PW.weak (sX ha hn) fun σ H Q ⟨S,ve,k⟩=>⟨S,ve,fun H' e=>by refine ej ?_;exact k H' e⟩
theorem tH {p:Bool} (hc:DT X ρ c p) (ha:p=true->DE X ρ a d) (hb:p=false->DE X ρ b d):DE X ρ (.IfExp c a b pos) d:=by
 have hn:∀e:Expr,PE X e (fun _ _ _=>False):=fun _ _ _ _ _ _ _ z=>z.elim
 cases p with
 |true=>exact PE.weak (lH hc (ha rfl) (hn b)) fun σ H Q ⟨S,ve,k⟩=>⟨S,ve,fun H' e=>by refine ej ?_;exact ⟨S,ve.ext e,fun v' H'' e' r'=>k v' H'' (e.trans e') r'⟩⟩
 |false=>exact PE.weak (lH hc (hn a) (hb rfl)) fun σ H Q ⟨S,ve,k⟩=>⟨S,ve,fun H' e=>by refine eQ ?_;exact ⟨S,ve.ext e,fun v' H'' e' r'=>k v' H'' (e.trans e') r'⟩⟩
variable {es:List Expr} {ds:List D}
theorem kT:DA X ρ [] []:=PA.weak qB fun σ H Q ⟨S,ve,k⟩=>k [] H Ext.refl .nil
theorem fk (ha:DE X ρ e d) (hr:DA X ρ es ds) (hs:starEach (e::es) X.env=(false,eval e X.env)::starEach es X.env:=by rfl):DA X ρ (e::es) (d::ds):=
 PA.weak (mG ha hr hs) fun σ H Q ⟨S,ve,k⟩=>⟨S,ve,fun v H' e r=>⟨S,ve.ext e,fun vs H'' e' rs=>k (v::vs) H'' (e.trans e') (.cons (r.ext (e'.to S)) rs)⟩⟩
theorem pN {j} (h:DA X ρ es ds) (hl:ds.length<=sizeLine):DE X ρ (.Tuple es j pos) (.tup ds):=
 PE.weak (w9 h) fun σ H Q ⟨S,ve,k⟩=>⟨S,ve,fun vs H' e rs=>⟨by rw [←rs.length];exact hl,fun p hp=>k _ _ (e.trans (Ext.new hp)) (Rds.dF (ve.ext e).dom hp rs)⟩⟩
theorem qf (h:DA X ρ es ds) (hl:ds.length<=sizeLine):DE X ρ (.List es pos) (.lst ds):=
 PE.weak (pw h) fun σ H Q ⟨S,ve,k⟩=>⟨S,ve,fun vs H' e rs=>⟨by rw [←rs.length];exact hl,fun p hp=>k _ _ (e.trans (Ext.new hp)) (Rds.iX (ve.ext e).dom hp rs)⟩⟩
noncomputable def CD (K:PySem.W.Frag) (r:List V->Hp->VK->Prop) (ds:List D) (d:D):Prop:=∀(xs:List V) (H:Hp) (S:Ad) (Q:VK),ae K H S ds xs->Dom H S->(∀v H',aF H H'->Rds K H' S d v->Q v H')->r xs H Q
theorem qF {r:List V->Hp->VK->Prop} (h:CD X.K r ds d) (σ:St) (H:Hp) (Q:VK) (q:tD X.K ρ d σ H Q):tCB r (tDA X.K ρ ds) σ H Q:=by
 obtain ⟨S,ve,k⟩:=q
 exact ⟨S,ve,fun vs H1 e1 rs=>h vs H1 S Q rs (ve.ext e1).dom fun v H' e3 r3=>k v H' (e1.trans e3) r3⟩
end
end CT
namespace CT
open PySem PySem.Spec L2
open PyProof.Rows hiding St
noncomputable def ItD (K:PySem.W.Frag) (S:Ad) (J:It) (its:List D) (H:Hp):Prop:=
 ∀(H':Hp) (S':Ad),Ext S H H'->(∀a,S' a->S a∨H a=none)->Dom H' S'->∀i:Nat,(∀d,its[i]?=some d->J.go i H'∧∀x H'',J.yld i H' x H''->aF H' H''∧Rds K H'' S' d x)∧(its.length<=i->J.stop i H')
noncomputable def tDI (K:PySem.W.Frag) (ρ:Rho) (its:List D):TI:=fun σ H R=>∃S,VE K H S ρ σ∧∀J H',aF H H'->ItD K S J its H'->R J H'
noncomputable def DI (X:Cx) (tg:Expr) (ρ:Rho) (iter:Expr) (its:List D):Prop:=PI X tg iter (tDI X.K ρ its)
noncomputable def xt (K:PySem.W.Frag) (S:Ad) (J:It) (its:List D) (H:Hp):Prop:=
 ∀H',aF H H'->Dom H' S->∀i:Nat,(∀d,its[i]?=some d->J.go i H'∧∀x H'',J.yld i H' x H''->aF H' H''∧Rds K H'' S d x)∧(its.length<=i->J.stop i H')
noncomputable def yY (K:PySem.W.Frag) (ρ:Rho) (its:List D):TI:=fun σ H R=>∃S,VE K H S ρ σ∧∀J H',aF H H'->xt K S J its H'->R J H'
noncomputable def DI0 (X:Cx) (tg:Expr) (ρ:Rho) (iter:Expr) (its:List D):Prop:=PI X tg iter (yY X.K ρ its)
section
variable {X:Cx} {tg e:Expr} {ρ:Rho} {pos:Pos}
theorem PI.weak {wi wi':TI} (h:PI X tg e wi) (w:∀σ H R,wi' σ H R->wi σ H R):PI X tg e wi':=fun pins s σ H R I q=>h pins s σ H R I (w σ H R q)
theorem DI.dI0 {its:List D} (h:DI X tg ρ e its):DI0 X tg ρ e its:=PI.weak h fun σ H R ⟨S,ve,k⟩=>⟨S,ve,fun J H' ex hJ=>k J H' ex fun H'' ex' dm i=>hJ H'' S (ex'.to S) (fun a h=>.inl h) dm i⟩
theorem ae.later {K:PySem.W.Frag} {S S':Ad} {H H':Hp} {xs:List D} {vs:List V} (r:ae K H S xs vs) (e:Ext S H H') (h:∀a,S' a->S a∨H a=none):ae K H' S' xs vs:=
 ((r.av (S':=fun a=>S a∨S' a) fun a z=>z.elim .inl (h a)).ext fun a o n q=>e a o (fun z=>n (.inl z)) q).av fun a z=>.inl (.inr z)
theorem Rds.ka {K:PySem.W.Frag} {S:Ad} {H:Hp} {xs:List D} {v:V} (r:Rds K H S (.lst xs) v):∃a vs,v=.ref a∧∀(H':Hp) (S':Ad),Ext S H H'->(∀a,S' a->S a∨H a=none)->SqL K H' a vs∧ae K H' S' xs vs:=by
 cases r with
 |lst h n r=>exact ⟨_,_,rfl,fun H' S' e z=>⟨.inl (CT.Rd.ext e n h),r.later e z⟩⟩
 |lstK h r=>exact ⟨_,_,rfl,fun H' S' e z=>⟨.inr h,r.later e z⟩⟩
theorem Rds.kf {K:PySem.W.Frag} {S:Ad} {H:Hp} {xs:List D} {v:V} (r:Rds K H S (.tup xs) v):∃a vs,v=.ref a∧∀(H':Hp) (S':Ad),Ext S H H'->(∀a,S' a->S a∨H a=none)->SqT K H' a vs∧ae K H' S' xs vs:=by
 cases r with
 |tup h n r=>exact ⟨_,_,rfl,fun H' S' e z=>⟨.inl (.inl (e _ _ n h)),r.later e z⟩⟩
theorem vL {K:PySem.W.Frag} {S:Ad} {H:Hp} {xs:List D} {a:Addr} {vs:List V} (h:∀(H':Hp) (S':Ad),Ext S H H'->(∀a,S' a->S a∨H a=none)->SqL K H' a vs∧ae K H' S' xs vs):ItD K S (Itl K a) xs H:=by
 intro H' S' e z dm i
 obtain ⟨sq,rl⟩:=h H' S' e z
 refine ⟨fun d hd=>?_,fun hi=>⟨vs,sq,by rw [←rl.length];exact hi⟩⟩
 obtain ⟨v,hv,r⟩:=rl.get hd
 refine ⟨⟨vs,v,sq,hv⟩,fun x H'' y=>?_⟩
 obtain ⟨e2,y⟩:=y
 subst e2
 have hx:=y vs sq
 rw [hv] at hx;cases hx
 exact ⟨Ext.refl,r⟩
theorem vF {K:PySem.W.Frag} {S:Ad} {H:Hp} {xs:List D} {a:Addr} {vs:List V} (h:∀(H':Hp) (S':Ad),Ext S H H'->(∀a,S' a->S a∨H a=none)->SqT K H' a vs∧ae K H' S' xs vs):ItD K S (Itt K a) xs H:=by
 intro H' S' e z dm i
 obtain ⟨sq,rl⟩:=h H' S' e z
 refine ⟨fun d hd=>?_,fun hi=>⟨vs,sq,by rw [←rl.length];exact hi⟩⟩
 obtain ⟨v,hv,r⟩:=rl.get hd
 refine ⟨⟨vs,v,sq,hv⟩,fun x H'' y=>?_⟩
 obtain ⟨e2,y⟩:=y
 subst e2
 have hx:=y vs sq
 rw [hv] at hx;cases hx
 exact ⟨Ext.refl,r⟩
theorem o5 {xs:List D} (h:DE X ρ e (.lst xs)):DI X tg ρ e xs:=PI.weak (um h) fun σ H R ⟨S,ve,k⟩=>⟨S,ve,fun v H' ex r=>by
 obtain ⟨a,vs,rfl,l⟩:=r.ka
 exact ⟨a,rfl,⟨vs,(l H' S Ext.refl fun a h=>.inl h).1⟩,k _ H' ex (vL l)⟩⟩
theorem pD {xs:List D} (h:DE X ρ e (.tup xs)):DI X tg ρ e xs:=PI.weak (yA h) fun σ H R ⟨S,ve,k⟩=>⟨S,ve,fun v H' ex r=>by
 obtain ⟨a,vs,rfl,l⟩:=r.kf
 exact ⟨a,rfl,⟨vs,(l H' S Ext.refl fun a h=>.inl h).1⟩,k _ H' ex (vF l)⟩⟩
noncomputable def iq (n:Nat):List D:=(List.range n).map fun k:Nat=>D.int (k:Int)
theorem vQ {K:PySem.W.Frag} {S:Ad} {H:Hp} {n:Nat}:ItD K S (Itr 0 n) (iq n) H:=by
 intro H' S' e z dm i
 refine ⟨fun d hd=>?_,fun hi=>show n<=i by simpa [iq] using hi⟩
 have hi:i<n:=by
  have:=(List.getElem?_eq_some_iff.mp hd).1
  simpa [iq] using this
 refine ⟨hi,fun x H'' y=>?_⟩
 obtain ⟨e2,e3⟩:=y
 subst e2 e3
 have hd':d=.int (i:Int):=by
  rw [iq,List.getElem?_map,List.getElem?_range hi] at hd
  exact (Option.some.inj hd).symm
 subst hd'
 rw [Int.zero_add]
 exact ⟨Ext.refl,.int _⟩
theorem rA {a:Expr} {j:Int} {p:Pos} (hg:Gl X "range") (hm:X.mg "range"=none) (ha:DA X ρ [a] [.int j]) (h1: -(2^62)<=j) (h2:j<2^62) (hs:starEach [a] X.env=[(false,eval a X.env)]:=by rfl):DI X tg ρ (.Call (.Name "range" p) [a] [] pos) (iq j.toNat):=
 PI.weak (o8 hg hm ha hs) fun σ H R ⟨S,ve,k⟩=>⟨S,ve,fun vs H' ex rs=>by
  obtain ⟨v,rfl,r⟩:=rs.one
  rw [r.aU]
  exact ⟨j,rfl,h1,h2,k _ H' ex vQ⟩⟩
inductive Sq:D->List D->Prop
 |lst (xs:List D):Sq (.lst xs) xs
 |tup (xs:List D):Sq (.tup xs) xs
theorem Sq.later {K:PySem.W.Frag} {S:Ad} {H:Hp} {d:D} {xs:List D} {v:V} (q:Sq d xs) (r:Rds K H S d v):∃b a vs,v=.ref a∧∀(H':Hp) (S':Ad),Ext S H H'->(∀a,S' a->S a∨H a=none)->SqB K H' b a vs∧ae K H' S' xs vs:=by
 cases q with
 |lst=>obtain ⟨a,vs,e,l⟩:=r.ka;exact ⟨false,a,vs,e,l⟩
 |tup=>obtain ⟨a,vs,e,l⟩:=r.kf;exact ⟨true,a,vs,e,l⟩
noncomputable def bo:List D->List D->List D
 |x::xs,y::ys=>.tup [x,y]::bo xs ys
 |_,_=>[]
theorem lq:∀{xs ys:List D} {i:Nat} {d:D},(bo xs ys)[i]?=some d->∃x y,xs[i]?=some x∧ys[i]?=some y∧d=.tup [x,y]
 |x::xs,y::ys,0,d,h=>by
  simp [bo] at h
  exact ⟨x,y,rfl,rfl,h.symm⟩
 |x::xs,y::ys,i+1,d,h=>by
  simp [bo] at h
  obtain ⟨x',y',h1,h2,h3⟩:=lq h
  exact ⟨x',y',by simpa using h1,by simpa using h2,h3⟩
 |[],_,_,_,h=>by simp [bo] at h
 |_::_,[],_,_,h=>by simp [bo] at h
theorem la:∀{xs ys:List D},(bo xs ys).length=min xs.length ys.length
 |x::xs,y::ys=>by simp [bo,la]
 |[],_=>by simp [bo]
 |_::_,[]=>by simp [bo]
theorem ui {a b:Expr} {da db:D} {xs ys:List D} {elts:List Expr} {k} {tpos p:Pos} (hg:Gl X "zip") (hm:X.mg "zip"=none) (qa:Sq da xs) (qb:Sq db ys) (ha:DA X ρ [a,b] [da,db])
  (hs:starEach [a,b] X.env=[(false,eval a X.env),(false,eval b X.env)]:=by rfl) (hs2:starEach [b] X.env=[(false,eval b X.env)]:=by rfl):DI X (.Tuple elts k tpos) ρ (.Call (.Name "zip" p) [a,b] [] pos) (bo xs ys):=
 PI.weak (uT hg hm ha hs hs2) fun σ H R ⟨S,ve,kk⟩=>⟨S,ve,fun vs H' ex rs=>by
  obtain ⟨v,u,rfl,r1,r2⟩:=rs.two
  obtain ⟨b1,a1,vs1,rfl,l1⟩:=qa.later r1
  obtain ⟨b2,a2,vs2,rfl,l2⟩:=qb.later r2
  refine ⟨b1,b2,a1,a2,vs1,vs2,rfl,(l1 H' S Ext.refl fun a h=>.inl h).1,(l2 H' S Ext.refl fun a h=>.inl h).1,kk _ H' ex fun H2 S2 e2 z2 dm i=>?_⟩
  obtain ⟨s1,t1⟩:=l1 H2 S2 e2 z2
  obtain ⟨s2,t2⟩:=l2 H2 S2 e2 z2
  refine ⟨fun d hd=>?_,fun hi=>⟨vs1,vs2,s1,s2,?_⟩⟩
  ·obtain ⟨x,y,hx,hy,rfl⟩:=lq hd
   obtain ⟨x',hx',rx⟩:=t1.get hx
   obtain ⟨y',hy',ry⟩:=t2.get hy
   refine ⟨⟨vs1,vs2,x',y',s1,s2,hx',hy'⟩,fun z H3 yl=>?_⟩
   obtain ⟨T,x2,y2,hT,rfl,rfl,g1,g2⟩:=yl
   have e1:=g1 vs1 s1
   have e2':=g2 vs2 s2
   rw [hx'] at e1;cases e1
   rw [hy'] at e2';cases e2'
   exact ⟨Ext.new hT,Rds.dF dm hT (.cons rx (.cons ry .nil))⟩
  ·have h1:=t1.length
   have h2:=t2.length
   rw [la] at hi
   omega⟩
end
noncomputable def Chg (ks:List Nat) (σ σ':St):Prop:=σ'.length=σ.length∧∀i:Nat,i∉ks->σ'[i]?=σ[i]?
theorem Chg.fgt {ks:List Nat} {σ σ':St} (c:Chg ks σ σ') (h:∀k∈ks,σ[k]?=some none):Fgt σ σ':=⟨c.1.symm,fun i v e=>by
 by_cases hi:i∈ks
 ·rw [h i hi] at e;cases e
 ·rw [c.2 i hi];exact e⟩
theorem Chg.trans {ks ls:List Nat} {σ σ' σ'':St} (a:Chg ks σ σ') (b:Chg ls σ' σ''):Chg (ks++ls) σ σ'':=⟨b.1.trans a.1,fun i hi=>by
 rw [List.mem_append,not_or] at hi
 exact (b.2 i hi.2).trans (a.2 i hi.1)⟩
noncomputable def tDG (K:PySem.W.Frag) (ρ:Rho) (d:D) (ρ':Rho) (ks:List Nat):TG:=fun v σ H Q=>∃S,VE K H S ρ σ∧Rds K H S d v∧∀σ',VE K H S ρ' σ'->Chg ks σ σ'->Q σ' H
noncomputable def AD (K:PySem.W.Frag) (ρ:Rho) (ds:List D) (ρ':Rho) (ks:List Nat):TGs:=fun vs σ H Q=>∃S,VE K H S ρ σ∧ae K H S ds vs∧∀σ',VE K H S ρ' σ'->Chg ks σ σ'->Q σ' H
noncomputable def DG (X:Cx) (tg:Expr) (ρ:Rho) (d:D) (ρ':Rho) (ks:List Nat):Prop:=PG X tg (tDG X.K ρ d ρ' ks)
noncomputable def DGs (X:Cx) (tgs:List Expr) (ρ:Rho) (ds:List D) (ρ':Rho) (ks:List Nat):Prop:=PGs X tgs (AD X.K ρ ds ρ' ks)
section
variable {X:Cx} {ρ ρ' ρ'':Rho} {d:D} {ds:List D} {ks ls:List Nat} {pos:Pos} {tg:Expr} {tgs:List Expr}
theorem PG.weak {g g':TG} (h:PG X tg g) (w:∀v σ H Q,g' v σ H Q->g v σ H Q):PG X tg g':=fun pins s σ H v u Q I r q=>h pins s σ H v u Q I r (w v σ H Q q)
theorem PGs.weak {g g':TGs} (h:PGs X tgs g) (w:∀v σ H Q,g' v σ H Q->g v σ H Q):PGs X tgs g':=fun pins s σ H v u Q I r q=>h pins s σ H v u Q I r (w v σ H Q q)
theorem uf {k:Nat} {x:Str} (hN:X.N.Nodup) (hi:X.N[k]?=some x) (hx:Loc X.env.scope x) (hf:X.fn x=true∨X.env.scope.names.lookup x=some .local:=by first|exact .inl rfl|exact .inr rfl|assumption):DG X (.Name x pos) ρ d (ρ.set k (.val d)) [k]:=
 PG.weak (vX hN hi hx hf) fun v σ H Q ⟨S,ve,r,q⟩=>q _ (ve.set r) ⟨by simp,fun i hi=>by
  rw [List.getElem?_set_ne]
  intro z;exact hi (by simp [z])⟩
theorem uR:DGs X [] ρ [] ρ []:=PGs.weak u6 fun vs σ H Q ⟨S,ve,r,q⟩=>⟨by cases r;rfl,q σ ve ⟨rfl,fun _ _=>rfl⟩⟩
theorem sI (h1:DG X tg ρ d ρ' ks) (h2:DGs X tgs ρ' ds ρ'' ls) (hs:(assignEach (tg::tgs) X.env).map (·.2)=assign tg X.env::(assignEach tgs X.env).map (·.2):=by rfl):DGs X (tg::tgs) ρ (d::ds) ρ'' (ks++ls):=
 PGs.weak (rh h1 h2 hs) fun vs σ H Q ⟨S,ve,r,q⟩=>by
  cases r with
  |cons r1 r2=>exact ⟨_,_,rfl,S,ve,r1,fun σ' ve' c=>⟨S,ve',r2,fun σ'' ve'' c'=>q σ'' ve'' (c.trans c')⟩⟩
theorem wJ {k} {n:Nat} (hc:X.calm=true) (h:DGs X tgs ρ ds ρ' ks) (hl:ds.length=n) (hn:(assignEach tgs X.env).length=n:=by rfl) (hst:(assignEach tgs X.env).findIdx? (·.1)=none:=by rfl):DG X (.Tuple tgs k pos) ρ (.tup ds) ρ' ks:=
 PG.weak (yq hc h hn hst) fun v σ H Q ⟨S,ve,r,q⟩=>by
  obtain ⟨a,vs,rfl,ha,rl⟩:=r.dQ
  exact ⟨a,vs,rfl,.inl (.inl ha),by rw [←rl.length];exact hl,S,ve,rl,q⟩
end
noncomputable def tDB (K:PySem.W.Frag) (ρ:Rho) (out:List D):TB:=fun σ H ys Q=>∃S,VE K H S ρ σ∧ys.length+out.length<=sizeLine∧∀vs H',aF H H'->ae K H' S out vs->Q (ys++vs) H'
noncomputable def DB (Y:Cx) (acc:Addr) (m:Sem Unit) (ρ:Rho) (out:List D):Prop:=PB Y acc m (tDB Y.K ρ out)
noncomputable def DTs (Y:Cx) (ρ:Rho) (ifs:List Expr) (b:Bool):Prop:=PTs Y ifs (tDT Y.K ρ b)
theorem PB.weak {Y:Cx} {acc:Addr} {m:Sem Unit} {t t':TB} (h:PB Y acc m t) (w:∀σ H ys Q,t' σ H ys Q->t σ H ys Q):PB Y acc m t':=fun pins s σ H ys Q I f a q=>h pins s σ H ys Q I f a (w σ H ys Q q)
theorem PTs.weak {Y:Cx} {ifs:List Expr} {t t':TT} (h:PTs Y ifs t) (w:∀σ H Q,t' σ H Q->t σ H Q):PTs Y ifs t':=fun pins s σ H Q I q=>h pins s σ H Q I (w σ H Q q)
section
variable {Y:Cx} {acc:Addr} {ρ:Rho} {d:D}
theorem ud:DTs Y ρ [] true:=PTs.weak uE fun σ H Q ⟨S,ve,k⟩=>k H Ext.refl
theorem vt {c:Expr} {b:Bool} (h:DT Y ρ c b):DTs Y ρ [c] b:=vv h
theorem ue {elt:Expr} (he:DE Y ρ elt d):DB Y acc (do let _←call (.builtin "list.append") [.ref acc,←eval elt Y.env]) ρ [d]:=
 PB.weak (vq he) fun σ H ys Q ⟨S,ve,hl,k⟩=>⟨Nat.le_trans (Nat.le_add_right _ _) hl,S,ve,fun v H' e r=>k [v] H' e (.cons r .nil)⟩
noncomputable def m5 (G:Rho->D->Rho->List Nat->Prop) (T:Rho->Bool->Prop) (B:Rho->List D->Prop) (ρ:Rho) (ks:List Nat) (d:D) (out:List D):Prop:=
 ∃ρ' b,G ρ d ρ' ks∧T ρ' b∧(b=true->B ρ' out)∧(b=false->out=[])
noncomputable def gA (K:PySem.W.Frag) (G:Rho->D->Rho->List Nat->Prop):TG:=fun v σ H Q=>∃ρ d ρ' ks,G ρ d ρ' ks∧tDG K ρ d ρ' ks v σ H Q
noncomputable def ttA (K:PySem.W.Frag) (T:Rho->Bool->Prop):TT:=fun σ H Q=>∃ρ b,T ρ b∧tDT K ρ b σ H Q
noncomputable def tbA (K:PySem.W.Frag) (B:Rho->List D->Prop):TB:=fun σ H ys Q=>∃ρ out,B ρ out∧tDB K ρ out σ H ys Q
theorem og {tg:Expr} {G:Rho->D->Rho->List Nat->Prop} (h:∀ρ d ρ' ks,G ρ d ρ' ks->DG Y tg ρ d ρ' ks):PG Y tg (gA Y.K G):=fun pins s σ H v u Q I r ⟨_,_,_,_,g,q⟩=>h _ _ _ _ g pins s σ H v u Q I r q
theorem tF {ifs:List Expr} {T:Rho->Bool->Prop} (h:∀ρ b,T ρ b->DTs Y ρ ifs b):PTs Y ifs (ttA Y.K T):=fun pins s σ H Q I ⟨_,_,g,q⟩=>h _ _ g pins s σ H Q I q
theorem yC {m:Sem Unit} {B:Rho->List D->Prop} (h:∀ρ out,B ρ out->DB Y acc m ρ out):PB Y acc m (tbA Y.K B):=fun pins s σ H ys Q I f a ⟨_,_,g,q⟩=>h _ _ g pins s σ H ys Q I f a q
theorem lV {outs:List (List D)} {i:Nat} (h:i<outs.length):(outs.take (i+1)).flatten=(outs.take i).flatten++outs[i]:=by
 rw [List.take_succ_eq_append_getElem h,List.flatten_append]
 simp
theorem pT {K:PySem.W.Frag} {G:Rho->D->Rho->List Nat->Prop} {T:Rho->Bool->Prop} {B:Rho->List D->Prop} {ks:List Nat} {J:It} {its:List D} {outs:List (List D)} (hks:∀k∈ks,ρ[k]?=some .nil) (hl:its.length=outs.length)
  (ht:∀(i:Nat) d out,its[i]?=some d->outs[i]?=some out->m5 G T B ρ ks d out) {σ:St} {H:Hp} {S:Ad} {ys:List V} {Q:List V->Hp->Prop} (ve:VE K H S ρ σ) (hJ:xt K S J its H) (hz:ys.length+outs.flatten.length<=sizeLine)
  (q:∀vs H',aF H H'->ae K H' S outs.flatten vs->Q (ys++vs) H'):i5 (gA K G) (ttA K T) (tbA K B) J σ H ys Q:=by
 refine ⟨fun i n ys' H'=>n=its.length - i∧i<=its.length∧aF H H'∧∃vs,ys'=ys++vs∧ae K H' S (outs.take i).flatten vs,⟨its.length,by simp,Nat.zero_le _,Ext.refl,[],by simp,by simpa using ae.nil⟩,?_⟩
 rintro i n ys' H' ⟨rfl,hi,ex,vs,rfl,rv⟩
 have dm:=(ve.ext ex).dom
 obtain ⟨J1,J2⟩:=hJ H' ex dm i
 by_cases hlt:i<its.length
 ·have hlo:i<outs.length:=hl▸hlt
  have hd:its[i]?=some its[i]:=by simp [hlt]
  have ho:outs[i]?=some outs[i]:=by simp [hlo]
  obtain ⟨go,yld⟩:=J1 _ hd
  obtain ⟨ρ',b,hg,hts,hb1,hb2⟩:=ht i _ _ hd ho
  have step:=lV hlo
  have lenO:(outs.take i).flatten.length+outs[i].length<=outs.flatten.length:=by
   have e:outs.flatten=(outs.take (i+1)).flatten++(outs.drop (i+1)).flatten:=by rw [←List.flatten_append,List.take_append_drop]
   rw [e,step,List.length_append,List.length_append]
   omega
  refine .inr ⟨go,fun x H1 y=>?_⟩
  obtain ⟨e1,r1⟩:=yld x H1 y
  have ve1:=(ve.ext ex).ext e1
  refine ⟨ρ,its[i],ρ',ks,hg,S,ve1,r1,fun σ2 ve2 c=>⟨c.fgt fun k hk=>ve.unset (hks k hk),ρ',b,hts,S,ve2,fun H2 e2=>?_⟩⟩
  cases b with
  |true=>
   refine ej ⟨ρ',_,hb1 rfl,S,ve2.ext e2,?_,fun us H3 e3 ru=>⟨its.length - (i+1),by omega,rfl,hlt,ex.trans (e1.trans (e2.trans e3)),vs++us,by rw [List.append_assoc],?_⟩⟩
   ·rw [List.length_append,←rv.length]
    omega
   ·rw [step]
    exact ae.app (rv.ext ((e1.trans (e2.trans e3)).to S)) ru
  |false=>
   refine eQ ⟨its.length - (i+1),by omega,rfl,hlt,ex.trans (e1.trans e2),vs,rfl,?_⟩
   rw [step,hb2 rfl,List.append_nil]
   exact rv.ext ((e1.trans e2).to S)
 ·have e:i=its.length:=by omega
  subst e
  refine .inl ⟨J2 (Nat.le_refl _),q vs H' ex ?_⟩
  rw [hl,List.take_length] at rv
  exact rv
theorem vi {elt:Expr} {gens:List Comprehension} {scope:Scope} {pos:Pos} {n:Nat} {tg iter:Expr} {ifs:List Expr} {ks:List Nat} {its:List D} {outs:List (List D)} (hg:gens[n+1]?=some ⟨tg,iter,ifs,0⟩) (hc:Y.calm=true) (hx:∀e s,Y.xe e s->False)
  (hi:DI0 Y tg ρ iter its) (hks:∀k∈ks,ρ[k]?=some .nil) (hl:its.length=outs.length)
  (ht:∀(i:Nat) d out,its[i]?=some d->outs[i]?=some out->m5 (DG Y tg) (fun ρ b=>DTs Y ρ ifs b) (DB Y acc (aS elt gens scope pos (n+1) (.ref acc) Y.env)) ρ ks d out)
  (hs:∀x,foldedSetIterable iter Y.env x=pure x:=by intro _;rfl):DB Y acc (aS elt gens scope pos n (.ref acc) Y.env) ρ outs.flatten:=
 PB.weak (vh hg hc hx hi (og fun _ _ _ _ h=>h) (tF fun _ _ h=>h) (yC fun _ _ h=>h) hs) fun σ H ys Q ⟨S,ve,hz,k⟩=>⟨S,ve,fun J H' e hJ=>pT hks hl ht (ve.ext e) hJ hz fun vs H'' e' r=>k vs H'' (e.trans e') r⟩
end
noncomputable def cz:Option Sl->Sl
 |some (.val d)=>.val d
 |some .nil=>.nil
 |_=>.any
noncomputable def cR (own:List Str) (cap:List (Str×Nat)) (ρ:Rho):Rho:=own.map (fun _=>.nil)++cap.map fun p=>cz ρ[p.2]?
theorem sh {o:Option Sl}:¬(cz o).du:=by
 unfold cz
 split<;>exact fun h=>h
theorem VE.cap {K:PySem.W.Frag} {H:Hp} {S:Ad} {ρ:Rho} {σ:St} {own:List Str} {cap:List (Str×Nat)} (ve:VE K H S ρ σ):VE K H S (cR own cap ρ) (cS own cap σ):=by
 have nown:∀(i:Nat) (x:Sl),(cR own cap ρ)[i]?=some x->¬x.du:=fun i x h o=>by
  have hm:=List.mem_of_getElem? h
  unfold cR at hm
  rcases List.mem_append.mp hm with hm|hm
  ·obtain ⟨y,_,e⟩:=List.mem_map.mp hm;rw [←e] at o;exact o
  ·obtain ⟨p,_,e⟩:=List.mem_map.mp hm;rw [←e] at o;exact sh o
 refine ⟨by simp [cR,cS],fun i x h=>?_,fun i j x y a _ h _ o=>absurd o (nown i x h),ve.dom⟩
 unfold cR at h
 unfold cS
 by_cases hi:i<own.length
 ·rw [List.getElem?_append_left (by simpa using hi),List.getElem?_map] at h
  rw [List.getElem?_append_left (by simpa using hi),List.getElem?_map]
  cases hq:own[i]? with
  |none=>rw [hq] at h;cases h
  |some y=>rw [hq] at h;cases h;exact ⟨none,rfl,rfl⟩
 ·have hi':own.length<=i:=Nat.le_of_not_lt hi
  rw [List.getElem?_append_right (by simpa using hi'),List.getElem?_map,List.length_map] at h
  rw [List.getElem?_append_right (by simpa using hi'),List.getElem?_map,List.length_map]
  cases hq:cap[i - own.length]? with
  |none=>rw [hq] at h;cases h
  |some p=>
   rw [hq] at h
   have e:cz ρ[p.2]?=x:=Option.some.inj h
   refine ⟨_,rfl,?_⟩
   subst e
   cases hr:ρ[p.2]? with
   |none=>trivial
   |some y=>
    cases y with
    |nil=>show (σ[p.2]?).join=none;rw [ve.unset hr];rfl
    |any=>trivial
    |owx xs=>trivial
    |new C x dx fs=>trivial
    |val d=>
     obtain ⟨u,hu,r⟩:=ve.get hr
     exact ⟨u,by show (σ[p.2]?).join=some u;rw [hu];rfl,r⟩
section
variable {X:Cx} {scope:Scope} {own:List Str} {cap:List (Str×Nat)} {ρ:Rho} {elt tg iter:Expr} {ifs:List Expr} {rest:List Comprehension} {pos:Pos} {ks:List Nat} {its:List D} {outs:List (List D)}
structure DC (X:Cx) (ρ:Rho) (e:Expr) (ds:List D):Prop where
 pe:PE X e (fun σ H Q=>∃S,VE X.K H S ρ σ∧∀a vs H',aF H H'->H' a=none->ae X.K H' S ds vs->Q (.ref a) (upd H' a (.lst vs)))
 ps:∀(i:Nat) (x:Str) (pos' spos:Pos),X.N.Nodup->X.N[i]?=some x->Loc X.env.scope x->(X.fn x=true∨X.env.scope.names.lookup x=some .local)->swapsWith e (some (.Name x pos')) spos.line X.env=pure true->
  PS X (.Assign [.Name x pos'] e spos) (lh (fun σ H Q=>∃S,VE X.K H S ρ σ∧∀a vs H',aF H H'->H' a=none->ae X.K H' S ds vs->Q (.ref a) (upd H' a (.lst vs))) (fK i))
theorem uN (cs:CS X scope own cap) (hc:X.calm=true) (hi:DI0 X tg ρ iter its) (hks:∀k∈ks,(cR own cap ρ)[k]?=some .nil) (hl:its.length=outs.length) (hz:outs.flatten.length<=sizeLine)
  (ht:∀(i:Nat) d out,its[i]?=some d->outs[i]?=some out->m5 (fun ρ d ρ' ks=>∀p s h f,DG (cX X scope own cap p s h f) tg ρ d ρ' ks) (fun ρ b=>∀p s h f,DTs (cX X scope own cap p s h f) ρ ifs b)
   (fun ρ out=>∀p s h f acc,DB (cX X scope own cap p s h f) acc (aS elt (⟨tg,iter,ifs,0⟩::rest) scope pos 0 (.ref acc) (cM X scope s.heap.objs.size)) ρ out) (cR own cap ρ) ks d out)
  (hs:∀x,foldedSetIterable iter X.env x=pure x:=by intro _;rfl):DC X ρ (.ListComp elt (⟨tg,iter,ifs,0⟩::rest) scope pos) outs.flatten:=by
 have rd:∀(σ:St) (H:Hp) (Q:VK),(∃S,VE X.K H S ρ σ∧∀a vs H',aF H H'->H' a=none->ae X.K H' S outs.flatten vs->Q (.ref a) (upd H' a (.lst vs)))->
   nJ own cap (yY X.K ρ its) (gA X.K _) (ttA X.K _) (tbA X.K _) σ H Q:=fun σ H Q ⟨S,ve,k⟩=>⟨S,ve,fun J H1 e1 hJ=>pT hks hl ht (ve.ext e1).cap hJ (by simpa using hz) fun vs H2 e2 r=>⟨by rw [List.nil_append,←r.length];exact hz,fun a ha=>by
  rw [List.nil_append];exact k a vs H2 (e1.trans e2) ha r⟩⟩
 have g1:∀p s h f,PG (cX X scope own cap p s h f) tg (gA X.K (fun ρ d ρ' ks=>∀p s h f,DG (cX X scope own cap p s h f) tg ρ d ρ' ks)):=fun p s h f=>og (Y:=cX X scope own cap p s h f) fun _ _ _ _ g=>g p s h f
 have g2:∀p s h f,PTs (cX X scope own cap p s h f) ifs (ttA X.K (fun ρ b=>∀p s h f,DTs (cX X scope own cap p s h f) ρ ifs b)):=fun p s h f=>tF (Y:=cX X scope own cap p s h f) fun _ _ g=>g p s h f
 have g3:∀p s h f acc,PB (cX X scope own cap p s h f) acc (aS elt (⟨tg,iter,ifs,0⟩::rest) scope pos 0 (.ref acc) (cM X scope s.heap.objs.size)) (tbA X.K (fun ρ out=>∀p s h f acc,DB (cX X scope own cap p s h f) acc (aS elt (⟨tg,iter,ifs,0⟩::rest) scope pos 0 (.ref acc) (cM X scope s.heap.objs.size)) ρ out)):=
  fun p s h f acc=>yC (Y:=cX X scope own cap p s h f) fun _ _ g=>g p s h f acc
 refine ⟨PE.weak (vY cs hc hi g1 g2 g3 hs) rd,fun i x pos' spos hN hix hx hf hsw=>PS.weak (uq cs hc hN hix hx hi g1 g2 g3 hsw hs hf) fun D σ H q=>rd σ H _ q⟩
theorem DC.de {e:Expr} {ds:List D} (h:DC X ρ e ds):DE X ρ e (.lst ds):=PE.weak h.pe fun σ H Q ⟨S,ve,k⟩=>⟨S,ve,fun a vs H' e hp r=>k _ _ (e.trans (Ext.new hp)) (Rds.iX (ve.ext e).dom hp r)⟩
theorem xZ {α β:Type} {l:List α} {g:α->β} {i:Nat} {b:β} (h:(l.map g)[i]?=some b):∃a,l[i]?=some a∧g a=b:=by
 rw [List.getElem?_map] at h
 cases e:l[i]? with
 |none=>rw [e] at h;cases h
 |some a=>rw [e] at h;exact ⟨a,rfl,Option.some.inj h⟩
variable {α:Type} {l:List α} {f g:α->D} {x:Str} {k:Nat} {px:Pos}
end
end CT
namespace CT
open PySem PySem.Spec L2
open PyProof.Rows hiding St
inductive Out where
 |nx (ρ:Rho)|rt (d:D)|rfx (c:Ow)
noncomputable abbrev Ad.and (S:Ad) (a:Addr):Ad:=fun b=>S b∨b=a
structure Fm (K:PySem.W.Frag) (H₀:Hp) (S₀:Ad) (H:Hp) (S:Ad) (ρ:Rho) (σ:St):Prop where
 ve:VE K H S ρ σ
 ext:aF H₀ H
 sub:∀a,S₀ a->S a
 new:∀a,S a->S₀ a∨H₀ a=none
 dm:Dom H₀ S₀
 own:∀(i:Nat) (x:Sl) (a:Addr),ρ[i]?=some x->x.du->σ[i]?=some (some (.ref a))->H₀ a=none
noncomputable def lS (K:PySem.W.Frag) (H₀:Hp) (S₀:Ad) (E:Ends):Out->Prop
 |.nx ρ'=>∀σ' H' S',Fm K H₀ S₀ H' S' ρ' σ'->E.nx σ' H'
 |.rt d=>∀v H',aF H₀ H'->Rds K H' S₀ d v->E.rt v H'
 |.rfx c=>∀a o H',aF H₀ H'->H₀ a=none->H' a=some o->cC K H' (S₀.and a) a c o->E.rt (.ref a) H'
noncomputable def tDS (K:PySem.W.Frag) (ρ:Rho) (o:Out):TS:=fun E σ H=>∃H₀ S₀ S,Fm K H₀ S₀ H S ρ σ∧lS K H₀ S₀ E o
noncomputable def DS (X:Cx) (ρ:Rho) (st:Stmt) (o:Out):Prop:=PS X st (tDS X.K ρ o)
noncomputable def DSs (X:Cx) (ρ:Rho) (sts:List Stmt) (o:Out):Prop:=PSs X sts (tDS X.K ρ o)
noncomputable def tDF (K:PySem.W.Frag) (ρ:Rho) (xs:List D):TE:=fun σ H Q=>∃S,VE K H S ρ σ∧∀a vs H',aF H H'->H a=none->H' a=some (.lst vs)->ae K H' (S.and a) xs vs->Q (.ref a) H'
noncomputable def DF (X:Cx) (ρ:Rho) (e:Expr) (xs:List D):Prop:=PE X e (tDF X.K ρ xs)
noncomputable def ow (K:PySem.W.Frag) (ρ:Rho) (c:Ow):TE:=fun σ H Q=>∃S,VE K H S ρ σ∧∀a o H',aF H H'->H a=none->H' a=some o->cC K H' (S.and a) a c o->Q (.ref a) H'
noncomputable def DFx (X:Cx) (ρ:Rho) (e:Expr) (c:Ow):Prop:=PE X e (ow X.K ρ c)
section
variable {K:PySem.W.Frag} {H₀ H H':Hp} {S₀ S:Ad} {ρ:Rho} {σ:St}
theorem Ext.back {a:Addr} (e:aF H H') (h:H' a=none):H a=none:=by
 cases q:H a with
 |none=>rfl
 |some o=>rw [e a o (fun z=>z) q] at h;cases h
theorem Fm.grow (f:Fm K H₀ S₀ H S ρ σ) (e:aF H H'):Fm K H₀ S₀ H' S ρ σ:=⟨f.ve.ext e,f.ext.trans e,f.sub,f.new,f.dm,f.own⟩
theorem Fm.set {i:Nat} {d:D} {u:V} (f:Fm K H₀ S₀ H S ρ σ) (r:Rds K H S d u):Fm K H₀ S₀ H S (ρ.set i (.val d)) (σ.set i (some u)):=⟨f.ve.set r,f.ext,f.sub,f.new,f.dm,fun j x a h o h2=>by
 by_cases hj:i=j
 ·subst hj
  have hi:=(List.getElem?_eq_some_iff.mp h).1
  rw [List.getElem?_set_self (by simpa using hi)] at h;cases h;exact o.elim
 ·rw [List.getElem?_set_ne hj] at h h2
  exact f.own j x a h o h2⟩
theorem Fm.out (f:Fm K H₀ S₀ H S ρ σ) {d:D} {v:V} (r:Rds K H S d v):Rds K H S₀ d v:=r.av fun a h=>.inl (f.sub a h)
theorem RO.av {S':Ad} {x:Sl} {v:Option V} (e:∀a,S' a->S a∨H a=none) (up:∀a,v=some (.ref a)->S a->S' a) (r:RO K H S x v):RO K H S' x v:=by
 cases x with
 |nil=>exact r
 |any=>trivial
 |val d=>obtain ⟨u,h,r⟩:=r;exact ⟨u,h,r.av e⟩
 |owx c=>obtain ⟨a,vs,h,s,o,r⟩:=r;exact ⟨a,vs,h,up a h s,o,r.av e⟩
 |new C x dx fs=>obtain ⟨gs,h,s,o,r⟩:=r;exact ⟨gs,h,up _ h s,o,r.av e⟩
theorem Fm.qI {i:Nat} {c:Ow} {a:Addr} {ob:HO} (f:Fm K H₀ S₀ H S ρ σ) (e:aF H H') (hn:H a=none) (ha:H' a=some ob) (r:cC K H' (S.and a) a c ob):
  Fm K H₀ S₀ H' (S.and a) (ρ.set i (.owx c)) (σ.set i (some (.ref a))):=by
 have nS:∀b,S b->b≠a:=fun b h z=>f.ve.dom b h (by rw [z];exact hn)
 have up:∀(x:Sl) (v:Option V),RO K H S x v->RO K H' (S.and a) x v:=fun x v r=>(RO.av (S':=S.and a) (fun b h=>h.imp_right fun z=>by rw [z];exact hn) (fun b _ h=>.inl h) r).ext e
 refine ⟨⟨by simpa using f.ve.len,fun j x h=>?_,fun j k x y b hjk h1 h2 o1 o2 h3 h4=>?_,fun b h=>?_⟩,f.ext.trans e,fun b h=>.inl (f.sub b h),fun b h=>?_,f.dm,fun j x b h o h2=>?_⟩
 ·by_cases hj:i=j
  ·subst hj
   have hi:=(List.getElem?_eq_some_iff.mp h).1
   rw [List.getElem?_set_self (by simpa using hi)] at h
   cases h
   exact ⟨some (.ref a),List.getElem?_set_self (f.ve.len▸(by simpa using hi)),a,ob,rfl,.inr rfl,ha,r⟩
  ·rw [List.getElem?_set_ne hj] at h ⊢
   obtain ⟨v,h1,h2⟩:=f.ve.rel j x h
   exact ⟨v,h1,up x v h2⟩
 ·
  have own_ne:∀(m:Nat) (x:Sl) (c:Addr),ρ[m]?=some x->x.du->σ[m]?=some (some (.ref c))->S c:=fun m x c hm ho hs=>by
   obtain ⟨v,q1,q2⟩:=f.ve.rel m x hm
   rw [hs] at q1;cases q1
   cases x with
   |owx c=>obtain ⟨a',_,z,s,_⟩:=q2;cases z;exact s
   |new C x dx fs=>obtain ⟨_,z,s,_⟩:=q2;cases z;exact s
   |nil=>exact ho.elim
   |any=>exact ho.elim
   |val d=>exact ho.elim
  by_cases hj:i=j
  ·subst hj
   have hi:=(List.getElem?_eq_some_iff.mp h1).1
   rw [List.getElem?_set_self (by rw [←f.ve.len];simpa using hi)] at h3
   cases h3
   rw [List.getElem?_set_ne hjk] at h2 h4
   exact nS _ (own_ne k y _ h2 o2 h4) rfl
  ·by_cases hk:i=k
   ·subst hk
    have hi:=(List.getElem?_eq_some_iff.mp h2).1
    rw [List.getElem?_set_self (by rw [←f.ve.len];simpa using hi)] at h4
    cases h4
    rw [List.getElem?_set_ne hj] at h1 h3
    exact nS _ (own_ne j x _ h1 o1 h3) rfl
   ·rw [List.getElem?_set_ne hj] at h1 h3
    rw [List.getElem?_set_ne hk] at h2 h4
    exact f.ve.dist j k x y b hjk h1 h2 o1 o2 h3 h4
 ·rcases h with h|h
  ·exact (f.ve.dom.ext e) b h
  ·rw [h,ha];intro z;cases z
 ·rcases h with h|h
  ·exact f.new b h
  ·rw [h];exact .inr (f.ext.back hn)
 ·by_cases hj:i=j
  ·subst hj
   have hi:=(List.getElem?_eq_some_iff.mp h).1
   rw [List.getElem?_set_self (by rw [←f.ve.len];simpa using hi)] at h2
   cases h2
   exact f.ext.back hn
  ·rw [List.getElem?_set_ne hj] at h h2
   exact f.own j x b h o h2
theorem Fm.xm {i:Nat} {c c':Ow} {a:Addr} {ob:HO} (f:Fm K H₀ S₀ H S ρ σ) (hr:ρ[i]?=some (.owx c)) (hs:σ[i]?=some (some (.ref a))) (r:cC K H S a c' ob):Fm K H₀ S₀ (upd H a ob) S (ρ.set i (.owx c')) σ:=by
 have hi:=(List.getElem?_eq_some_iff.mp hr).1
 obtain ⟨v,q1,a',vs,z,sa,ha,_⟩:=f.ve.rel i _ hr
 rw [hs] at q1;cases q1;cases z
 have e:Ext S H (upd H a ob):=Ext.set sa
 refine ⟨⟨by simpa using f.ve.len,fun j x h=>?_,fun j k x y b hjk h1 h2 o1 o2 h3=>?_,fun b h z=>?_⟩,fun b o n h=>?_,f.sub,f.new,f.dm,fun j x b h o h2=>?_⟩
 ·by_cases hj:i=j
  ·subst hj
   rw [List.getElem?_set_self hi] at h
   cases h
   exact ⟨_,hs,a,ob,rfl,sa,au,r.ext e⟩
  ·rw [List.getElem?_set_ne hj] at h
   obtain ⟨v,h1,h2⟩:=f.ve.rel j x h
   refine ⟨v,h1,?_⟩
   cases x with
   |nil=>exact h2
   |any=>trivial
   |val d=>obtain ⟨u,p,r⟩:=h2;exact ⟨u,p,r.ext e⟩
   |owx c=>
    obtain ⟨b,ws,p,s,o,r⟩:=h2
    subst p
    have nb:b≠a:=fun z=>f.ve.dist i j _ _ a hj hr h trivial trivial hs (by rw [h1,z])
    exact ⟨b,ws,rfl,s,by rw [ag nb];exact o,r.ext e⟩
   |new C b dx fs=>
    obtain ⟨gs,p,s,o,r⟩:=h2
    subst p
    have nb:b≠a:=fun z=>f.ve.dist i j _ _ a hj hr h trivial trivial hs (by rw [h1,z])
    exact ⟨gs,rfl,s,by rw [ag nb];exact o,r.ext e⟩
 ·by_cases hj:i=j
  ·subst hj
   rw [List.getElem?_set_ne hjk] at h2
   exact f.ve.dist i k _ y b hjk hr h2 trivial o2 h3
  ·rw [List.getElem?_set_ne hj] at h1
   by_cases hk:i=k
   ·subst hk
    exact f.ve.dist j i x _ b hjk h1 hr o1 trivial h3
   ·rw [List.getElem?_set_ne hk] at h2
    exact f.ve.dist j k x y b hjk h1 h2 o1 o2 h3
 ·by_cases hb:b=a
  ·rw [hb,au] at z;cases z
  ·rw [ag hb] at z;exact f.ve.dom b h z
 ·have nb:b≠a:=fun z=>by
   have:=f.own i _ a hr trivial hs
   rw [←z,h] at this;cases this
  rw [ag nb];exact f.ext b o n h
 ·by_cases hj:i=j
  ·subst hj
   exact f.own i _ b hr trivial h2
  ·rw [List.getElem?_set_ne hj] at h
   exact f.own j x b h o h2
theorem Fm.v9 {i:Nat} {xs ys:List D} {a:Addr} {us:List V} (f:Fm K H₀ S₀ H S ρ σ) (hr:ρ[i]?=some (.own xs)) (hs:σ[i]?=some (some (.ref a))) (r:ae K H S ys us):Fm K H₀ S₀ (upd H a (.lst us)) S (ρ.set i (.own ys)) σ:=f.xm (c':=.l ys) hr hs ⟨us,rfl,r⟩
noncomputable def putD (f:Str) (d:D):List (Str×D)->List (Str×D)
 |[]=>[(f,d)]
 |(g,x)::r=>if g=f then (g,d)::r else (g,x)::putD f d r
theorem aG.put {f:Str} {d:D} {v:V} (q:Rds K H S d v):∀{ds:List (Str×D)} {vs:List (Str×V)},aG K H S ds vs->aG K H S (putD f d ds) (bR f v vs)
 |[],_,.nil=>.cons q .nil
 |(n,x)::r,_,.cons q' t=>by
  unfold putD bR
  split
  ·exact .cons q t
  ·exact .cons q' (aG.put q t)
theorem aG.len:∀{ds:List (Str×D)} {vs:List (Str×V)},aG K H S ds vs->ds.length=vs.length
 |[],_,.nil=>rfl
 |_::_,_,.cons _ t=>by rw [List.length_cons,List.length_cons,aG.len t]
theorem Fm.xr {i:Nat} {C a dx:Addr} {fs hs:List (Str×D)} {us:List (Str×V)} (f:Fm K H₀ S₀ H S ρ σ) (hr:ρ[i]?=some (.new C a dx fs)) (r:aG K H S hs us):Fm K H₀ S₀ (upd H a (.ins C dx us)) S (ρ.set i (.new C a dx hs)) σ:=by
 have hi:=(List.getElem?_eq_some_iff.mp hr).1
 obtain ⟨v,hs',gs,z,sa,ha,_⟩:=f.ve.rel i _ hr
 subst z
 have e:Ext S H (upd H a (.ins C dx us)):=Ext.set sa
 refine ⟨⟨by simpa using f.ve.len,fun j x h=>?_,fun j k x y b hjk h1 h2 o1 o2 h3=>?_,fun b h z=>?_⟩,fun b o n h=>?_,f.sub,f.new,f.dm,fun j x b h o h2=>?_⟩
 ·by_cases hj:i=j
  ·subst hj
   rw [List.getElem?_set_self hi] at h
   cases h
   exact ⟨_,hs',us,rfl,sa,au,r.ext e⟩
  ·rw [List.getElem?_set_ne hj] at h
   obtain ⟨v,h1,h2⟩:=f.ve.rel j x h
   refine ⟨v,h1,?_⟩
   cases x with
   |nil=>exact h2
   |any=>trivial
   |val d=>obtain ⟨u,p,r⟩:=h2;exact ⟨u,p,r.ext e⟩
   |owx c=>
    obtain ⟨b,ws,p,s,o,r⟩:=h2
    subst p
    have nb:b≠a:=fun z=>f.ve.dist i j _ _ a hj hr h trivial trivial hs' (by rw [h1,z])
    exact ⟨b,ws,rfl,s,by rw [ag nb];exact o,r.ext e⟩
   |new C b dx fs=>
    obtain ⟨gs,p,s,o,r⟩:=h2
    subst p
    have nb:b≠a:=fun z=>f.ve.dist i j _ _ a hj hr h trivial trivial hs' (by rw [h1,z])
    exact ⟨gs,rfl,s,by rw [ag nb];exact o,r.ext e⟩
 ·by_cases hj:i=j
  ·subst hj
   rw [List.getElem?_set_ne hjk] at h2
   exact f.ve.dist i k _ y b hjk hr h2 trivial o2 h3
  ·rw [List.getElem?_set_ne hj] at h1
   by_cases hk:i=k
   ·subst hk
    exact f.ve.dist j i x _ b hjk h1 hr o1 trivial h3
   ·rw [List.getElem?_set_ne hk] at h2
    exact f.ve.dist j k x y b hjk h1 h2 o1 o2 h3
 ·by_cases hb:b=a
  ·rw [hb,au] at z;cases z
  ·rw [ag hb] at z;exact f.ve.dom b h z
 ·have nb:b≠a:=fun z=>by
   have:=f.own i _ a hr trivial hs'
   rw [←z,h] at this;cases this
  rw [ag nb];exact f.ext b o n h
 ·by_cases hj:i=j
  ·subst hj
   exact f.own i _ b hr trivial h2
  ·rw [List.getElem?_set_ne hj] at h
   exact f.own j x b h o h2
end
section
variable {X:Cx} {ρ ρ':Rho} {e:Expr} {d:D} {st:Stmt} {sts:List Stmt} {o:Out} {pos:Pos} {xs:List D}
theorem DF.x (h:DF X ρ e xs):DFx X ρ e (.l xs):=PE.weak h fun σ H Q ⟨S,ve,k⟩=>⟨S,ve,fun a vs H' ex hn ha r=>k a (.lst vs) H' ex hn ha ⟨vs,rfl,r⟩⟩
theorem DFx.de {c:Ow} (h:DFx X ρ e c):DE X ρ e c.D:=PE.weak h fun σ H Q ⟨S,ve,k⟩=>⟨S,ve,fun a o H' ex hn ha r=>k _ H' ex ((r.av fun b h=>.inl (.inl h)).rds ha (ve.dom.not hn))⟩
theorem DF.de (h:DF X ρ e xs):DE X ρ e (.lst xs):=PE.weak h fun σ H Q ⟨S,ve,k⟩=>⟨S,ve,fun a vs H' ex hn ha r=>k _ H' ex (.lst (.inl ha) (ve.dom.not hn) (r.av fun b h=>.inl (.inl h)))⟩
theorem DC.df (h:DC X ρ e xs):DF X ρ e xs:=PE.weak h.pe fun σ H Q ⟨S,ve,k⟩=>⟨S,ve,fun a vs H' ex hp r=>k a vs _ (ex.trans (Ext.new hp)) (ex.back hp) au ((r.av (S':=S.and a) fun b h=>h.imp_right fun z=>by rw [z];exact hp).ext ((Ext.new hp).to _))⟩
theorem yj {es:List Expr} (h:DA X ρ es xs) (hl:xs.length<=sizeLine):DF X ρ (.List es pos) xs:=
 PE.weak (pw h) fun σ H Q ⟨S,ve,k⟩=>⟨S,ve,fun vs H' ex rs=>⟨by rw [←rs.length];exact hl,fun p hp=>k p vs _ (ex.trans (Ext.new hp)) (ex.back hp) au ((rs.av (S':=S.and p) fun b h=>h.imp_right fun z=>by rw [z];exact hp).ext ((Ext.new hp).to _))⟩⟩
theorem mx:DSs X ρ [] (.nx ρ):=PSs.weak vS fun E σ H ⟨H₀,S₀,S,f,k⟩=>k σ H S f
theorem fU (h1:DS X ρ st (.nx ρ')) (h2:DSs X ρ' sts o):DSs X ρ (st::sts) o:=PSs.weak (fT h1 h2) fun E σ H ⟨H₀,S₀,S,f,k⟩=>⟨H₀,S₀,S,f,fun σ' H' S' f'=>⟨H₀,S₀,S',f',k⟩⟩
noncomputable def Out.ends:Out->Prop
 |.nx _=>False
 |_=>True
theorem mT (h1:DS X ρ st o) (ho:o.ends):DSs X ρ (st::sts) o:=PSs.weak (fT h1 (j2 (sts:=sts))) fun E σ H ⟨H₀,S₀,S,f,k⟩=>⟨H₀,S₀,S,f,by
 cases o with
 |nx _=>exact ho.elim
 |rt d=>exact k
 |rfx xs=>exact k⟩
theorem uc:DS X ρ (.Pass pos) (.nx ρ):=PS.weak uY fun E σ H ⟨H₀,S₀,S,f,k⟩=>k σ H S f
theorem wa (h:DE X ρ e d):DS X ρ (.Return (some e) pos) (.rt d):=PS.weak (i4 h) fun E σ H ⟨H₀,S₀,S,f,k⟩=>⟨S,f.ve,fun v H' ex r=>k v H' (f.ext.trans ex) ((f.grow ex).out r)⟩
theorem uh:DS X ρ (.Return none pos) (.rt .non):=PS.weak vP fun E σ H ⟨H₀,S₀,S,f,k⟩=>k .non H f.ext .non
theorem rH {c:Ow} (h:DFx X ρ e c):DS X ρ (.Return (some e) pos) (.rfx c):=PS.weak (i4 h) fun E σ H ⟨H₀,S₀,S,f,k⟩=>⟨S,f.ve,fun a vs H' ex hn ha r=>k a vs H' (f.ext.trans ex) (f.ext.back hn) ha (r.av fun b h=>.inl (h.imp_left (f.sub b)))⟩
theorem uU {i:Nat} {x:Str} {p:Pos} {c:Ow} (hN:X.N[i]?=some x) (hv:Vis X.env.scope x) (hr:ρ[i]?=some (.owx c)) (hd:(x==("__debug__":Str))=false:=by decide) (hcd:(x==("__classdict__":Str))=false:=by decide):
  DS X ρ (.Return (some (.Name x p)) pos) (.rfx c):=PS.weak (i4 (gy hN hv hd hcd)) fun E σ H ⟨H₀,S₀,S,f,k⟩=>by
 obtain ⟨v,h1,a,vs,rfl,sa,ha,r⟩:=f.ve.rel i _ hr
 exact ⟨_,h1,k a vs H f.ext (f.own i _ a hr trivial h1) ha (r.av fun b h=>.inl (h.elim (f.sub b) fun z=>by rw [z];exact sa))⟩
theorem mw (h:DE X ρ e d) (hs:swapsWith e none pos.line X.env=pure false:=by rfl):DS X ρ (.Expr e pos) (.nx ρ):=PS.weak (gM h hs) fun E σ H ⟨H₀,S₀,S,f,k⟩=>⟨S,f.ve,fun v H' ex r=>k σ H' S (f.grow ex)⟩
variable {i:Nat} {x:Str} {pos':Pos}
theorem o9 (hN:X.N.Nodup) (hi:X.N[i]?=some x) (hx:Loc X.env.scope x) (he:DE X ρ e d) (hs:swapsWith e (some (.Name x pos')) pos.line X.env=pure false:=by rfl) (hf:X.fn x=true∨X.env.scope.names.lookup x=some .local:=by first|exact .inl rfl|exact .inr rfl|assumption):
  DS X ρ (.Assign [.Name x pos'] e pos) (.nx (ρ.set i (.val d))):=PS.weak (kL hN hi hx he hs hf) fun E σ H ⟨H₀,S₀,S,f,k⟩=>⟨S,f.ve,fun v H' ex r=>k _ H' S ((f.grow ex).set r)⟩
theorem ib {c:Ow} (hN:X.N.Nodup) (hi:X.N[i]?=some x) (hx:Loc X.env.scope x) (he:DFx X ρ e c) (hs:swapsWith e (some (.Name x pos')) pos.line X.env=pure false:=by rfl) (hf:X.fn x=true∨X.env.scope.names.lookup x=some .local:=by first|exact .inl rfl|exact .inr rfl|assumption):
  DS X ρ (.Assign [.Name x pos'] e pos) (.nx (ρ.set i (.owx c))):=PS.weak (kL hN hi hx he hs hf) fun E σ H ⟨H₀,S₀,S,f,k⟩=>⟨S,f.ve,fun a vs H' ex hn ha r=>k _ H' _ (f.qI ex hn ha r)⟩
theorem j9 {a:Expr} {p ap cp:Pos} (hN:X.N[i]?=some x) (hv:Vis X.env.scope x) (hr:ρ[i]?=some (.own xs)) (he:DE X ρ a d) (hz:xs.length<sizeLine) (hd:(x==("__debug__":Str))=false:=by decide) (hcd:(x==("__classdict__":Str))=false:=by decide)
  (hs:swapsWith (.Call (.Attribute (.Name x p) "append" ap) [a] [] cp) none pos.line X.env=pure false:=by rfl)
  (hbase:attributeBase (.Name x p) "append" X.env (eval (.Name x p) X.env)=eval (.Name x p) X.env:=by rfl)
  (hfew:((backTo cp (starEach [a] X.env)).all (fun x=>!x.1)&&(backToKw cp (keywordEach [] X.env)).all (fun x=>x.1.isSome)&&decide (([a]:List Expr).length+([]:List Keyword).length+(if ([]:List Keyword).isEmpty then 0 else 1)<30))=true:=by rfl)
  (hline:(ap.endLine==cp.line)=true:=by rfl) (hst:starEach [a] X.env=(false,eval a X.env)::starEach [] X.env:=by rfl) (hplain:(backTo cp (starEach [] X.env)).any (·.1)=false:=by rfl):
  DS X ρ (.Expr (.Call (.Attribute (.Name x p) "append" ap) [a] [] cp) pos) (.nx (ρ.set i (.own (xs++[d])))):=
 PS.weak (gM (zJ PySem.F.plainAttrs_list PySem.F.slot_list_append PySem.F.type_list_append pO (gy hN hv hd hcd) (mG he qB hst) hbase hfew hline hst hplain) hs) fun E σ H ⟨H₀,S₀,S,f,k⟩=>by
  obtain ⟨v,h1,l,_,rfl,sa,ha,vs,rfl,r⟩:=f.ve.rel i _ hr
  refine ⟨_,h1,.inl ⟨rfl,vs,.inl (.inl ha)⟩,S,f.ve,fun y H' ex ry=>⟨l,vs,y,rfl,rfl,ex _ _ (fun z=>z) ha,by rw [←r.length];exact hz,?_⟩⟩
  exact k _ _ S ((f.grow ex).v9 hr h1 (ae.app (r.ext (ex.to S)) (.cons ry .nil)))
theorem oU {C a dx:Addr} {fs:List (Str×D)} {fl:Str} {p:Pos} (hN:X.N[i]?=some x) (hv:Vis X.env.scope x) (hr:ρ[i]?=some (.new C a dx fs)) (c:Cls X.K C) (na:bp X.K C fl) (hl:fs.length<1000) (he:DE X ρ e d)
  (hs:swapsWith e (some (.Attribute (.Name x p) fl pos')) pos.line X.env=pure false:=by rfl) (hd:(x==("__debug__":Str))=false:=by decide) (hcd:(x==("__classdict__":Str))=false:=by decide):
  DS X ρ (.Assign [.Attribute (.Name x p) fl pos'] e pos) (.nx (ρ.set i (.new C a dx (putD fl d fs)))):=
 PS.weak (yo (gy hN hv hd hcd) he hs) fun E σ H ⟨H₀,S₀,S,f,k⟩=>⟨S,f.ve,fun v H' ex r=>by
  have f':=f.grow ex
  obtain ⟨w,h1,gs,rfl,sa,ha,rf⟩:=f'.ve.rel i _ hr
  exact ⟨_,h1,a,C,dx,gs,rfl,ha,c,na,by rw [←rf.len];exact hl,k _ _ S (f'.xr hr (rf.put r))⟩⟩
theorem gP {sts:List Stmt}:PSs X sts (fun E σ H=>∃ρ o,DSs X ρ sts o∧tDS X.K ρ o E σ H):=fun pins s σ H D I ⟨_,_,h,q⟩=>h pins s σ H D I q
theorem nX {c:Expr} {a b:List Stmt} {q:Bool} (hc:DT X ρ c q) (ha:q=true->DSs X ρ a o) (hb:q=false->DSs X ρ b o):DS X ρ (.If c a b pos) o:=
 PS.weak (sT hc (gP (sts:=a)) (gP (sts:=b))) fun E σ H ⟨H₀,S₀,S,f,k⟩=>⟨S,f.ve,fun H' ex=>by
  cases q with
  |true=>exact ej ⟨ρ,o,ha rfl,H₀,S₀,S,f.grow ex,k⟩
  |false=>exact eQ ⟨ρ,o,hb rfl,H₀,S₀,S,f.grow ex,k⟩⟩
end
end CT
namespace CT
open PySem PySem.Spec L2
open PyProof.Rows hiding St
section
variable {X:Cx} {ρ ρ':Rho} {e:Expr} {d:D} {o:Out} {pos:Pos} {xs:List D} {i:Nat}
theorem Fm.give {K:PySem.W.Frag} {H₀ H:Hp} {S₀ S:Ad} {σ:St} {c:Ow} (f:Fm K H₀ S₀ H S ρ σ) (hr:ρ[i]?=some (.owx c)):∃S',(∀a,S' a->S a)∧Fm K H₀ S₀ H S' (ρ.set i (.val c.D)) σ:=by
 have hi:=(List.getElem?_eq_some_iff.mp hr).1
 obtain ⟨v,q1,a,vs,rfl,sa,ha,r⟩:=f.ve.rel i _ hr
 have own_ne:∀(m:Nat) (x:Sl) (c:Addr),i≠m->ρ[m]?=some x->x.du->σ[m]?=some (some (.ref c))->c≠a:=fun m x c hm h ho hs z=>f.ve.dist i m _ x a hm hr h trivial ho q1 (by rw [hs,z])
 refine ⟨fun b=>S b∧b≠a,fun b h=>h.1,⟨⟨by simpa using f.ve.len,fun j x h=>?_,fun j k x y b hjk h1 h2 o1 o2 h3=>?_,fun b h=>f.ve.dom b h.1⟩,f.ext,fun b h=>⟨f.sub b h,fun z=>?_⟩,fun b h=>f.new b h.1,f.dm,fun j x b h o h2=>?_⟩⟩
 ·by_cases hj:i=j
  ·subst hj
   rw [List.getElem?_set_self hi] at h
   cases h
   exact ⟨_,q1,_,rfl,(r.av fun b h=>.inl h.1).rds ha fun z=>z.2 rfl⟩
  ·rw [List.getElem?_set_ne hj] at h
   obtain ⟨v,h1,h2⟩:=f.ve.rel j x h
   refine ⟨v,h1,?_⟩
   cases x with
   |nil=>exact h2
   |any=>trivial
   |val d=>obtain ⟨u,p,r⟩:=h2;exact ⟨u,p,r.av fun b h=>.inl h.1⟩
   |owx zs=>exact RO.av (x:=.owx zs) (fun b h=>.inl h.1) (fun b z s=>⟨s,own_ne j _ b hj h trivial (by rw [h1,z])⟩) h2
   |new C y dx fs=>exact RO.av (x:=.new C y dx fs) (fun b h=>.inl h.1) (fun b z s=>⟨s,own_ne j _ b hj h trivial (by rw [h1,z])⟩) h2
 ·have n1:i≠j:=fun z=>by
   subst z
   rw [List.getElem?_set_self hi] at h1;cases h1;exact o1
  have n2:i≠k:=fun z=>by
   subst z
   rw [List.getElem?_set_self hi] at h2;cases h2;exact o2
  rw [List.getElem?_set_ne n1] at h1
  rw [List.getElem?_set_ne n2] at h2
  exact f.ve.dist j k x y b hjk h1 h2 o1 o2 h3
 ·have:=f.own i _ a hr trivial q1
  exact f.dm b h (by rw [z];exact this)
 ·have n1:i≠j:=fun z=>by
   subst z
   rw [List.getElem?_set_self hi] at h;cases h;exact o
  rw [List.getElem?_set_ne n1] at h
  exact f.own j x b h o h2
theorem VE.give {K:PySem.W.Frag} {H:Hp} {S:Ad} {σ:St} {c:Ow} (f:VE K H S ρ σ) (hr:ρ[i]?=some (.owx c)):∃S',VE K H S' (ρ.set i (.val c.D)) σ:=by
 have F:Fm K (fun _=>none) no H S ρ σ:=⟨f,(fun a o _ h=>by cases h),fun a h=>h.elim,fun a h=>.inr rfl,fun a h=>h.elim,fun _ _ _ _ _ _=>rfl⟩
 obtain ⟨S',_,f'⟩:=F.give hr
 exact ⟨S',f'.ve⟩
theorem vm {q:Bool} {c:Ow} (hr:ρ[i]?=some (.owx c)) (h:DT X (ρ.set i (.val c.D)) e q):DT X ρ e q:=PT.weak h fun σ H Q ⟨S,ve,k⟩=>by
 obtain ⟨S',ve'⟩:=ve.give hr
 exact ⟨S',ve',k⟩
noncomputable def b8 (ρ ρ1:Rho) (ks:List Nat):Prop:=∀(i:Nat) (x:Sl),ρ1[i]?=some x->x.du->i∉ks∧ρ[i]?=some x
theorem xl:b8 ρ ρ []:=fun i x h _=>⟨by simp,h⟩
theorem wO {k:Nat}:b8 ρ (ρ.set k (.val d)) [k]:=fun i x h o=>by
 by_cases hj:k=i
 ·subst hj
  have hi:=(List.getElem?_eq_some_iff.mp h).1
  rw [List.getElem?_set_self (by simpa using hi)] at h;cases h;exact o.elim
 ·rw [List.getElem?_set_ne hj] at h
  exact ⟨by simp [Ne.symm hj],h⟩
theorem b8.trans {ρ1 ρ2:Rho} {ks ls:List Nat} (a:b8 ρ ρ1 ks) (b:b8 ρ1 ρ2 ls):b8 ρ ρ2 (ks++ls):=fun i x h o=>by
 obtain ⟨n1,h1⟩:=b i x h o
 obtain ⟨n2,h2⟩:=a i x h1 o
 exact ⟨by simp [n1,n2],h2⟩
inductive iG (X:Cx) (tg:Expr) (body:List Stmt):List D->Rho->Out->Prop
 |nil (ρ:Rho):iG X tg body [] ρ (.nx ρ)
 |cons {d:D} {ds:List D} {ρ ρ1 ρ2:Rho} {ks:List Nat} {o:Out}:DG X tg ρ d ρ1 ks->b8 ρ ρ1 ks->DSs X ρ1 body (.nx ρ2)->iG X tg body ds ρ2 o->iG X tg body (d::ds) ρ o
 |ret {d:D} {ds:List D} {ρ ρ1:Rho} {ks:List Nat} {o:Out}:DG X tg ρ d ρ1 ks->b8 ρ ρ1 ks->DSs X ρ1 body o->o.ends->iG X tg body (d::ds) ρ o
theorem Fm.tgt {K:PySem.W.Frag} {H₀ H:Hp} {S₀ S:Ad} {ρ ρ1:Rho} {σ σ':St} {ks:List Nat} (f:Fm K H₀ S₀ H S ρ σ) (ve:VE K H S ρ1 σ') (c:Chg ks σ σ') (h:b8 ρ ρ1 ks):Fm K H₀ S₀ H S ρ1 σ':=
 ⟨ve,f.ext,f.sub,f.new,f.dm,fun i x a h1 o h2=>by
  obtain ⟨n,h3⟩:=h i x h1 o
  exact f.own i x a h3 o (by rw [←c.2 i n];exact h2)⟩
theorem Fm.mono {K:PySem.W.Frag} {H₀ H1 H:Hp} {S₀ S:Ad} {σ:St} (f:Fm K H1 S₀ H S ρ σ) (e:aF H₀ H1) (dm:Dom H₀ S₀):Fm K H₀ S₀ H S ρ σ:=
 ⟨f.ve,e.trans f.ext,f.sub,fun a h=>(f.new a h).imp_right e.back,dm,fun i x a h o h2=>e.back (f.own i x a h o h2)⟩
theorem lS.mono {K:PySem.W.Frag} {H₀ H1:Hp} {S₀:Ad} {E:Ends} (e:aF H₀ H1) (dm:Dom H₀ S₀) (k:lS K H₀ S₀ E o):lS K H1 S₀ E o:=by
 cases o with
 |nx ρ'=>exact fun σ' H' S' f=>k σ' H' S' (f.mono e dm)
 |rt d=>exact fun v H' ex r=>k v H' (e.trans ex) r
 |rfx xs=>exact fun a vs H' ex hn ha r=>k a vs H' (e.trans ex) (e.back hn) ha r
open Classical in
noncomputable def dj (H:Hp) (S S₀:Ad):Hp:=fun a=>if S a∧¬S₀ a then none else H a
theorem cW {H:Hp} {S S₀:Ad} {a:Addr} {u:HO} (h:H a=some u) (n:S a->S₀ a):dj H S S₀ a=some u:=by
 unfold dj;rw [if_neg fun z=>z.2 (n z.1)];exact h
theorem gq {H:Hp} {S S₀:Ad} {a:Addr} (h:S a) (n:¬S₀ a):dj H S S₀ a=none:=by
 unfold dj;rw [if_pos ⟨h,n⟩]
theorem v5 {H:Hp} {S S₀:Ad} {a:Addr} {u:HO} (h:dj H S S₀ a=some u):H a=some u∧(S a->S₀ a):=by
 unfold dj at h
 split at h
 ·cases h
 ·rename_i n
  exact ⟨h,fun s=>Classical.byContradiction fun z=>n ⟨s,z⟩⟩
theorem Fm.cut {K:PySem.W.Frag} {H₀ H:Hp} {S₀ S:Ad} {σ:St} (f:Fm K H₀ S₀ H S ρ σ):aF H₀ (dj H S S₀)∧Fm K (dj H S S₀) S₀ H S ρ σ:=by
 refine ⟨fun a u n h=>cW (f.ext a u n h) fun s=>(f.new a s).elim (fun z=>z) fun z=>(by rw [h] at z;cases z),⟨f.ve,fun a u n h=>(v5 h).1,f.sub,fun a s=>?_,fun a s z=>?_,fun i x a h o h2=>?_⟩⟩
 ·by_cases q:S₀ a
  ·exact .inl q
  ·exact .inr (gq s q)
 ·cases q:H a with
  |none=>exact f.ve.dom a (f.sub a s) q
  |some u=>rw [cW q fun _=>s] at z;cases z
 ·have hn:=f.own i x a h o h2
  have ns:¬S₀ a:=fun z=>f.dm a z hn
  obtain ⟨v,q1,q2⟩:=f.ve.rel i x h
  rw [h2] at q1;cases q1
  cases x with
  |owx xs=>obtain ⟨b,_,z,s,_⟩:=q2;cases z;exact gq s ns
  |new C y dx fs=>obtain ⟨_,z,s,_⟩:=q2;cases z;exact gq s ns
  |nil=>exact o.elim
  |any=>exact o.elim
  |val d=>exact o.elim
theorem kK {tg iter:Expr} {body:List Stmt} {its:List D} (hp:PassesOwn (model X.prog X.w) X.A X.env X.xe) (hc:X.calm=true) (hi:DI X tg ρ iter its) (hb:iG X tg body its ρ o)
  (hs:∀x,foldedSetIterable iter X.env x=pure x:=by intro _;rfl):DS X ρ (.For tg iter body [] pos) o:=by
 refine PS.weak (qH hp hc hi (og (G:=DG X tg) fun _ _ _ _ h=>h) (gP (sts:=body)) hs) ?_
 rintro E σ H ⟨H₀,S₀,S,f,k⟩
 refine ⟨S,f.ve,fun J H1 ex hJ=>?_⟩
 have f1:=f.grow ex
 obtain ⟨e0,fc⟩:=f1.cut
 have k1:=k.mono e0 f.dm
 refine ⟨fun i m σ' H'=>∃S' ρ',Fm X.K (dj H1 S S₀) S₀ H' S' ρ' σ'∧iG X tg body (its.drop i) ρ' o∧i<=its.length∧m=its.length - i,⟨its.length,S,ρ,fc,by simpa using hb,Nat.zero_le _,by simp⟩,?_⟩
 rintro i m σ' H' ⟨S',ρ',f',hf,hi',rfl⟩
 have ext1:Ext S H1 H':=fun a u n h=>f'.ext a u (fun z=>z) (cW h fun s=>(n s).elim)
 have new1:∀a,S' a->S a∨H1 a=none:=fun a s=>by
  rcases f'.new a s with z|z
  ·exact .inl (f.sub a z)
  ·by_cases q:S a
   ·exact .inl q
   ·cases h:H1 a with
    |none=>exact .inr rfl
    |some u=>rw [cW h fun s=>(q s).elim] at z;cases z
 obtain ⟨J1,J2⟩:=hJ H' S' ext1 new1 f'.ve.dom i
 by_cases hlt:i<its.length
 ·have hd:its[i]?=some its[i]:=by simp [hlt]
  obtain ⟨go,yld⟩:=J1 _ hd
  rw [List.drop_eq_getElem_cons hlt] at hf
  have rep:∀{ρ1:Rho} {ks:List Nat} {x:V} {H2:Hp},J.yld i H' x H2->DG X tg ρ' its[i] ρ1 ks->b8 ρ' ρ1 ks->∀(R:St->Hp->Prop),(∀σ2,Fm X.K (dj H1 S S₀) S₀ H2 S' ρ1 σ2->R σ2 H2)->gA X.K (DG X tg) x σ' H2 R:=fun {ρ1 ks x H2} y hg htg R hR=>by
   obtain ⟨e1,r1⟩:=yld x H2 y
   exact ⟨ρ',its[i],ρ1,ks,hg,S',(f'.grow e1).ve,r1,fun σ2 ve2 c=>hR σ2 ((f'.grow e1).tgt ve2 c htg)⟩
  cases hf with
  |cons hg htg hbd hrest=>
   rename_i ρ1 ρ2 ks
   refine .inr ⟨go,fun σ2 H2=>∃S2,Fm X.K (dj H1 S S₀) S₀ H2 S2 ρ2 σ2,fun σ2 H2 ⟨S2,f2⟩=>⟨its.length - (i+1),by omega,S2,ρ2,f2,hrest,hlt,rfl⟩,fun x H2 y=>?_⟩
   exact rep y hg htg _ fun σ2 f2=>⟨ρ1,_,hbd,_,_,S',f2,fun σ3 H3 S3 f3=>⟨S3,f3⟩⟩
  |ret hg htg hbd hend=>
   rename_i ρ1 ks
   refine .inr ⟨go,fun _ _=>False,fun _ _ z=>z.elim,fun x H2 y=>?_⟩
   refine rep y hg htg _ fun σ2 f2=>⟨ρ1,o,hbd,_,_,S',f2,?_⟩
   cases o with
   |nx _=>exact hend.elim
   |rt d=>exact k1
   |rfx xs=>exact k1
 ·have e:i=its.length:=by omega
  subst e
  rw [List.drop_length] at hf
  cases hf
  exact .inl ⟨J2 (Nat.le_refl _),k1 σ' H' S' f'⟩
end
end CT
namespace CT
open PySem PySem.Spec L2
open PyProof.Rows hiding St
noncomputable def spD (K:PySem.W.Frag) (P:List D->D->Prop):Sp:=fun vs H Q _=>∃S ds d,Dom H S∧ae K H S ds vs∧P ds d∧∀v H',aF H H'->Rds K H' S d v->Q v H'
noncomputable def spI (K:PySem.W.Frag) (C:Addr) (P:List D->List (Str×D)->Prop):Sp:=fun vs H Q _=>∃S x dx us ds fs,vs=.ref x::us∧H x=some (.ins C dx [])∧Dom H S∧S x∧ae K H S ds us∧P ds fs∧
 ∀H' gs,(∀a o,a≠x->H a=some o->H' a=some o)->H' x=some (.ins C dx gs)->aG K H' S fs gs->Q .non H'
noncomputable def aI (N:List Str) (ds:List D):Rho:=ds.map .val++List.replicate (N.length - ds.length) .nil
theorem kP {K:PySem.W.Frag} {H:Hp} {S:Ad} {N:List Str} {ds:List D} {vs:List V} (dm:Dom H S) (r:ae K H S ds vs):VE K H S (aI N ds) (start N vs):=by
 have hl:=r.length
 have nown:∀(i:Nat) (x:Sl),(aI N ds)[i]?=some x->¬x.du:=fun i x h o=>by
  have hm:=List.mem_of_getElem? h
  unfold aI at hm
  rcases List.mem_append.mp hm with hm|hm
  ·obtain ⟨y,_,e⟩:=List.mem_map.mp hm;rw [←e] at o;exact o
  ·rw [(List.mem_replicate.mp hm).2] at o;exact o
 refine ⟨by simp [aI,L2.start,hl],fun i x h=>?_,fun i j x y a _ h _ o=>absurd o (nown i x h),dm⟩
 unfold aI at h
 unfold L2.start
 by_cases hi:i<ds.length
 ·rw [List.getElem?_append_left (by simpa using hi),List.getElem?_map] at h
  rw [List.getElem?_append_left (by simpa [←hl] using hi),List.getElem?_map]
  cases hq:ds[i]? with
  |none=>rw [hq] at h;cases h
  |some d=>
   rw [hq] at h;cases h
   obtain ⟨v,hv,rv⟩:=r.get hq
   exact ⟨some v,by rw [hv];rfl,v,rfl,rv⟩
 ·have hi':ds.length<=i:=Nat.le_of_not_lt hi
  rw [List.getElem?_append_right (by simpa using hi'),List.length_map,List.getElem?_replicate] at h
  rw [List.getElem?_append_right (by simpa [←hl] using hi'),List.length_map,List.getElem?_replicate]
  rw [←hl]
  split at h
  ·rename_i z
   rw [if_pos z]
   cases h
   exact ⟨none,rfl,rfl⟩
  ·cases h
theorem il {K:PySem.W.Frag} {H:Hp} {S:Ad} {N:List Str} {ds:List D} {vs:List V} (dm:Dom H S) (r:ae K H S ds vs):Fm K H S H S (aI N ds) (start N vs):=
 ⟨kP dm r,Ext.refl,fun a h=>h,fun a h=>.inl h,dm,fun i x a h o _=>by
  have hm:=List.mem_of_getElem? h
  unfold aI at hm
  rcases List.mem_append.mp hm with hm|hm
  ·obtain ⟨y,_,e⟩:=List.mem_map.mp hm;rw [←e] at o;exact o.elim
  ·rw [(List.mem_replicate.mp hm).2] at o;exact o.elim⟩
noncomputable def Bc:Out->D->Prop
 |.rt d,d'=>d=d'
 |.nx _,d'=>d'=.non
 |.rfx c,d'=>d'=c.D
section
variable {P:Program} {w:World} {K:PySem.W.Frag} {mg:Str->Option Value} {base:Heap} {x qual:Str} {st:Stmt} {f:Addr} {fd:FuncData} {N ps:List Str} {k:Nat}
noncomputable def jB (K:PySem.W.Frag) (P:List D->Ow->Prop):Sp:=fun vs H Q _=>∃S ds c,Dom H S∧ae K H S ds vs∧P ds c∧∀a o H',aF H H'->H a=none->H' a=some o->cC K H' (S.and a) a c o->Q (.ref a) H'
theorem zy {Pr:List D->Ow->Prop} (F:Fun K x qual st f fd) (S:bO N ps (ai st)) (len:∀ds xs,Pr ds xs->ds.length=ps.length)
  (hb:∀(cdv:Value) (A:Around) (outer:List Env) (s:Shared) (H:Hp) (E:XK) (ds:List D) (c:Ow),ay k (A.deeper (envOfC qual (ai st) s.heap.objs.size f cdv))->Pr ds c->
   DSs (bQ CX0 P w K mg base N qual (ai st) f cdv A outer s H E).nox (aI N ds) (aV st) (.rfx c)):aA P w K mg base CX0 (k+1) f fd ps (jB K Pr):=by
 refine F.ok S (fun vs H Q E ⟨S,ds,d,dm,r,p,kk⟩=>by rw [←r.length];exact len ds d p) fun cdv A outer s H vs Q E hr ⟨S',ds,d,dm,r,p,kk⟩=>?_
 exact ⟨_,hb cdv A outer s H E ds d hr p,H,S',S',il dm r,kk⟩
end
section
variable {X:Cx} {ρ:Rho} {k:Nat} {f C:Addr} {fd:FuncData} {ps:List Str} {x m:Str} {p pos apos:Pos} {e o:Expr} {es:List Expr} {ds:List D} {d:D}
theorem e9 {K:PySem.W.Frag} {H:Hp} {S:Ad} {ds:List D} {vs:List V} (r:ae K H S ds vs):ae K H S ds (vs++[]):=by rw [List.append_nil];exact r
theorem vE {Pr:List D->D->Prop} (F:aA X.prog X.w X.K X.mg X.base CX0 k f fd ps (spD X.K Pr)) (hr:ay k X.A) (hg:Gl X x) (hm:X.mg x=some (.ref f)) (hk:PySem.W.keepIn X.K (.ref f)=true) (hb:Binds X.K fd ps [])
  (ha:DA X ρ (e::es) ds) (hp:Pr ds d) (hdb:(x==("__debug__":Str))=false:=by decide) (he:starEach (e::es) X.env=(false,eval e X.env)::starEach es X.env:=by rfl) (hpl:(backTo pos (starEach es X.env)).any (·.1)=false:=by rfl):
  DE X ρ (.Call (.Name x p) (e::es) [] pos) d:=PE.weak (mW F hr hg hm hk hb .nil d3 ha hdb he hpl) fun σ H Q ⟨S,ve,kk⟩=>⟨S,ve,fun vs H' ex r=>⟨S,ds,d,(ve.ext ex).dom,e9 r,hp,fun v H'' ex' r'=>kk v H'' (ex.trans ex') r'⟩⟩
theorem sk {Pr:List D->Ow->Prop} {c:Ow} (F:aA X.prog X.w X.K X.mg X.base CX0 k f fd ps (jB X.K Pr)) (hr:ay k X.A) (hg:Gl X x) (hm:X.mg x=some (.ref f)) (hk:PySem.W.keepIn X.K (.ref f)=true) (hb:Binds X.K fd ps [])
  (ha:DA X ρ (e::es) ds) (hp:Pr ds c) (hdb:(x==("__debug__":Str))=false:=by decide) (he:starEach (e::es) X.env=(false,eval e X.env)::starEach es X.env:=by rfl) (hpl:(backTo pos (starEach es X.env)).any (·.1)=false:=by rfl):
  DFx X ρ (.Call (.Name x p) (e::es) [] pos) c:=PE.weak (mW F hr hg hm hk hb .nil d3 ha hdb he hpl) fun σ H Q ⟨S,ve,kk⟩=>⟨S,ve,fun vs H' ex r=>⟨S,ds,c,(ve.ext ex).dom,e9 r,hp,fun a us H'' ex' hn ha r'=>kk a us H'' (ex.trans ex') (ex.back hn) ha r'⟩⟩
theorem uC {Pr:List D->D->Prop} {fs:List (Str×D)} {pl:Sem Bool} (ho:DE X ρ o (.ins C fs)) (hl:fs.lookup m=none) (c:Cls X.K C) (hm:Meth X.K C m f) (F:aA X.prog X.w X.K X.mg X.base CX0 k f fd ps (spD X.K Pr)) (hr:ay k X.A) (hb:Binds X.K fd ps [])
  (ha:DA X ρ (e::es) ds) (hp:Pr (.ins C fs::ds) d) (hst:starEach (e::es) X.env=(false,eval e X.env)::starEach es X.env:=by rfl) (hpl:(backTo pos (starEach es X.env)).any (·.1)=false:=by rfl)
  (ht:eval (.Call (.Attribute o m apos) (e::es) [] pos) X.env=(do
   let ov←eval o X.env
   standAt apos.atName
   let (f,first)←holding [ov] (getMethod ov m pl)
   callWith pos f first (backTo pos (starEach (e::es) X.env)) (backToKw pos (keywordEach [] X.env))):=by rfl):
  DE X ρ (.Call (.Attribute o m apos) (e::es) [] pos) d:=PE.weak (mU ho c hm F hr hb .nil d3 ha hst hpl ht) fun σ H Q ⟨S,ve,kk⟩=>⟨S,ve,fun v H1 ex1 r1=>by
   obtain ⟨a,dx,gs,rfl,hh,rf⟩:=r1.gc
   exact ⟨a,dx,gs,rfl,hh,rf.none hl,S,ve.ext ex1,fun vs H' ex r=>⟨S,_,d,((ve.ext ex1).ext ex).dom,.cons (r1.ext (ex.to S)) (e9 r),hp,fun v H'' ex' r'=>kk v H'' (ex1.trans (ex.trans ex')) r'⟩⟩⟩
theorem rZ {Pr:List D->D->Prop} {fs:List (Str×D)} {pl:Sem Bool} (ho:DE X ρ o (.ins C fs)) (hl:fs.lookup m=none) (c:Cls X.K C) (hm:Meth X.K C m f) (F:aA X.prog X.w X.K X.mg X.base CX0 k f fd ps (spD X.K Pr)) (hr:ay k X.A) (hb:Binds X.K fd ps [])
  (hp:Pr [.ins C fs] d)
  (ht:eval (.Call (.Attribute o m apos) [] [] pos) X.env=(do
   let ov←eval o X.env
   standAt apos.atName
   let (f,first)←holding [ov] (getMethod ov m pl)
   callWith pos f first (backTo pos (starEach [] X.env)) (backToKw pos (keywordEach [] X.env))):=by rfl):
  DE X ρ (.Call (.Attribute o m apos) [] [] pos) d:=PE.weak (lD ho c hm F hr hb .nil d3 ht) fun σ H Q ⟨S,ve,kk⟩=>⟨S,ve,fun v H1 ex1 r1=>by
   obtain ⟨a,dx,gs,rfl,hh,rf⟩:=r1.gc
   exact ⟨a,dx,gs,rfl,hh,rf.none hl,S,_,d,(ve.ext ex1).dom,.cons r1 .nil,hp,fun v H'' ex' r'=>kk v H'' (ex1.trans ex') r'⟩⟩
theorem wH {fs:List (Str×D)} {fl:Str} (ho:DE X ρ o (.ins C fs)) (c:Cls X.K C) (n:bp X.K C fl) (l:fs.lookup fl=some d) (hb:attributeBase o fl X.env (eval o X.env)=eval o X.env:=by rfl):DE X ρ (.Attribute o fl pos) d:=
 PE.weak (yh ho hb) fun σ H Q ⟨S,ve,kk⟩=>⟨S,ve,fun v H1 ex1 r1=>by
  obtain ⟨a,dx,gs,rfl,hh,rf⟩:=r1.gc
  obtain ⟨u,hu,ru⟩:=rf.look l
  exact ⟨a,C,dx,gs,u,rfl,hh,c,n,hu,kk u H1 ex1 ru⟩⟩
theorem u9 {Pr:List D->List (Str×D)->Prop} {fs:List (Str×D)} (M:Mk X.K C f) (F:aA X.prog X.w X.K X.mg X.base CX0 k f fd ps (spI X.K C Pr)) (hr:ay (k+1) X.A) (hg:Gl X x) (hm:X.mg x=some (.ref C)) (hb:Binds X.K fd ps [])
  (ha:DA X ρ (e::es) ds) (hp:Pr ds fs) (hdb:(x==("__debug__":Str))=false:=by decide) (he:starEach (e::es) X.env=(false,eval e X.env)::starEach es X.env:=by rfl) (hpl:(backTo pos (starEach es X.env)).any (·.1)=false:=by rfl):
  DE X ρ (.Call (.Name x p) (e::es) [] pos) (.ins C fs):=PE.weak (vf M F hr hg hm hb .nil d3 ha hdb he hpl) fun σ H Q ⟨S,ve,kk⟩=>⟨S,ve,fun vs H1 ex r z dx hz hdx hne=>by
   have e1:aF H1 (upd H1 dx (.own z)):=Ext.new hdx
   have hz1:upd H1 dx (.own z) z=none:=by rw [ag (Ne.symm hne)];exact hz
   have e2:aF H1 (upd (upd H1 dx (.own z)) z (.ins C dx [])):=e1.trans (Ext.new hz1)
   have dm:=(ve.ext ex).dom
   refine ⟨S.and z,z,dx,vs++[],ds,fs,rfl,au,fun a h=>?_,.inr rfl,e9 ((r.av (S':=S.and z) fun b h=>h.imp_right fun q=>by rw [q];exact hz).ext (e2.to _)),hp,fun H' gs hk hz' rf=>⟨rfl,?_⟩⟩
   ·rcases h with h|h
    ·exact dm.ext e2 a h
    ·rw [h,au];intro q;cases q
   ·refine kk _ H' (ex.trans fun a o n h=>hk a o (aj h hz) (e2 a o n h)) (.ins hz' (dm.not hz) (rf.av fun b h=>.inl (.inl h)))⟩
end
end CT
namespace CT
open PySem PySem.Spec L2
open PyProof.Rows hiding St
section
variable {X:Cx}
theorem lr:∀{ys:List Bool} {its:List Value},Vals (ys.map .bl) its->its=ys.map .bool
 |[],_,.nil=>rfl
 |y::ys,_,.cons r t=>by rw [lr t,show _=Value.bool y from r];rfl
theorem all_range {ys:List Bool}:(List.range ys.length).all (fun i=>ys.getD i true)=ys.all id:=by
 induction ys with
 |nil=>rfl
 |cons y ys ih=>
  rw [List.length_cons,List.range_succ_eq_map,List.all_cons,List.all_map,List.all_cons]
  rw [←ih]
  rfl
theorem ma {prog:Program} {w:World} {A:Around} {ys:List Bool}:TruthOf prog w A (fun i v=>(ys.map Value.bool).toArray[i]?=some v) (fun i=>ys.getD i true):=fun i v s Q E hv q=>by
 have hv':(ys.map Value.bool)[i]?=some v:=by simpa using hv
 obtain ⟨b,hb,rfl⟩:=xZ hv'
 have e:ys.getD i true=b:=by simp [hb]
 exact wpAny_truthy_bool (by rw [←e];exact q)
theorem xN {prog:Program} {w:World} {A:Around} (hh:A.handled=none) (b:Bool) (I ax:Addr) (hne:ax≠I) (items:Array Value):Walks prog w A I [I,ax] [I] items.size (fun i v=>items[i]?=some v) (fun i h=>Sit h b I ax i∧Ssq h b ax items):=by
 cases b with
 |true=>exact Walks.tuple hh I ax hne items
 |false=>exact Walks.list hh I ax hne items
theorem qr (hc:X.calm=true):dA X (.builtin "all") (fun xs H Q=>∃(b:Bool) (a:Addr) (ys:List Bool),xs=[.ref a]∧SqB X.K H b a (ys.map .bl)∧Q (.bl (ys.all id)) H):=by
 intro pins s σ H xs us Q I r h
 obtain ⟨b,a,ys,rfl,hq,q⟩:=h
 obtain ⟨u,rfl,rx⟩:=vals1 r
 cases rx
 obtain ⟨its,r',pl,hz⟩:=CT.Inv.sqb I hq
 have e:=lr r'
 subst e
 have hal:a<s.heap.objs.size:=by
  cases b with
  |true=>obtain ⟨o,ho,_⟩:=pl;exact Heap.lt_size ho
  |false=>obtain ⟨o,ho,_⟩:=pl;exact Heap.lt_size ho
 refine call_all_walk (cV pl ⟨_,_,_,_,_,_,_,rfl,xN (A:=X.A.in1) (I.ok.hd hc) b s.heap.objs.size a (Nat.ne_of_lt hal) (ys.map Value.bool).toArray,⟨Sit.new b a,pl.at fun o e=>Heap.get?_push_of_some _ e⟩,ma (ys:=ys),fun h' tk hk=>?_⟩)
 refine ⟨.bl (ys.all id),H,I.kept (t':=tk) fun c o e=>hk c o (by simp;exact Nat.ne_of_lt (Heap.lt_size e)) (Heap.get?_push_of_some _ e),?_,q⟩
 show Value.bool _=Value.bool _
 rw [List.size_toArray,List.length_map,all_range]
theorem pd:OpR X (compareOp .Is) (fun x y H Q=>∃a b,x=.bl a∧y=.bl b∧Q (.bl (a==b)) H):=by
 intro pins s σ H x y v u Q I rx ry h
 obtain ⟨a,b,rfl,rfl,q⟩:=h
 cases rx;cases ry
 exact is_bool ⟨.bl _,H,I,rfl,q⟩
theorem jO:OpR X (compareOp .IsNot) (fun x y H Q=>∃a b,x=.bl a∧y=.bl b∧Q (.bl (a !=b)) H):=by
 intro pins s σ H x y v u Q I rx ry h
 obtain ⟨a,b,rfl,rfl,q⟩:=h
 cases rx;cases ry
 exact isnot_bool ⟨.bl _,H,I,rfl,q⟩
theorem sA:OpR X (binaryOp .Add) (fun x y H Q=>∃a b ys,x=.ref a∧y=.ref b∧SqT X.K H a []∧SqT X.K H b ys∧Q (.ref b) H):=by
 intro pins s σ H x y v u Q I rx ry h
 obtain ⟨a,b,ys,rfl,rfl,ha,hb,q⟩:=h
 cases rx
 cases ry
 obtain ⟨its,r1,p1,_⟩:=I.tuple ha
 obtain ⟨its2,r2,p2,_⟩:=I.tuple hb
 cases r1
 obtain ⟨⟨cls,dd,data,sl⟩,ho,hc,n,hd⟩:=p1
 obtain ⟨⟨cls2,dd2,data2,sl2⟩,ho2,hc2,n2,hd2⟩:=p2
 simp only at hc hd hc2 hd2
 subst hc hd hc2 hd2
 exact concat_meets ⟨_,ho,rfl⟩ ⟨_,ho2,rfl⟩ noFill_tuple_add seq_tuple_add PySem.F.slot_tuple_add PySem.F.entry_tuple_add (PySem.F.args_tuple_add_2 _ _)
  (tuple_addW0 a b #[] its2.toArray n n2 dd dd2 sl sl2 (by simp)) ⟨ho,ho2,⟨.ref b,H,I,rfl,q⟩⟩
theorem uJ:OpR X (binaryOp .Mult) (fun x y H Q=>∃a k z,x=.ref a∧y=.int k∧SqT X.K H a [z]∧0<=k∧k<2^20∧(k=1->Q (.ref a) H)∧(k≠1->∀p,H p=none->Q (.ref p) (upd H p (.tup (List.replicate k.toNat z))))):=by
 intro pins s σ H x y v u Q I rx ry h
 obtain ⟨a,k,z,rfl,rfl,ha,h0,h1,q1,q2⟩:=h
 cases rx
 obtain ⟨t,rfl⟩:=ry
 obtain ⟨its,r1,p1,_⟩:=I.tuple ha
 cases r1 with
 |cons rz rn=>
  cases rn
  rename_i uz
  obtain ⟨⟨cls,dd,data,sl⟩,ho,hc,n,hd⟩:=p1
  simp only at hc hd
  subst hc hd
  refine wpAny_binaryOp_repeat_ref (T:="tuple") (U:="int") (by decide) ⟨_,ho,rfl⟩ (fun s'=>typeIs_int s' k t) iI F.fills_int_mul F.slot_int_rmul lZ F.slot_int_index.lookup
   (call_meets F.slot_int_rmul (typeIs_int s k t) F.entry_int_rmul (F.args_int_rmul_2 _ _) (jr k t a dd _ n sl)
    ⟨ho,rfl,⟨_,ho,rfl⟩,call_meets F.slot_tuple_mul ⟨_,ho,rfl⟩ F.entry_tuple_mul (F.args_tuple_mul_2 _ _) (kq a dd uz n sl k t h0 h1) ⟨ho,?_⟩⟩)
  by_cases k1:k=1
  ·rw [if_pos k1]
   exact ⟨.ref a,H,I,rfl,q1 k1⟩
  ·rw [if_neg k1]
   have rr:∀m:Nat,Vals (List.replicate m z) (List.replicate m uz):=fun m=>by
    induction m with
    |zero=>exact .nil
    |succ m ih=>exact .cons rz ih
   refine ⟨.ref s.heap.objs.size,_,I.laid (t':=s.toks) (o:=.tup (List.replicate k.toNat z)) (fun b ob q=>Heap.get?_push_of_some _ q) (Nat.le_refl _) ?_,rfl,q2 k1 _ (I.hok.fresh (Nat.le_refl _))⟩
   exact ⟨by rw [List.length_replicate];show k.toNat<=2^24;omega,_,rr _,IsTup.new _ _⟩
end
end CT
namespace CT
open PySem PySem.Spec L2
open PyProof.Rows hiding St
section
variable {X:Cx} {ρ:Rho} {e a b:Expr} {es:List Expr} {d da db:D} {ds xs ys:List D} {x:Str} {p pos:Pos}
theorem eE {id:String} {r:List V->Hp->VK->Prop} (hc:dA X (.builtin id) r) (hcd:CD X.K r ds d) (hg:Gl X x) (hm:X.mg x=none) (hv:bootBuiltins x=some (.builtin id)) (ha:DA X ρ (e::es) ds) (hn:x≠"__name__":=by decide) (hdb:(x==("__debug__":Str))=false:=by decide)
  (he:starEach (e::es) X.env=(false,eval e X.env)::starEach es X.env:=by rfl) (hpl:(backTo pos (starEach es X.env)).any (·.1)=false:=by rfl):DE X ρ (.Call (.Name x p) (e::es) [] pos) d:=PE.weak (rL hc hg hm hv ha hn hdb he hpl) (qF hcd)
theorem qj {T:String} {r:List V->Hp->VK->Prop} (hc:dA X (.type T) r) (hcd:CD X.K r ds d) (hg:Gl X x) (hm:X.mg x=none) (hv:bootBuiltins x=some (.type T)) (ha:DA X ρ (e::es) ds) (hn:x≠"__name__":=by decide) (hdb:(x==("__debug__":Str))=false:=by decide)
  (he:starEach (e::es) X.env=(false,eval e X.env)::starEach es X.env:=by rfl) (hpl:(backTo pos (starEach es X.env)).any (·.1)=false:=by rfl):DE X ρ (.Call (.Name x p) (e::es) [] pos) d:=PE.weak (j7 hc hg hm hv ha hn hdb he hpl) (qF hcd)
theorem Sq.sq {K:PySem.W.Frag} {H:Hp} {S:Ad} {v:V} (q:Sq d xs) (r:Rds K H S d v):∃b a vs,v=.ref a∧SqB K H b a vs∧ae K H S xs vs:=by
 obtain ⟨b,a,vs,e,l⟩:=q.later r
 exact ⟨b,a,vs,e,l H S Ext.refl fun _ h=>.inl h⟩
theorem SqB.or {K:PySem.W.Frag} {H:Hp} {c:Bool} {a:Addr} {vs:List V} (h:SqB K H c a vs):SqL K H a vs∨SqT K H a vs:=by
 cases c with
 |true=>exact .inr h
 |false=>exact .inl h
theorem ye (q:Sq da xs) (hg:Gl X "len") (hm:X.mg "len"=none) (ha:DA X ρ [e] [da]) (he:starEach [e] X.env=(false,eval e X.env)::starEach [] X.env:=by rfl) (hpl:(backTo pos (starEach [] X.env)).any (·.1)=false:=by rfl):DE X ρ (.Call (.Name "len" p) [e] [] pos) (.int xs.length):=
 eE lR (fun vs H S Q rs dm k=>by
  obtain ⟨v,rfl,r⟩:=rs.one
  obtain ⟨c,a,us,rfl,sq,rl⟩:=q.sq r
  exact ⟨a,us,rfl,sq.or,by rw [←rl.length];exact k _ H Ext.refl (.int _)⟩) hg hm boot_len ha (by decide) (by decide) he hpl
theorem l8:bootBuiltins "tuple"=some (.type "tuple"):=by decide+kernel
theorem ng:bootBuiltins "list"=some (.type "list"):=by decide+kernel
theorem pW:bootBuiltins "all"=some (.builtin "all"):=by decide+kernel
theorem qy:bootBuiltins "abs"=some (.builtin "abs"):=by decide+kernel
theorem eI:bootBuiltins "isinstance"=some (.builtin "isinstance"):=by decide+kernel
theorem qQ (q:Sq da xs) (hg:Gl X "tuple") (hm:X.mg "tuple"=none) (ha:DA X ρ [e] [da]) (he:starEach [e] X.env=(false,eval e X.env)::starEach [] X.env:=by rfl) (hpl:(backTo pos (starEach [] X.env)).any (·.1)=false:=by rfl):DE X ρ (.Call (.Name "tuple" p) [e] [] pos) (.tup xs):=
 qj ku (fun vs H S Q rs dm k=>by
  obtain ⟨v,rfl,r⟩:=rs.one
  cases q with
  |lst=>
   obtain ⟨a,us,rfl,sq,rl⟩:=r.g_
   exact ⟨a,us,rfl,.inl ⟨sq,fun l hl=>k _ _ (Ext.new hl) (Rds.dF dm hl rl)⟩⟩
  |tup=>
   obtain ⟨a,us,rfl,h,rl⟩:=r.dQ
   exact ⟨a,us,rfl,.inr ⟨.inl (.inl h),k _ H Ext.refl r⟩⟩) hg hm l8 ha (by decide) (by decide) he hpl
theorem vc (q:Sq da xs) (hg:Gl X "list") (hm:X.mg "list"=none) (ha:DA X ρ [e] [da]) (he:starEach [e] X.env=(false,eval e X.env)::starEach [] X.env:=by rfl) (hpl:(backTo pos (starEach [] X.env)).any (·.1)=false:=by rfl):DF X ρ (.Call (.Name "list" p) [e] [] pos) xs:=
 PE.weak (j7 lu hg hm ng ha (by decide) (by decide) he hpl) fun σ H Q ⟨S,ve,k⟩=>⟨S,ve,fun vs H' ex rs=>by
  obtain ⟨v,rfl,r⟩:=rs.one
  obtain ⟨c,a,us,rfl,sq,rl⟩:=q.sq r
  exact ⟨a,us,rfl,sq.or,fun l hl=>k l us _ (ex.trans (Ext.new hl)) (ex.back hl) au ((rl.av (S':=S.and l) fun b h=>h.imp_right fun z=>by rw [z];exact hl).ext ((Ext.new hl).to _))⟩⟩
theorem tq {K:PySem.W.Frag} {H:Hp} {S:Ad}:∀{ys:List Bool} {vs:List V},ae K H S (ys.map .bl) vs->vs=ys.map .bl
 |[],_,.nil=>rfl
 |y::ys,_,.cons r t=>by rw [tq t,r.blV];rfl
theorem yZ {bs:List Bool} (hc:X.calm=true) (q:Sq da (bs.map .bl)) (hg:Gl X "all") (hm:X.mg "all"=none) (ha:DA X ρ [e] [da]) (he:starEach [e] X.env=(false,eval e X.env)::starEach [] X.env:=by rfl) (hpl:(backTo pos (starEach [] X.env)).any (·.1)=false:=by rfl):
  DE X ρ (.Call (.Name "all" p) [e] [] pos) (.bl (bs.all id)):=
 eE (qr hc) (fun vs H S Q rs dm k=>by
  obtain ⟨v,rfl,r⟩:=rs.one
  obtain ⟨c,a,us,rfl,sq,rl⟩:=q.sq r
  exact ⟨c,a,bs,rfl,by rw [←tq rl];exact sq,k _ H Ext.refl (.bl _)⟩) hg hm pW ha (by decide) (by decide) he hpl
theorem xV {i:Int} (hg:Gl X "abs") (hm:X.mg "abs"=none) (ha:DA X ρ [e] [.int i]) (he:starEach [e] X.env=(false,eval e X.env)::starEach [] X.env:=by rfl) (hpl:(backTo pos (starEach [] X.env)).any (·.1)=false:=by rfl):
  DE X ρ (.Call (.Name "abs" p) [e] [] pos) (.int (if i<0 then -i else i)):=
 eE rX (fun vs H S Q rs dm k=>by
  obtain ⟨v,rfl,r⟩:=rs.one
  exact ⟨i,by rw [r.aU],k _ H Ext.refl (.int _)⟩) hg hm qy ha (by decide) (by decide) he hpl
theorem v7 {q r:Bool} (ha:DE X ρ a (.bl q)) (hb:DE X ρ b (.bl r)):DE X ρ (.Compare a [.Is] [b] pos) (.bl (q==r)):=
 bL pd (fun x y H S Q rx ry dm k=>⟨q,r,rx.blV,ry.blV,k _ H Ext.refl (.bl _)⟩) ha hb (aN _)
theorem oQ {q r:Bool} (ha:DE X ρ a (.bl q)) (hb:DE X ρ b (.bl r)):DE X ρ (.Compare a [.IsNot] [b] pos) (.bl (q !=r)):=
 bL jO (fun x y H S Q rx ry dm k=>⟨q,r,rx.blV,ry.blV,k _ H Ext.refl (.bl _)⟩) ha hb (aN _)
theorem xT {q r:Bool} (ha:DE X ρ a (.bl q)) (hb:DE X ρ b (.bl r)):DT X ρ (.Compare a [.Is] [b] pos) (q==r):=
 bK pd (fun x y H S Q rx ry dm k=>⟨q,r,rx.blV,ry.blV,k _ H Ext.refl (.bl _)⟩) ha hb (aN _)
theorem o6 {q r:Bool} (ha:DE X ρ a (.bl q)) (hb:DE X ρ b (.bl r)):DT X ρ (.Compare a [.IsNot] [b] pos) (q !=r):=
 bK jO (fun x y H S Q rx ry dm k=>⟨q,r,rx.blV,ry.blV,k _ H Ext.refl (.bl _)⟩) ha hb (aN _)
theorem vV (ha:DE X ρ a (.tup xs)) (hb:DE X ρ b (.tup ys)) (hl:xs.length+ys.length<=sizeLine):DE X ρ (.BinOp a .Add b pos) (.tup (xs++ys)):=by
 by_cases hx:xs=[]
 ·subst hx
  exact c_ sA (fun x y H S Q rx ry dm k=>by
   obtain ⟨p,us,rfl,h1,r1⟩:=rx.dQ
   obtain ⟨q,vs,rfl,h2,r2⟩:=ry.dQ
   cases r1
   exact ⟨p,q,vs,rfl,rfl,.inl (.inl h1),.inl (.inl h2),k _ H Ext.refl ry⟩) ha hb
 ·exact c_ uZ (fun x y H S Q rx ry dm k=>by
   obtain ⟨p,us,rfl,h1,r1⟩:=rx.dQ
   obtain ⟨q,vs,rfl,h2,r2⟩:=ry.dQ
   refine ⟨p,q,us,vs,rfl,rfl,.inl (.inl h1),.inl (.inl h2),fun z=>hx ?_,by rw [←r1.length,←r2.length];exact hl,fun z=>?_,fun z l hp=>k _ _ (Ext.new hp) (Rds.dF dm hp (ae.app r1 r2))⟩
   ·subst z;cases r1;rfl
   ·subst z;cases r2;rw [List.append_nil] at k;exact k _ H Ext.refl rx) ha hb
theorem uX {k:Int} (ha:DE X ρ a (.tup [d])) (hb:DE X ρ b (.int k)) (h0:0<=k) (h1:k<2^20):DE X ρ (.BinOp a .Mult b pos) (.tup (List.replicate k.toNat d)):=
 c_ uJ (fun x y H S Q rx ry dm kk=>by
  obtain ⟨p,us,rfl,h2,r1⟩:=rx.dQ
  obtain ⟨v,rfl,r⟩:=r1.one
  refine ⟨p,k,v,rfl,ry.aU,.inl (.inl h2),h0,h1,fun z=>?_,fun z l hp=>kk _ _ (Ext.new hp) (Rds.dF dm hp (ae.rep r _))⟩
  subst z
  exact kk _ H Ext.refl rx) ha hb
theorem sS {K:PySem.W.Frag} {H:Hp} {S:Ad} {vs:List V} {i:Int} (r:ae K H S xs vs) (h:atI xs i=some d):∃v,atI vs i=some v∧Rds K H S d v:=by
 unfold atI at h ⊢
 rw [←r.length]
 cases q:ixN xs.length i with
 |none=>rw [q] at h;cases h
 |some j=>
  rw [q] at h
  exact r.get h
theorem wY {i:Int} (ha:DE X ρ a (.lst xs)) (hb:DE X ρ b (.int i)) (h:atI xs i=some d) (hs:jC b:=by exact fun _ _=>rfl):DE X ρ (.Subscript a b pos) d:=
 PE.weak (tO uo ha hb hs) (lz fun x y H S Q rx ry dm k=>by
  obtain ⟨p,us,rfl,sq,r1⟩:=rx.g_
  obtain ⟨v,hv,r⟩:=sS r1 h
  exact ⟨p,us,i,v,rfl,ry.aU,sq,hv,k _ H Ext.refl r⟩)
theorem yJ {i:Int} (ha:DE X ρ a (.tup xs)) (hb:DE X ρ b (.int i)) (h:atI xs i=some d) (hs:jC b:=by exact fun _ _=>rfl):DE X ρ (.Subscript a b pos) d:=
 PE.weak (tO xD ha hb hs) (lz fun x y H S Q rx ry dm k=>by
  obtain ⟨p,us,rfl,h2,r1⟩:=rx.dQ
  obtain ⟨v,hv,r⟩:=sS r1 h
  exact ⟨p,us,i,v,rfl,ry.aU,.inl (.inl h2),hv,k _ H Ext.refl r⟩)
theorem rW {c:Expr} {i j k:Int} (ha:DE X ρ a (.int i)) (hb:DE X ρ b (.int j)) (hc:DE X ρ c (.int k)) (hm:lastMarks [CmpOp.LtE,CmpOp.Lt] [b,c]=false:=by with_unfolding_all rfl):
  DE X ρ (.Compare a [.LtE,.Lt] [b,c] pos) (.bl (decide (i<=j)&&decide (j<k))):=PE.weak (rO oz nY ha hb hc hm) fun σ H Q ⟨S,ve,kk⟩=>
 ⟨S,ve,fun x H1 e1 r1=>⟨S,ve.ext e1,fun y H2 e2 r2=>⟨i,j,r1.aU,r2.aU,decide (i<=j),rfl,by
  cases hq:decide (i<=j) with
  |false=>
   rw [hq] at kk
   exact eQ (kk _ H2 (e1.trans e2) (.bl _))
  |true=>
   rw [hq,Bool.true_and] at kk
   exact ej ⟨S,(ve.ext e1).ext e2,fun z H3 e3 r3=>⟨j,k,r2.aU,r3.aU,kk _ H3 (e1.trans (e2.trans e3)) (.bl _)⟩⟩⟩⟩⟩
structure Isi (K:PySem.W.Frag) (C:Addr):Prop where
 cl:Cls K C
 ha:PySem.W.findIn K (.ref C) "__class__"=some (some (.builtin "object.__class__"))
 hn:PySem.W.specialIn K (.builtin "object.__class__") "__get__"=some (some (.builtin "getset_descriptor.__get__"))
 tk:PySem.W.takesIn K (.builtin "object.__class__")=some true
 mr:PySem.W.mroIn K C (.type "object")=some true
structure hZ (K:PySem.W.Frag) (C:Addr):Prop where
 cl:b4 K C
 ha:PySem.W.findIn K (.ref C) "__class__"=some (some (.builtin "object.__class__"))
 hn:PySem.W.specialIn K (.builtin "object.__class__") "__get__"=some (some (.builtin "getset_descriptor.__get__"))
 tk:PySem.W.takesIn K (.builtin "object.__class__")=some true
theorem hZ.find {K:PySem.W.Frag} {C:Addr} (i:hZ K C) (od:Option Obj):PySem.W.findObj K C od "__class__"=some (.bind (.builtin "getset_descriptor.__get__") (.builtin "object.__class__")):=by
 obtain ⟨cd,hc,_⟩:=PySem.W.any_some i.cl.ov
 unfold PySem.W.findObj
 rw [hc,Option.bind_some,i.ha,Option.bind_some]
 simp [i.hn,i.tk]
inductive TyD (K:PySem.W.Frag):D->Value->Prop
 |non:TyD K .non (.type "NoneType")
 |bl (b:Bool):TyD K (.bl b) (.type "bool")
 |int (i:Int):TyD K (.int i) (.type "int")
 |str (x:Str):TyD K (.str x) (.type "str")
 |tup (xs:List D):TyD K (.tup xs) (.type "tuple")
 |lst (xs:List D):TyD K (.lst xs) (.type "list")
 |ins {C:Addr} (fs:List (Str×D)) (i:Isi K C):TyD K (.ins C fs) (.ref C)
 |exc {C:Addr} (fs:List (Str×D)) (i:hZ K C):TyD K (.exc C fs) (.ref C)
 |dct (kvs:List (D×D)):TyD K (.dct kvs) (.type "dict")
 |pdc (es:List (PK×D)):TyD K (.pdc es) (.type "dict")
theorem tf {pins:List (Addr×Obj)} {σ:St} {H:Hp} {s:Shared} {S:Ad} {v:V} {u t:Value} (I:Inv X pins σ H s) (r:Rds X.K H S d v) (rv:RelV v u) (ty:TyD X.K d t):
  ∃Hh:Heap->Prop,PySem.W.KitX X.K u t Hh∧Hh s.heap∧u≠.builtin "__main__.__loader__#opaque":=by
 cases ty with
 |non=>cases r;cases (show u=Value.none from rv);exact ⟨_,PySem.W.kitx_none,True.intro,fun z=>nomatch z⟩
 |bl b=>cases r;cases (show u=Value.bool b from rv);exact ⟨_,PySem.W.kitx_bool,True.intro,fun z=>nomatch z⟩
 |int i=>cases r;obtain ⟨t,q⟩:=(show ∃t,u=Value.int i t from rv);cases q;exact ⟨_,PySem.W.kitx_int,True.intro,fun z=>nomatch z⟩
 |str x=>cases r;obtain ⟨t,q⟩:=(show ∃t,u=Value.str x t from rv);cases q;exact ⟨_,PySem.W.kitx_str,True.intro,fun z=>nomatch z⟩
 |tup xs=>
  obtain ⟨a,vs,rfl,h,_⟩:=r.dQ
  cases (show u=Value.ref a from rv)
  obtain ⟨its,_,⟨o,h1,h2,_⟩,_⟩:=I.tuple (.inl (.inl h))
  exact ⟨_,PySem.W.kitx_tuple,⟨o,h1,h2⟩,fun z=>nomatch z⟩
 |lst xs=>
  obtain ⟨a,vs,rfl,h,_⟩:=r.g_
  cases (show u=Value.ref a from rv)
  obtain ⟨its,_,⟨o,n,h1,h2,_⟩,_⟩:=I.list h
  exact ⟨_,PySem.W.kitx_list,⟨o,h1,h2⟩,fun z=>nomatch z⟩
 |@ins C fs i=>
  obtain ⟨a,dx,gs,rfl,h,_⟩:=r.gc
  cases (show u=Value.ref a from rv)
  obtain ⟨mA,O,_⟩:=gI I.hok h
  obtain ⟨od,J,_⟩:=O.look
  exact ⟨_,PySem.W.kitx_own (i.cl.get _) i.cl.hd i.ha i.hn i.tk i.mr,J,fun z=>nomatch z⟩
 |@exc C fs i=>
  cases r with
  |@fH fr a _ h n=>
   cases (show u=Value.ref a from rv)
   obtain ⟨vs,h1,_⟩:=eG (I.hok a _ h)
   exact ⟨_,lF (ox:=⟨.ref C,none,.fields vs,#[]⟩) (od:=none) i.cl (i.find none),⟨h1,rfl,rfl,trivial⟩,fun z=>nomatch z⟩
  |@exc fr a _ dx _ gs h h2 n n2 rf=>
   cases (show u=Value.ref a from rv)
   obtain ⟨vs,mA,odd,h1,_,_,_,J,_⟩:=tI I h h2
   exact ⟨_,lF i.cl (i.find _),J,fun z=>nomatch z⟩
 |dct kvs=>
  cases r with
  |@dK a ks _ h _ _ _=>
   cases (show u=Value.ref a from rv)
   obtain ⟨_,_,_,_,o,_,_,h1,h2,_⟩:=I.hok a _ h
   exact ⟨_,PySem.W.kitx_dict,⟨o,h1,h2.1⟩,fun z=>nomatch z⟩
 |pdc es=>
  cases r with
  |@dP a ep ks _ h _ _=>
   cases (show u=Value.ref a from rv)
   obtain ⟨_,_,_,_,o,_,h1,h2,_⟩:=zK I.hok h
   exact ⟨_,PySem.W.kitx_dict,⟨o,h1,h2.1⟩,fun z=>nomatch z⟩
inductive ClD:D->Value->Prop
 |ty (n:String):ClD (.ty n) (.type n)
 |cl (C:Addr):ClD (.cl C) (.ref C)
inductive h_:List D->List Value->Prop
 |nil:h_ [] []
 |cons {d:D} {c:Value} {ds:List D} {cs:List Value}:ClD d c->h_ ds cs->h_ (d::ds) (c::cs)
theorem ClD.val {K:PySem.W.Frag} {H:Hp} {S:Ad} {v:V} {u c:Value} (h:ClD d c) (r:Rds K H S d v) (rv:RelV v u):u=c:=by
 cases h with
 |ty n=>cases r;exact rv
 |cl C=>cases r;exact rv
theorem h_.vals {K:PySem.W.Frag} {H:Hp} {S:Ad}:∀{ds:List D} {vs:List V} {us cs:List Value},h_ ds cs->ae K H S ds vs->Vals vs us->us=cs
 |_,_,_,_,.nil,.nil,.nil=>rfl
 |_,_,_,_,.cons h t,.cons r rt,.cons q qt=>by rw [h.val r q,h_.vals t rt qt]
theorem j4 {t:TA} {R:V->V->Hp->VK->Prop} (hR:∀(pins:List (Addr×Obj)) (s:Shared) (σ:St) (H:Hp) (x y:V) (u c:Value) (Q:VK),Inv X pins σ H s->RelV x u->RelV y c->R x y H Q->wpAny (model X.prog X.w) X.A (call (.builtin "isinstance") [u,c]) (EP X pins σ Q) X.xe s):
  dA X (.builtin "isinstance") (fun xs H Q=>∃x y,xs=[x,y]∧R x y H Q):=by
 intro pins s σ H xs us Q I r h
 obtain ⟨x,y,rfl,q⟩:=h
 cases r with
 |cons r1 r2=>
  cases r2 with
  |cons r2 r3=>
   cases r3
   exact hR pins s σ H x y _ _ Q I r1 r2 q
theorem yM {t c:Value} {q:Bool} {dc:D} (hg:Gl X "isinstance") (hm:X.mg "isinstance"=none) (ty:TyD X.K d t) (cl:ClD dc c) (hk:PySem.W.kitOne X.K t c=some q) (ha:DA X ρ [a,b] [d,dc])
  (he:starEach [a,b] X.env=(false,eval a X.env)::starEach [b] X.env:=by rfl) (hpl:(backTo pos (starEach [b] X.env)).any (·.1)=false:=by rfl):DE X ρ (.Call (.Name "isinstance" p) [a,b] [] pos) (.bl q):=by
 refine eE (j4 (t:=nZ) (R:=fun x y H Q=>∃S,Rds X.K H S d x∧Rds X.K H S dc y∧Q (.bl q) H) ?_) (fun vs H S Q rs dm k=>?_) hg hm eI ha (by decide) (by decide) he hpl
 ·intro pins s σ H x y u cv Q I rx ry ⟨S,r1,r2,qq⟩
  obtain ⟨Hh,Z,hh,hx⟩:=tf I r1 rx ty
  rw [cl.val r2 ry]
  exact PySem.W.kia_one Z I.kIn hh hk hx fun tk=>⟨.bl q,H,I.tok tk,rfl,qq⟩
 ·obtain ⟨v,u,rfl,r1,r2⟩:=rs.two
  exact ⟨v,u,rfl,S,r1,r2,k _ H Ext.refl (.bl _)⟩
theorem uH {t:Value} {cs:List Value} {q:Bool} {dcs:List D} (hg:Gl X "isinstance") (hm:X.mg "isinstance"=none) (ty:TyD X.K d t) (cl:h_ dcs cs) (hk:PySem.W.kitAny X.K t cs=some q) (ha:DA X ρ [a,b] [d,.tup dcs])
  (he:starEach [a,b] X.env=(false,eval a X.env)::starEach [b] X.env:=by rfl) (hpl:(backTo pos (starEach [b] X.env)).any (·.1)=false:=by rfl):DE X ρ (.Call (.Name "isinstance" p) [a,b] [] pos) (.bl q):=by
 refine eE (j4 (t:=nZ) (R:=fun x y H Q=>∃S,Rds X.K H S d x∧Rds X.K H S (.tup dcs) y∧Q (.bl q) H) ?_) (fun vs H S Q rs dm k=>?_) hg hm eI ha (by decide) (by decide) he hpl
 ·intro pins s σ H x y u cv Q I rx ry ⟨S,r1,r2,qq⟩
  obtain ⟨Hh,Z,hh,hx⟩:=tf I r1 rx ty
  obtain ⟨tp,us,rfl,h2,rl⟩:=r2.dQ
  cases (show cv=Value.ref tp from ry)
  obtain ⟨its,rv,⟨⟨oc,od,odt,osl⟩,h3,h4,n,h5⟩,_⟩:=I.tuple (.inl (.inl h2))
  simp only at h4 h5
  subst h4 h5
  rw [←cl.vals rl rv] at hk
  exact PySem.W.kia_tup Z I.kIn hh h3 hk hx fun tk=>⟨.bl q,H,I.tok tk,rfl,qq⟩
 ·obtain ⟨v,u,rfl,r1,r2⟩:=rs.two
  exact ⟨v,u,rfl,S,r1,r2,k _ H Ext.refl (.bl _)⟩
mutual
noncomputable def toPy:D->PyData
 |.non=>.none|.bl b=>.bool b|.int i=>.int i|.str x=>.str x
 |.tup xs=>.tuple (d4 xs)|.lst xs=>.list (d4 xs)
 |.ins _ _=>.none|.ty _=>.none|.cl _=>.none|.exc _ _=>.none|.dct _=>.none|.pdc _=>.none
noncomputable def d4:List D->List PyData
 |[]=>[]
 |x::xs=>toPy x::d4 xs
end
mutual
noncomputable def aZ:D->Bool
 |.non=>true|.bl _=>true|.int _=>true|.str x=>PyData.strOk x
 |.tup xs=>b6 xs|.lst xs=>b6 xs
 |.ins _ _=>false|.ty _=>false|.cl _=>false|.exc _ _=>false|.dct _=>false|.pdc _=>false
noncomputable def b6:List D->Bool
 |[]=>true
 |x::xs=>aZ x&&b6 xs
end
mutual
theorem fe:∀{d:D},aZ d=true->(toPy d).canLay0=true
 |.non,_=>rfl
 |.bl _,_=>rfl
 |.int _,_=>rfl
 |.str x,h=>h
 |.tup xs,h=>ik (xs:=xs) h
 |.lst xs,h=>ik (xs:=xs) h
 |.ins _ _,h=>nomatch h
 |.exc _ _,h=>nomatch h
 |.dct _,h=>nomatch h
 |.pdc _,h=>nomatch h
 |.ty _,h=>nomatch h
 |.cl _,h=>nomatch h
theorem ik:∀{xs:List D},b6 xs=true->PyData.canLayAll0 (d4 xs)=true
 |[],_=>rfl
 |x::xs,h=>by
  have h':aZ x=true∧b6 xs=true:=by simpa [b6] using h
  show (PyData.canLay0 (toPy x)&&PyData.canLayAll0 (d4 xs))=true
  rw [fe h'.1,ik h'.2];rfl
end
section
variable {pins:List (Addr×Obj)} {σ:St} {H:Hp} {s:Shared} {S:Ad}
mutual
theorem fy (I:Inv X pins σ H s):∀(d:D) {v:V} {u:Value},aZ d=true->Rds X.K H S d v->RelV v u->∃as,Reads s.heap u (toPy d) as
 |.non,_,u,_,r,q=>by cases r;cases (show u=Value.none from q);exact ⟨_,.none⟩
 |.bl b,_,u,_,r,q=>by cases r;cases (show u=Value.bool b from q);exact ⟨_,.bool b⟩
 |.int i,_,u,_,r,q=>by cases r;obtain ⟨t,q⟩:=(show ∃t,u=Value.int i t from q);cases q;exact ⟨_,.int i t⟩
 |.str x,_,u,_,r,q=>by cases r;obtain ⟨t,q⟩:=(show ∃t,u=Value.str x t from q);cases q;exact ⟨_,.str x t⟩
 |.tup xs,_,u,hd,r,q=>by
  obtain ⟨a,vs,rfl,h,rl⟩:=r.dQ
  cases (show u=Value.ref a from q)
  obtain ⟨its,rv,⟨o,h1,h2,k,h3⟩,_⟩:=I.tuple (.inl (.inl h))
  obtain ⟨as,ra⟩:=iA I xs hd rl rv
  exact ⟨_,.tuple h1 h2 h3 ra⟩
 |.lst xs,_,u,hd,r,q=>by
  obtain ⟨a,vs,rfl,h,rl⟩:=r.g_
  cases (show u=Value.ref a from q)
  obtain ⟨its,rv,⟨o,k,h1,h2,_,h3⟩,_⟩:=I.list h
  obtain ⟨as,ra⟩:=iA I xs hd rl rv
  exact ⟨_,.list h1 h2 h3 ra⟩
 |.ins _ _,_,_,h,_,_=>nomatch h
 |.exc _ _,_,_,h,_,_=>nomatch h
 |.dct _,_,_,h,_,_=>nomatch h
 |.pdc _,_,_,h,_,_=>nomatch h
 |.ty _,_,_,h,_,_=>nomatch h
 |.cl _,_,_,h,_,_=>nomatch h
theorem iA (I:Inv X pins σ H s):∀(ds:List D) {vs:List V} {us:List Value},b6 ds=true->ae X.K H S ds vs->Vals vs us->∃as,ReadsAll s.heap us (d4 ds) as
 |[],_,_,_,r,q=>by cases r;cases q;exact ⟨_,.nil⟩
 |d::ds,_,_,hd,r,q=>by
  cases r with
  |cons r t=>
   cases q with
   |cons q qt=>
    have h':aZ d=true∧b6 ds=true:=by simpa [b6] using hd
    obtain ⟨as,ra⟩:=fy I d h'.1 r q
    obtain ⟨bs,rb⟩:=iA I ds h'.2 t qt
    exact ⟨_,.cons ra rb⟩
end
end
noncomputable def eqD (d d':D):Bool:=PyData.eqv (toPy d) (toPy d')
theorem pq {hu:X.A.units+64<cLine} (h1:aZ da=true) (h2:aZ db=true) (hd:min (toPy da).depth (toPy db).depth<=64):OpR X (compareOp .Eq) (fun x y H Q=>∃S,Rds X.K H S da x∧Rds X.K H S db y∧Q (.bl (eqD da db)) H):=by
 intro pins s σ H x y v u Q I rx ry ⟨S,r1,r2,q⟩
 obtain ⟨as,ra⟩:=fy I _ h1 r1 rx
 obtain ⟨bs,rb⟩:=fy I _ h2 r2 ry
 exact SeqAt.compareEq_reads ra rb (fe h1) (fe h2) (Nat.lt_of_le_of_lt (Nat.add_le_add_left hd _) hu) ⟨.bl _,H,I,rfl,q⟩
theorem qx {hu:X.A.units+64<cLine} (h1:aZ da=true) (h2:aZ db=true) (hd:min (toPy da).depth (toPy db).depth<=64):OpR X (compareOp .NotEq) (fun x y H Q=>∃S,Rds X.K H S da x∧Rds X.K H S db y∧Q (.bl (!eqD da db)) H):=by
 intro pins s σ H x y v u Q I rx ry ⟨S,r1,r2,q⟩
 obtain ⟨as,ra⟩:=fy I _ h1 r1 rx
 obtain ⟨bs,rb⟩:=fy I _ h2 r2 ry
 exact SeqAt.compareNe_reads ra rb (fe h1) (fe h2) (Nat.lt_of_le_of_lt (Nat.add_le_add_left hd _) hu) ⟨.bl _,H,I,rfl,q⟩
theorem xg (hu:X.A.units+64<cLine) (h1:aZ da=true) (h2:aZ db=true) (hd:min (toPy da).depth (toPy db).depth<=64) (ha:DE X ρ a da) (hb:DE X ρ b db):DE X ρ (.Compare a [.Eq] [b] pos) (.bl (eqD da db)):=
 bL (pq (hu:=hu) h1 h2 hd) (fun x y H S Q rx ry dm k=>⟨S,rx,ry,k _ H Ext.refl (.bl _)⟩) ha hb (aN _)
theorem yH (hu:X.A.units+64<cLine) (h1:aZ da=true) (h2:aZ db=true) (hd:min (toPy da).depth (toPy db).depth<=64) (ha:DE X ρ a da) (hb:DE X ρ b db):DE X ρ (.Compare a [.NotEq] [b] pos) (.bl (!eqD da db)):=
 bL (qx (hu:=hu) h1 h2 hd) (fun x y H S Q rx ry dm k=>⟨S,rx,ry,k _ H Ext.refl (.bl _)⟩) ha hb (aN _)
theorem yi (hu:X.A.units+64<cLine) (h1:aZ da=true) (h2:aZ db=true) (hd:min (toPy da).depth (toPy db).depth<=64) (ha:DE X ρ a da) (hb:DE X ρ b db):DT X ρ (.Compare a [.Eq] [b] pos) (eqD da db):=
 bK (pq (hu:=hu) h1 h2 hd) (fun x y H S Q rx ry dm k=>⟨S,rx,ry,k _ H Ext.refl (.bl _)⟩) ha hb (aN _)
theorem wB (hu:X.A.units+64<cLine) (h1:aZ da=true) (h2:aZ db=true) (hd:min (toPy da).depth (toPy db).depth<=64) (ha:DE X ρ a da) (hb:DE X ρ b db):DT X ρ (.Compare a [.NotEq] [b] pos) (!eqD da db):=
 bK (qx (hu:=hu) h1 h2 hd) (fun x y H S Q rx ry dm k=>⟨S,rx,ry,k _ H Ext.refl (.bl _)⟩) ha hb (aN _)
end
end CT
namespace CT
open PySem PySem.Spec L2
open PyProof.Rows hiding St
noncomputable def ig (scope sc:Scope):Scope:={scope with names:=scope.names.map fun (n,k)=>if (k==.free&&sc.kind==.function&&sc.names.lookup n==some .cell) then (n,.cell) else (n,k)}
noncomputable def n6 (scope:Scope) (own:List Str) (cap:List (Str×Nat)) (sc:Scope) (N:List Str):Bool:=
 decide (scope.kind=.function)&&decide ((scope.names.map (·.1)).Nodup)&&(scope.names.all fun x=>x.2 !=.free||sc.names.lookup x.1==some .cell||sc.names.lookup x.1==some .free)&&
  (own.all fun x=>scope.names.contains (x,.local)||scope.names.contains (x,.cell))&&(cap.all fun p=>N[p.2]?==some p.1&&scope.names.contains (p.1,.free))&&decide ((own++cap.map (·.1)).Nodup)
theorem CS.of {X:Cx} {scope:Scope} {own:List Str} {cap:List (Str×Nat)} (sc:Scope) (N:List Str) (h1:X.env.scope=sc) (h2:X.N=N) (h:n6 scope own cap sc N=true):CS X scope own cap:=by
 unfold n6 at h
 simp only [Bool.and_eq_true,decide_eq_true_eq,List.all_eq_true,Bool.or_eq_true,beq_iff_eq,bne_iff_ne,ne_eq,List.contains_iff_mem] at h
 obtain ⟨⟨⟨⟨⟨a1,a2⟩,a3⟩,a4⟩,a5⟩,a6⟩:=h
 subst h2
 refine ⟨a1,a2,fun x hx e=>?_,a4,a5,a6⟩
 show X.env.scope.names.lookup x.1=_∨X.env.scope.names.lookup x.1=_
 rw [h1]
 rcases a3 x hx with (z|z)|z
 ·exact absurd e z
 ·exact .inl z
 ·exact .inr z
theorem ki:∀{ks ns:List Int},bo (ks.map .int) (ns.map .int)=(ks.zip ns).map fun p=>.tup [.int p.1,.int p.2]
 |[],_=>by simp [bo]
 |_::_,[]=>by simp [bo]
 |k::ks,n::ns=>by simp [bo,ki]
noncomputable def bj (n:Int):List Int:=(List.range n.toNat).map fun k:Nat=>(k:Int)
theorem p8 (n:Int):iq n.toNat=(bj n).map D.int:=by simp [iq,bj]
theorem j6 (n:Nat):(bj n).length=n:=by simp [bj]
theorem jR {n k:Int} (h:k∈bj n):0<=k∧k<n:=by
 obtain ⟨i,hi,rfl⟩:=List.mem_map.mp h
 have:=List.mem_range.mp hi
 omega
theorem pY {X:Cx} {tg a:Expr} {ρ:Rho} {j:Int} {p pos:Pos} (hg:Gl X "range") (hm:X.mg "range"=none) (ha:DA X ρ [a] [.int j]) (h1: -(2^62)<=j) (h2:j<2^62) (hs:starEach [a] X.env=[(false,eval a X.env)]:=by rfl):DI X tg ρ (.Call (.Name "range" p) [a] [] pos) ((bj j).map D.int):=by
 rw [←p8]
 exact rA hg hm ha h1 h2 hs
noncomputable abbrev s_ (ns:List Int):List D:=ns.map .int
noncomputable abbrev tupI (ns:List Int):D:=.tup (ns.map .int)
noncomputable def Wk (ρ ρ':Rho):Prop:=ρ'.length=ρ.length∧∀(i:Nat) (x:Sl),ρ'[i]?=some x->x=.any∨ρ[i]?=some x
theorem Fm.wk {K:PySem.W.Frag} {H₀ H:Hp} {S₀ S:Ad} {ρ ρ':Rho} {σ:St} (w:Wk ρ ρ') (f:Fm K H₀ S₀ H S ρ σ):Fm K H₀ S₀ H S ρ' σ:=by
 have go:∀(i:Nat) (x:Sl),ρ'[i]?=some x->x.du->ρ[i]?=some x:=fun i x h o=>by
  rcases w.2 i x h with z|z
  ·rw [z] at o;exact o.elim
  ·exact z
 refine ⟨⟨w.1.trans f.ve.len,fun i x h=>?_,fun i j x y a hij h1 h2 o1 o2=>f.ve.dist i j x y a hij (go i x h1 o1) (go j y h2 o2) o1 o2,f.ve.dom⟩,f.ext,f.sub,f.new,f.dm,fun i x a h o=>f.own i x a (go i x h o) o⟩
 rcases w.2 i x h with z|z
 ·subst z
  have hi:=(List.getElem?_eq_some_iff.mp h).1
  have hi':i<σ.length:=by rw [←f.ve.len,←w.1];exact hi
  exact ⟨σ[i],by simp [hi'],trivial⟩
 ·exact f.ve.rel i x z
section
variable {X:Cx} {ρ ρ' ρ1:Rho} {sts:List Stmt} {st:Stmt} {o:Out}
theorem ju (w:Wk ρ ρ') (h:DSs X ρ' sts o):DSs X ρ sts o:=PSs.weak h fun E σ H ⟨H₀,S₀,S,f,k⟩=>⟨H₀,S₀,S,f.wk w,k⟩
end
mutual
noncomputable def aq:D->Bool
 |.non=>true|.bl _=>true|.int _=>true|.str _=>true|.ty _=>true|.cl _=>false
 |.tup xs=>bx xs|.lst _=>false|.ins _ fs=>fb fs|.exc _ _=>false|.dct _=>false|.pdc _=>false
noncomputable def bx:List D->Bool
 |[]=>true
 |x::xs=>aq x&&bx xs
noncomputable def fb:List (Str×D)->Bool
 |[]=>true
 |(_,x)::xs=>aq x&&fb xs
end
section
variable {K:PySem.W.Frag} {H:Hp} {S:Ad} {a:Addr} {us:List V} {o:HO}
noncomputable def fL (a:Addr) (o:HO):Prop:=(∃vs,o=.lst vs)∨∃ep kvs,o=PD a ep kvs
theorem fL.tup {b:Addr} {vs:List V} (c:fL a o) (ha:H a=some o) (e:H b=some (.tup vs)):b≠a:=fun q=>by
 rw [q,ha] at e
 rcases c with ⟨_,rfl⟩|⟨_,_,rfl⟩<;>cases e
theorem fL.ins {b C dx:Addr} {gs:List (Str×V)} (c:fL a o) (ha:H a=some o) (e:H b=some (.ins C dx gs)):b≠a:=fun q=>by
 rw [q,ha] at e
 rcases c with ⟨_,rfl⟩|⟨_,_,rfl⟩<;>cases e
mutual
theorem Rds.cP (cc:fL a o) (ha:H a=some o):∀(d:D) {v:V},aq d=true->Rds K H S d v->Rds K H (S.and a) d v
 |.non,_,_,r=>by cases r;exact .non
 |.bl b,_,_,r=>by cases r;exact .bl b
 |.int i,_,_,r=>by cases r;exact .int i
 |.str x,_,_,r=>by cases r;exact .str x
 |.ty n,_,_,r=>by cases r;exact .ty n
 |.cl _,_,h,_=>nomatch h
 |.lst _,_,h,_=>nomatch h
 |.exc _ _,_,h,_=>nomatch h
 |.dct _,_,h,_=>nomatch h
 |.pdc _,_,h,_=>nomatch h
 |.tup xs,_,h,r=>by
  cases r with
  |tup e n r=>exact .tup e (fun z=>z.elim n (cc.tup ha e)) (ae.cP cc ha xs h r)
 |.ins C fs,_,h,r=>by
  cases r with
  |ins e n r=>exact .ins e (fun z=>z.elim n (cc.ins ha e)) (aG.cP cc ha fs h r)
theorem ae.cP (cc:fL a o) (ha:H a=some o):∀(ds:List D) {vs:List V},bx ds=true->ae K H S ds vs->ae K H (S.and a) ds vs
 |[],_,_,r=>by cases r;exact .nil
 |d::ds,_,h,r=>by
  have h':aq d=true∧bx ds=true:=by simpa [bx] using h
  cases r with
  |cons r t=>exact .cons (Rds.cP cc ha d h'.1 r) (ae.cP cc ha ds h'.2 t)
theorem aG.cP (cc:fL a o) (ha:H a=some o):∀(ds:List (Str×D)) {vs:List (Str×V)},fb ds=true->aG K H S ds vs->aG K H (S.and a) ds vs
 |[],_,_,r=>by cases r;exact .nil
 |(n,d)::ds,_,h,r=>by
  have h':aq d=true∧fb ds=true:=by simpa [fb] using h
  cases r with
  |cons r t=>exact .cons (Rds.cP cc ha d h'.1 r) (aG.cP cc ha ds h'.2 t)
end
end
theorem c5:∀ks:List Int,bx (ks.map .int)=true
 |[]=>rfl
 |k::ks=>by show (true&&bx (ks.map .int))=true;rw [c5 ks];rfl
theorem VE.ub {K:PySem.W.Frag} {H:Hp} {S:Ad} {ρ:Rho} {σ:St} {i:Nat} {c:Ow} (f:VE K H S ρ σ) (hr:ρ[i]?=some (.owx c)):∃S' a o,H a=some o∧fL a o∧(∀b,S b->S' b∨b=a)∧VE K H S' (ρ.set i (.val c.D)) σ:=by
 obtain ⟨v,q1,a,vs,rfl,sa,ha,r⟩:=f.rel i _ hr
 have hi:=(List.getElem?_eq_some_iff.mp hr).1
 have own_ne:∀(m:Nat) (x:Sl) (c:Addr),i≠m->ρ[m]?=some x->x.du->σ[m]?=some (some (.ref c))->c≠a:=fun m x c hm h ho hs z=>f.dist i m _ x a hm hr h trivial ho q1 (by rw [hs,z])
 refine ⟨fun b=>S b∧b≠a,a,vs,ha,r.sort,fun b h=>(Classical.em (b=a)).elim .inr fun n=>.inl ⟨h,n⟩,⟨by simpa using f.len,fun j x h=>?_,fun j k x y b hjk h1 h2 o1 o2 h3=>?_,fun b h=>f.dom b h.1⟩⟩
 ·by_cases hj:i=j
  ·subst hj
   rw [List.getElem?_set_self hi] at h
   cases h
   exact ⟨_,q1,_,rfl,(r.av fun b h=>.inl h.1).rds ha fun z=>z.2 rfl⟩
  ·rw [List.getElem?_set_ne hj] at h
   obtain ⟨v,h1,h2⟩:=f.rel j x h
   refine ⟨v,h1,?_⟩
   cases x with
   |nil=>exact h2
   |any=>trivial
   |val d=>obtain ⟨u,p,r⟩:=h2;exact ⟨u,p,r.av fun b h=>.inl h.1⟩
   |owx zs=>exact RO.av (x:=.owx zs) (fun b h=>.inl h.1) (fun b z s=>⟨s,own_ne j _ b hj h trivial (by rw [h1,z])⟩) h2
   |new C y dx fs=>exact RO.av (x:=.new C y dx fs) (fun b h=>.inl h.1) (fun b z s=>⟨s,own_ne j _ b hj h trivial (by rw [h1,z])⟩) h2
 ·have n1:i≠j:=fun z=>by
   subst z
   rw [List.getElem?_set_self hi] at h1;cases h1;exact o1
  have n2:i≠k:=fun z=>by
   subst z
   rw [List.getElem?_set_self hi] at h2;cases h2;exact o2
  rw [List.getElem?_set_ne n1] at h1
  rw [List.getElem?_set_ne n2] at h2
  exact f.dist j k x y b hjk h1 h2 o1 o2 h3
theorem r_ {X:Cx} {ρ:Rho} {e:Expr} {d:D} {i:Nat} {c:Ow} (hr:ρ[i]?=some (.owx c)) (hf:aq d=true) (h:DE X (ρ.set i (.val c.D)) e d):DE X ρ e d:=PE.weak h fun σ H Q ⟨S,ve,k⟩=>by
 obtain ⟨S',a,us,ha,cc,hS,ve'⟩:=ve.ub hr
 refine ⟨S',ve',fun v H' ex r=>k v H' ex ?_⟩
 exact (Rds.cP cc (ex _ _ (fun z=>z) ha) d hf r).av fun b h=>.inl (hS b h)
end CT
namespace CT
open PySem PySem.Spec L2
open PyProof.Rows hiding St
theorem gx {α:Type} {a b c d e f x:α} (h:x∈[a,c,d,e,f]):x∈[a,b,c,d,e,f]:=by
 simp only [List.mem_cons,List.not_mem_nil,or_false] at h ⊢
 rcases h with h|h|h|h|h<;>simp [h]
theorem pj {P:Program} {w:World} {K:PySem.W.Frag} {elts:List Expr} {x1} {pos:Pos} {z TI TO i1 i2 i3 a1 a2 a3:Addr} {b1 b2 b3:Bool} (nd:[z,TI,TO,i1,i2,i3].Nodup):
  Turn P w K (.Tuple elts x1 pos) (xO K b1 b2 b3 a1 a2 a3) [z,TI,TO,i1,i2,i3] z
   (fun i h=>IsZip h z TI TO .none∧ar h TI #[.ref i1,.ref i2,.ref i3]∧(∃ts,ar h TO ts∧ts.size=3)∧Sit h b1 i1 a1 i∧Sit h b2 i2 a2 i∧Sit h b3 i3 a3 i) where
 mem:=by simp
 obj:=fun i h ⟨q1,q2,⟨ts,q3,_⟩,q4,q5,q6⟩ b hb=>by
  simp only [List.mem_cons,List.not_mem_nil,or_false] at hb
  rcases hb with rfl|rfl|rfl|rfl|rfl|rfl
  ·exact ⟨_,q1,fun v e=>by have e':Data.fields _=Data.cell v:=e;cases e'⟩
  ·exact ⟨_,q2,fun v e=>by have e':Data.seq _ _=Data.cell v:=e;cases e'⟩
  ·exact ⟨_,q3,fun v e=>by have e':Data.seq _ _=Data.cell v:=e;cases e'⟩
  ·obtain ⟨o,n,vs,e,_,d⟩:=q4.rec
   exact ⟨o,e,fun v e=>by rw [d] at e;cases e⟩
  ·obtain ⟨o,n,vs,e,_,d⟩:=q5.rec
   exact ⟨o,e,fun v e=>by rw [d] at e;cases e⟩
  ·obtain ⟨o,n,vs,e,_,d⟩:=q6.rec
   exact ⟨o,e,fun v e=>by rw [d] at e;cases e⟩
 keep:=fun i h h' ⟨q1,q2,⟨ts,q3,q3'⟩,q4,q5,q6⟩ k=>⟨k z (by simp) _ q1,k TI (by simp) _ q2,⟨ts,k TO (by simp) _ q3,q3'⟩,q4.at fun o e=>k i1 (by simp) o e,q5.at fun o e=>k i2 (by simp) o e,q6.at fun o e=>k i3 (by simp) o e⟩
 item:=by
  intro X hP hw hK hc i pins s σ H E I hf ⟨q1,q2,⟨ts,q3,q3'⟩,q4,q5,q6⟩ hg
  subst hP hw hK
  obtain ⟨xs,ys,us,x,y,u0,hx,hy,hu,ex,ey,eu0⟩:=hg
  obtain ⟨its,r1,p1,_⟩:=CT.Inv.sqb I hx
  obtain ⟨its2,r2,p2,_⟩:=CT.Inv.sqb I hy
  obtain ⟨its3,r3,p3,_⟩:=CT.Inv.sqb I hu
  obtain ⟨u,eu,ru⟩:=jg r1 ex
  obtain ⟨v,ev,rv⟩:=jg r2 ey
  obtain ⟨t,et,rt⟩:=jg r3 eu0
  have n1:a1∉[z,TO,i1,i2,i3]:=fun m=>CT.Inv.cH I hx (hf a1 (gx m)) rfl
  have n2:a2∉[z,TO,i1,i2,i3]:=fun m=>CT.Inv.cH I hy (hf a2 (gx m)) rfl
  have n3:a3∉[z,TO,i1,i2,i3]:=fun m=>CT.Inv.cH I hu (hf a3 (gx m)) rfl
  refine dW q1 (qu nd n1 n2 n3 q1 q2 q3 q3' q4 q5 q6 p1 p2 p3 eu ev et fun h' z1 z2 z3 z4 z4' z5 z6 kk=>?_)
  refine ⟨_,rfl,wpAny_letOwnedTupleGo_zip z1 fun h2 z1' sb=>?_⟩
  have nT:∀b∈[z,TI,TO,i1,i2,i3],b≠s.heap.objs.size:=fun b hb=>by
   simp only [List.mem_cons,List.not_mem_nil,or_false] at hb
   rcases hb with rfl|rfl|rfl|rfl|rfl|rfl
   ·exact Nat.ne_of_lt (Heap.lt_size q1)
   ·exact Nat.ne_of_lt (Heap.lt_size q2)
   ·exact Nat.ne_of_lt (Heap.lt_size q3)
   ·obtain ⟨o,n,vs,e,_,d⟩:=q4.rec;exact Nat.ne_of_lt (Heap.lt_size e)
   ·obtain ⟨o,n,vs,e,_,d⟩:=q5.rec;exact Nat.ne_of_lt (Heap.lt_size e)
   ·obtain ⟨o,n,vs,e,_,d⟩:=q6.rec;exact Nat.ne_of_lt (Heap.lt_size e)
  have nd':=nd
  simp only [List.nodup_cons,List.mem_cons,List.not_mem_nil,or_false,not_or,List.nodup_nil,and_true,not_false_eq_true] at nd'
  obtain ⟨⟨zTI,zTO,zi1,zi2,zi3⟩,⟨TITO,TIi1,TIi2,TIi3⟩,⟨TOi1,TOi2,TOi3⟩,⟨i12,i13⟩,i23⟩:=nd'
  have k2:∀c o,c∉[z,TO,i1,i2,i3]->s.heap.get? c=some o->h2.get? c=some o:=fun c o hc e=>sb.extBut c o (fun q=>hc (by simp [q])) (kk c o hc e)
  have I1:Inv X pins σ H {s with heap:=h2}:=CT.Inv.d8 (t':=s.toks) (ch:=[z,TO,i1,i2,i3]) I (fun b hb=>hf b (gx hb)) k2
  have hT:h2.get? s.heap.objs.size=some {cls:=.type "tuple",data:=.seq #[u,v,t]}:=sb.extBut _ _ (Ne.symm (nT z (by simp))) z5
  have I2:Inv X pins σ (upd H s.heap.objs.size (.tup [x,y,u0])) {s with heap:=h2}:=CT.Inv.adopt I1 (I.eR (Nat.le_refl _) (I.hok.fresh (Nat.le_refl _)))
   ⟨by show 3<=sizeLine;decide,[u,v,t],.cons ru (.cons rv (.cons rt .nil)),_,hT,rfl,_,rfl⟩
  refine ⟨.ref s.heap.objs.size,_,I2,rfl,⟨_,x,y,u0,I.hok.fresh (Nat.le_refl _),rfl,rfl,fun xs' h'=>by rw [CT.Inv.d9 I h' hx];exact ex,fun ys' h'=>by rw [CT.Inv.d9 I h' hy];exact ey,fun us' h'=>by rw [CT.Inv.d9 I h' hu];exact eu0⟩,?_,fun b hb=>?_⟩
  ·refine ⟨z1',k2 _ _ (by simp [Ne.symm zTI,TITO,TIi1,TIi2,TIi3]) q2,⟨#[u,v,t],sb.extBut _ _ (Ne.symm zTO) z2,rfl⟩,z3.at fun o e=>sb.extBut _ _ (Ne.symm zi1) e,z4.at fun o e=>sb.extBut _ _ (Ne.symm zi2) e,z4'.at fun o e=>sb.extBut _ _ (Ne.symm zi3) e⟩
  ·rw [ag (nT b hb)];exact (hf b hb).1
 done:=by
  intro X hP hw hK hc i pins s σ H E I hf ⟨q1,q2,⟨ts,q3,q3'⟩,q4,q5,q6⟩ hg
  subst hP hw hK
  obtain ⟨xs,ys,us,hx,hy,hu,he⟩:=hg
  obtain ⟨its,r1,p1,_⟩:=CT.Inv.sqb I hx
  obtain ⟨its2,r2,p2,_⟩:=CT.Inv.sqb I hy
  obtain ⟨its3,r3,p3,_⟩:=CT.Inv.sqb I hu
  have n1:a1∉[z,TO,i1,i2,i3]:=fun m=>CT.Inv.cH I hx (hf a1 (gx m)) rfl
  have n2:a2∉[z,TO,i1,i2,i3]:=fun m=>CT.Inv.cH I hy (hf a2 (gx m)) rfl
  have n3:a3∉[z,TO,i1,i2,i3]:=fun m=>CT.Inv.cH I hu (hf a3 (gx m)) rfl
  refine dW q1 (r8 (I.ok.hd hc) nd n1 n2 n3 q1 q2 q3 q3' q4 q5 q6 p1 p2 p3 (he.imp (jA r1) fun z=>z.imp (jA r2) (jA r3)) fun h' e kk ⟨o,ho,hcls⟩=>⟨e,o,rfl,ho,hcls,rfl,?_⟩)
  exact CT.Inv.d8 (t':=s.toks) (ch:=[z,TO,i1,i2,i3]) I (fun b hb=>hf b (gx hb)) kk
 self:=fun _ _ _ _ _ ⟨q1,_⟩ h=>wpAny_pyIter_zip q1 h
section
variable {X:Cx} {elts:List Expr} {tpos:Pos}
theorem uW {a b c:Expr} {ta:TA} {k} {p pos:Pos} (hg:Gl X "zip") (hm:X.mg "zip"=none) (ha:PA X [a,b,c] ta) (hs:starEach [a,b,c] X.env=[(false,eval a X.env),(false,eval b X.env),(false,eval c X.env)]:=by rfl)
  (hs2:starEach [b,c] X.env=[(false,eval b X.env),(false,eval c X.env)]:=by rfl):PI X (.Tuple elts k tpos) (.Call (.Name "zip" p) [a,b,c] [] pos) (zS X.K ta):=by
 intro pins s σ H R I h
 refine Call_ (dC I hg hm boot_zip (PyProof.Rows.callWith_type1 (thn (ha pos pins s σ H _ I h) fun us s1 ⟨vs,H1,I1,r1,q1⟩=>?_) (by rw [hs,hs2]) (by rw [hs2];rfl)))
 obtain ⟨b1,b2,b3,a1,a2,a3,xs,ys,us',e,hx,hy,hu,q⟩:=q1
 subst e
 cases r1 with
 |cons r rr=>
  cases rr with
  |cons r' rr=>
   cases rr with
   |cons r'' rr=>
    cases rr
    cases r
    cases r'
    cases r''
    obtain ⟨its,rv1,p1,_⟩:=CT.Inv.sqb I1 hx
    obtain ⟨its2,rv2,p2,_⟩:=CT.Inv.sqb I1 hy
    obtain ⟨its3,rv3,p3,_⟩:=CT.Inv.sqb I1 hu
    refine mZ p1 p2 p3 fun h' x1 x2 x3 x4 x5 x5' x6 x7=>?_
    refine wpAny_pyIter_zip x3 ?_
    refine ⟨_,_,_,_,H1,rfl,I1.kept (t':=s1.toks) x6,pj (TI:=s1.heap.objs.size+3) (TO:=s1.heap.objs.size+4) (i1:=s1.heap.objs.size) (i2:=s1.heap.objs.size+1) (i3:=s1.heap.objs.size+2) (by simp),⟨x3,x1,⟨_,x2,rfl⟩,x4,x5,x5'⟩,fun b hb=>?_,q⟩
    have hle:s1.heap.objs.size<=b:=by
     simp only [List.mem_cons,List.not_mem_nil,or_false] at hb
     rcases hb with rfl|rfl|rfl|rfl|rfl|rfl<;>omega
    exact I1.eR hle (I1.hok.fresh hle)
end
theorem ae.three {K:PySem.W.Frag} {H:Hp} {S:Ad} {d e f:D} {vs:List V} (r:ae K H S [d,e,f] vs):∃v u t,vs=[v,u,t]∧Rds K H S d v∧Rds K H S e u∧Rds K H S f t:=by
 cases r with|cons r t=>obtain ⟨u,w,rfl,q1,q2⟩:=t.two;exact ⟨_,_,_,rfl,r,q1,q2⟩
noncomputable def a8:List D->List D->List D->List D
 |x::xs,y::ys,z::zs=>.tup [x,y,z]::a8 xs ys zs
 |_,_,_=>[]
theorem jK:∀{xs ys zs:List D} {i:Nat} {d:D},(a8 xs ys zs)[i]?=some d->∃x y z,xs[i]?=some x∧ys[i]?=some y∧zs[i]?=some z∧d=.tup [x,y,z]
 |x::xs,y::ys,z::zs,0,d,h=>by
  simp [a8] at h
  exact ⟨x,y,z,rfl,rfl,rfl,h.symm⟩
 |x::xs,y::ys,z::zs,i+1,d,h=>by
  simp [a8] at h
  obtain ⟨x',y',z',h1,h2,h3,h4⟩:=jK h
  exact ⟨x',y',z',by simpa using h1,by simpa using h2,by simpa using h3,h4⟩
 |[],_,_,_,_,h=>by simp [a8] at h
 |_::_,[],_,_,_,h=>by simp [a8] at h
 |_::_,_::_,[],_,_,h=>by simp [a8] at h
theorem j_:∀{xs ys zs:List D},(a8 xs ys zs).length=min xs.length (min ys.length zs.length)
 |x::xs,y::ys,z::zs=>by simp [a8,j_]
 |[],_,_=>by simp [a8]
 |_::_,[],_=>by simp [a8]
 |_::_,_::_,[]=>by simp [a8]
section
variable {X:Cx} {ρ:Rho} {pos p tpos:Pos} {a b c:Expr}
theorem uM {da db dc:D} {xs ys zs:List D} {elts:List Expr} {k} (hg:Gl X "zip") (hm:X.mg "zip"=none) (qa:Sq da xs) (qb:Sq db ys) (qc:Sq dc zs) (ha:DA X ρ [a,b,c] [da,db,dc])
  (hs:starEach [a,b,c] X.env=[(false,eval a X.env),(false,eval b X.env),(false,eval c X.env)]:=by rfl) (hs2:starEach [b,c] X.env=[(false,eval b X.env),(false,eval c X.env)]:=by rfl):DI X (.Tuple elts k tpos) ρ (.Call (.Name "zip" p) [a,b,c] [] pos) (a8 xs ys zs):=
 PI.weak (uW hg hm ha hs hs2) fun σ H R ⟨S,ve,kk⟩=>⟨S,ve,fun vs H' ex rs=>by
  obtain ⟨v,u,t,rfl,r1,r2,r3⟩:=rs.three
  obtain ⟨b1,a1,vs1,rfl,l1⟩:=qa.later r1
  obtain ⟨b2,a2,vs2,rfl,l2⟩:=qb.later r2
  obtain ⟨b3,a3,vs3,rfl,l3⟩:=qc.later r3
  refine ⟨b1,b2,b3,a1,a2,a3,vs1,vs2,vs3,rfl,(l1 H' S Ext.refl fun a h=>.inl h).1,(l2 H' S Ext.refl fun a h=>.inl h).1,(l3 H' S Ext.refl fun a h=>.inl h).1,kk _ H' ex fun H2 S2 e2 z2 dm i=>?_⟩
  obtain ⟨s1,t1⟩:=l1 H2 S2 e2 z2
  obtain ⟨s2,t2⟩:=l2 H2 S2 e2 z2
  obtain ⟨s3,t3⟩:=l3 H2 S2 e2 z2
  refine ⟨fun d hd=>?_,fun hi=>⟨vs1,vs2,vs3,s1,s2,s3,?_⟩⟩
  ·obtain ⟨x,y,z,hx,hy,hz,rfl⟩:=jK hd
   obtain ⟨x',hx',rx⟩:=t1.get hx
   obtain ⟨y',hy',ry⟩:=t2.get hy
   obtain ⟨z',hz',rz⟩:=t3.get hz
   refine ⟨⟨vs1,vs2,vs3,x',y',z',s1,s2,s3,hx',hy',hz'⟩,fun w H3 yl=>?_⟩
   obtain ⟨T,x2,y2,w2,hT,rfl,rfl,g1,g2,g3⟩:=yl
   have e1:=g1 vs1 s1
   have e2':=g2 vs2 s2
   have e3':=g3 vs3 s3
   rw [hx'] at e1;cases e1
   rw [hy'] at e2';cases e2'
   rw [hz'] at e3';cases e3'
   exact ⟨Ext.new hT,Rds.dF dm hT (.cons rx (.cons ry (.cons rz .nil)))⟩
  ·have h1:=t1.length
   have h2:=t2.length
   have h3:=t3.length
   rw [j_] at hi
   omega⟩
end
inductive WhO (X:Cx) (c:Expr) (body:List Stmt):Nat->Rho->Out->Prop
 |stop {n:Nat} {ρ:Rho}:DT X ρ c false->WhO X c body n ρ (.nx ρ)
 |turn {n:Nat} {ρ ρ':Rho} {o:Out}:DT X ρ c true->DSs X ρ body (.nx ρ')->WhO X c body n ρ' o->WhO X c body (n+1) ρ o
 |ret {n:Nat} {ρ:Rho} {o:Out}:DT X ρ c true->DSs X ρ body o->o.ends->WhO X c body n ρ o
theorem rT {X:Cx} {c:Expr} {body:List Stmt} {n:Nat} {ρ:Rho} {o:Out} {pos:Pos} (hp:PassesOwn (model X.prog X.w) X.A X.env X.xe) (h:WhO X c body n ρ o):DS X ρ (.While c body [] pos) o:=by
 have pc:PT X c (ttA X.K fun ρ b=>DT X ρ c b):=fun pins s σ H Q I ⟨_,_,g,q⟩=>g pins s σ H Q I q
 refine PS.weak (so hp pc (gP (sts:=body))) ?_
 rintro E σ H ⟨H₀,S₀,S,f,k⟩
 refine ⟨fun m σ' H'=>∃S' ρ',Fm X.K H₀ S₀ H' S' ρ' σ'∧WhO X c body m ρ' o,⟨n,S,ρ,f,h⟩,?_⟩
 rintro m σ' H' ⟨S',ρ',f',hw⟩
 cases hw with
 |stop hc=>exact ⟨ρ',false,hc,S',f'.ve,fun H1 ex=>eQ (k σ' H1 S' (f'.grow ex))⟩
 |turn hc hb hr=>
  rename_i n ρ2
  refine ⟨ρ',true,hc,S',f'.ve,fun H1 ex=>ej ⟨fun σ2 H2=>∃S2,Fm X.K H₀ S₀ H2 S2 ρ2 σ2,fun σ2 H2 ⟨S2,f2⟩=>⟨n,Nat.lt_succ_self _,S2,ρ2,f2,hr⟩,ρ',_,hb,H₀,S₀,S',f'.grow ex,fun σ3 H3 S3 f3=>⟨S3,f3⟩⟩⟩
 |ret hc hb hend=>
  refine ⟨ρ',true,hc,S',f'.ve,fun H1 ex=>ej ⟨fun _ _=>False,fun _ _ z=>z.elim,ρ',o,hb,H₀,S₀,S',f'.grow ex,?_⟩⟩
  cases o with
  |nx _=>exact hend.elim
  |rt d=>exact k
  |rfx xs=>exact k
section
variable {X:Cx} {ρ:Rho} {e a b:Expr} {p pos:Pos} {da:D}
noncomputable def iZ (i j:Int):List Int:=(List.range (j - i).toNat).map fun k:Nat=>i+(k:Int)
theorem qs {tg:Expr} {i j:Int} (hg:Gl X "range") (hm:X.mg "range"=none) (ha:DA X ρ [a,b] [.int i,.int j]) (hb: -(2^62)<=i∧i<2^62∧ -(2^62)<=j∧j<2^62)
  (hs:starEach [a,b] X.env=[(false,eval a X.env),(false,eval b X.env)]:=by rfl) (hs2:starEach [b] X.env=[(false,eval b X.env)]:=by rfl):DI X tg ρ (.Call (.Name "range" p) [a,b] [] pos) ((iZ i j).map D.int):=
 PI.weak (qD hg hm ha hs hs2) fun σ H R ⟨S,ve,k⟩=>⟨S,ve,fun vs H' ex rs=>by
  obtain ⟨v,u,rfl,r1,r2⟩:=rs.two
  rw [r1.aU,r2.aU]
  refine ⟨i,j,rfl,hb,k _ H' ex fun H2 S2 e z dm m=>?_⟩
  refine ⟨fun d hd=>?_,fun hi=>show _<=m by simpa [iZ] using hi⟩
  have hm:m<(j - i).toNat:=by
   have:=(List.getElem?_eq_some_iff.mp hd).1
   simpa [iZ] using this
  refine ⟨hm,fun x H3 y=>?_⟩
  obtain ⟨e2,e3⟩:=y
  subst e2 e3
  have hd':d=.int (i+(m:Int)):=by
   rw [iZ,List.map_map,List.getElem?_map,List.getElem?_range hm] at hd
   exact (Option.some.inj hd).symm
  subst hd'
  exact ⟨Ext.refl,.int _⟩⟩
end
end CT
namespace CT
open PySem PySem.Spec L2
open PyProof.Rows hiding St
theorem Draws.Bq {prog:Program} {w:World} {A:Around} (hh:A.handled=none) (b:Bool) (it l:Addr) (hne:l≠it) (items:Array Value):
  Draws prog w A it [it,l] items.size (fun i v=>items[i]?=some v) (fun i h=>Sit h b it l i∧Ssq h b l items) where
 live:=fun _ _ st=>let ⟨o,_,_,ho,_⟩:=Sit.rec st.1;⟨o,ho⟩
 frame:=fun _ _ _ st hk=>⟨Sit.at st.1 fun o e=>hk it (by simp) o e,Ssq.at st.2 fun o e=>hk l (by simp) o e⟩
 item:=fun i s Q E hi st hQ=>bg st.1 st.2 (x:=items[i]) (by simp [hi]) fun h' a c=>hQ _ h' s.toks (by simp [hi]) ⟨a,Ssq.at st.2 fun o e=>c.extBut _ _ hne e⟩ c
 done:=fun s Q E st hE=>bX hh st.1 st.2 (by simp) hE
theorem nA (b:Bool) (a:Addr) (xs:Array Value):
  Meets (Builtin.«enumerate.__new__» ⟨[.type "enumerate",.ref a],[]⟩) (fun _ R s=>Ssq s.heap b a xs∧
   ∀h',IsEnum h' (s.heap.objs.size+1) s.heap.objs.size 0 .none->Sit h' b s.heap.objs.size a 0->(∀c o,s.heap.get? c=some o->h'.get? c=some o)->R (.ok (.ret (.ref (s.heap.objs.size+1)))) {s with heap:=h'}):=
 .of_wp fun prog w A R s h=>by
  obtain ⟨hp,g,d,tk,os⟩:=s;obtain ⟨hl,h⟩:=h
  have hsub:=sub_enumerate
  have hL:Ssq (Shared.heap ⟨hp,g,d,tk,os⟩) b a xs:=hl
  have fin:∀h2,h2=(hp.push (bf b a)).push {cls:=.type "enumerate",data:=.fields #[.none,.bool false,.ref hp.objs.size,rawInt 0,.none,.none]}->R (.ok (.ret (.ref (hp.push (bf b a)).objs.size))) ⟨h2,g,d,tk,os⟩:=fun h2 e=>by
   have z:=Heap.size_push hp (bf b a)
   have g5:=Heap.get?_push_size (hp.push (bf b a)) (o:={cls:=.type "enumerate",data:=.fields #[.none,.bool false,.ref hp.objs.size,rawInt 0,.none,.none]}) rfl
   rw [z] at g5 ⊢
   subst e
   exact h _ g5 (Sit.at (Sit.new (h:=hp) b a) fun o e=>Heap.get?_push_of_some _ e) fun c o e=>Heap.get?_push_of_some _ (Heap.get?_push_of_some _ e)
  have ho:∃o,hp.get? a=some o:=by cases b<;>exact let ⟨o,ho,_⟩:=hl;⟨o,ho⟩
  obtain ⟨o,ho⟩:=ho
  wp_walk using AutoSeq1.wpAny_loadPart' ho
  refine wpAny_stack_any fun st=>wpAny_pure ?_
  split
  ·rename_i c _ _ _ _ _
   cases (c==Value.type "enumerate")<;>(wp_walk using AutoSeq1.wpAny_loadPart' ho,cV hL;exact ⟨_,rfl,fin _ rfl⟩)
  ·wp_walk using AutoSeq1.wpAny_loadPart' ho,cV hL
   exact ⟨_,rfl,fin _ rfl⟩
theorem pR {prog:Program} {w:World} {A:Around} {E:Value->Shared->Prop} {s:Shared} {b:Bool} {a:Addr} {xs:Array Value} {Q:Value->Shared->Prop} (hl:Ssq s.heap b a xs)
  (h:∀h',IsEnum h' (s.heap.objs.size+1) s.heap.objs.size 0 .none->Sit h' b s.heap.objs.size a 0->(∀c o,s.heap.get? c=some o->h'.get? c=some o)->Q (.ref (s.heap.objs.size+1)) {s with heap:=h'}):
  wpAny (model prog w) A (call (.type "enumerate") [.ref a]) Q E s:=
 callType_new F.called_enumerate (by decide) (F.typeCall_enumerate_1 _) (F.newCall_enumerate_1 _) (fun obj=>F.args_object_init_2 obj _) F.entry_enumerate_new (nA b a xs)
  ⟨hl,fun h' q1 q2 q3=>⟨⟨_,q1,rfl⟩,h h' q1 q2 q3⟩⟩
theorem Draws.AF {prog:Program} {w:World} {A:Around} (hh:A.handled=none) (b:Bool) (it l:Addr) {items:Array Value} {n:Nat} (hx:items[n]?=none):
  Draws prog w A it [it,l] n (fun _ _=>False) (fun j h=>j=n∧Sit h b it l n∧Ssq h b l items) where
 live:=fun _ _ st=>let ⟨o,_,_,ho,_⟩:=Sit.rec st.2.1;⟨o,ho⟩
 frame:=fun _ _ _ st hk=>⟨st.1,Sit.at st.2.1 fun o e=>hk it (by simp) o e,Ssq.at st.2.2 fun o e=>hk l (by simp) o e⟩
 item:=fun i s Q E hi st hQ=>absurd (st.1▸hi) (Nat.lt_irrefl _)
 done:=fun s Q E st hE=>bX hh st.2.1 st.2.2 hx hE
noncomputable def Ite (K:PySem.W.Frag) (b:Bool) (a:Addr):It:=
 ⟨fun i H=>∃xs x,SqB K H b a xs∧xs[i]?=some x,
  fun i H v H'=>∃T x,H T=none∧v=.ref T∧H'=upd H T (.tup [.int (i:Int),x])∧∀xs,SqB K H b a xs->xs[i]?=some x,
  fun i H=>∃xs,SqB K H b a xs∧xs.length<=i⟩
theorem oZ {P:Program} {w:World} {K:PySem.W.Frag} {elts:List Expr} {x1} {pos:Pos} {b:Bool} {e it a:Addr} (hne:e≠it):
  Turn P w K (.Tuple elts x1 pos) (Ite K b a) [e,it] e (fun i h=>(∃old,IsEnum h e it i old)∧Sit h b it a i) where
 mem:=by simp
 obj:=fun i h ⟨⟨old,q1⟩,q2⟩ b hb=>by
  simp only [List.mem_cons,List.not_mem_nil,or_false] at hb
  rcases hb with rfl|rfl
  ·exact ⟨_,q1,fun v z=>by have z':Data.fields _=Data.cell v:=z;cases z'⟩
  ·obtain ⟨o,_,_,ho,_,hd⟩:=Sit.rec q2
   exact ⟨o,ho,fun v z=>by rw [hd] at z;cases z⟩
 keep:=fun i h h' ⟨⟨old,q1⟩,q2⟩ k=>⟨⟨old,k e (by simp) _ q1⟩,Sit.at q2 fun o ho=>k it (by simp) _ ho⟩
 item:=by
  intro X hP hw hK hc i pins s σ H E I hf ⟨⟨old,q1⟩,q2⟩ hg
  subst hP hw hK
  obtain ⟨xs,x,hx,ex⟩:=hg
  obtain ⟨its,r1,p1,_⟩:=CT.Inv.sqb I hx
  obtain ⟨u,eu,ru⟩:=jg r1 ex
  have hel:=Heap.lt_size q1
  have hil:it<s.heap.objs.size:=by obtain ⟨o,_,_,ho,_⟩:=Sit.rec q2;exact Heap.lt_size ho
  have nae:=CT.Inv.cH I hx (hf e (by simp))
  have nai:=CT.Inv.cH I hx (hf it (by simp))
  refine wpAny_pyNext_enum_itemD (Draws.Bq (A:=X.A.in1) (I.ok.hd hc) b it a nai its.toArray) q1 ⟨q2,p1⟩ (by obtain ⟨z,_⟩:=Array.getElem?_eq_some_iff.mp eu;exact z) hne (by simp [hne,Ne.symm nae]) fun u' h' tk eu' z1 z2 z3 z4 kk=>?_
  rw [eu] at eu';cases eu'
  refine ⟨_,rfl,wpAny_letOwnedTupleGo_enum (s:={s with heap:=h',toks:=tk+1}) z1 fun h2 z1' sb=>?_⟩
  have k2:∀c o,c∉[e,it]->s.heap.get? c=some o->h2.get? c=some o:=fun c o hc q=>sb.extBut c o (fun z=>hc (by simp [z])) (kk c o (fun z=>hc (by simp [z])) (fun z=>hc (by simp [z])) q)
  have I1:Inv X pins σ H {s with heap:=h2,toks:=tk+1}:=CT.Inv.d8 (t':=tk+1) (ch:=[e,it]) I hf k2
  have hT:h2.get? s.heap.objs.size=some {cls:=.type "tuple",data:=.seq #[.int i tk,u]}:=sb.extBut _ _ (Nat.ne_of_gt hel) z3
  have I2:Inv X pins σ (upd H s.heap.objs.size (.tup [.int (i:Int),x])) {s with heap:=h2,toks:=tk+1}:=CT.Inv.adopt I1 (I.eR (Nat.le_refl _) (I.hok.fresh (Nat.le_refl _)))
   ⟨by show 2<=sizeLine;decide,[.int i tk,u],.cons ⟨_,rfl⟩ (.cons ru .nil),_,hT,rfl,_,rfl⟩
  refine ⟨.ref s.heap.objs.size,_,I2,rfl,⟨_,x,I.hok.fresh (Nat.le_refl _),rfl,rfl,fun xs' h'=>by rw [CT.Inv.d9 I h' hx];exact ex⟩,⟨⟨_,by exact z1'⟩,Sit.at z2.1 fun o ho=>sb.extBut _ _ (Ne.symm hne) ho⟩,fun b hb=>?_⟩
  simp only [List.mem_cons,List.not_mem_nil,or_false] at hb
  rcases hb with rfl|rfl
  ·rw [ag (Nat.ne_of_lt hel)];exact (hf _ (by simp)).1
  ·rw [ag (Nat.ne_of_lt hil)];exact (hf _ (by simp)).1
 done:=by
  intro X hP hw hK hc i pins s σ H E I hf ⟨⟨old,q1⟩,q2⟩ hg
  subst hP hw hK
  obtain ⟨xs,hx,he⟩:=hg
  obtain ⟨its,r1,p1,_⟩:=CT.Inv.sqb I hx
  refine wpAny_pyNext_enum_endD (Draws.AF (A:=X.A.in1) (I.ok.hd hc) b it a (jA r1 he)) q1 ⟨rfl,q2,p1⟩ fun h' kk=>⟨rfl,?_⟩
  exact CT.Inv.d8 (t':=s.toks) (ch:=[e,it]) I hf fun b o hb q=>kk b o (fun z=>hb (by simp [z])) q
 self:=fun _ _ _ _ _ ⟨⟨old,q1⟩,_⟩ h=>wpAny_pyIter_enum q1 h
theorem boot_enumerate:bootBuiltins "enumerate"=some (.type "enumerate"):=by decide+kernel
noncomputable def zF (K:PySem.W.Frag) (t:TA):TI:=fun σ H R=>t σ H fun vs H1=>∃b a xs,vs=[.ref a]∧SqB K H1 b a xs∧R (Ite K b a) H1
theorem vN {X:Cx} {elts:List Expr} {tpos:Pos} {a:Expr} {ta:TA} {k} {p pos:Pos} (hg:Gl X "enumerate") (hm:X.mg "enumerate"=none) (ha:PA X [a] ta) (hs:starEach [a] X.env=[(false,eval a X.env)]:=by rfl):
  PI X (.Tuple elts k tpos) (.Call (.Name "enumerate" p) [a] [] pos) (zF X.K ta):=by
 intro pins s σ H R I h
 refine Call_ (dC I hg hm boot_enumerate (PyProof.Rows.callWith_type1 (thn (ha pos pins s σ H _ I h) fun us s1 ⟨vs,H1,I1,r1,q1⟩=>?_) (by rw [hs];rfl) rfl))
 obtain ⟨b,l,xs,rfl,hx,q⟩:=q1
 obtain ⟨its,rv,p1,_⟩:=CT.Inv.sqb I1 hx
 cases r1 with
 |cons r rr=>
  cases rr
  cases r
  refine pR p1 fun h' he hi hk=>?_
  refine wpAny_pyIter_enum he ?_
  refine ⟨_,_,_,_,H1,rfl,I1.kept (t':=s1.toks) hk,oZ (Nat.succ_ne_self _),⟨⟨_,he⟩,hi⟩,fun b hb=>?_,q⟩
  have hle:s1.heap.objs.size<=b:=by
   simp only [List.mem_cons,List.not_mem_nil,or_false] at hb
   rcases hb with rfl|rfl<;>omega
  exact I1.eR hle (I1.hok.fresh hle)
noncomputable def a_ (k:Nat):List D->List D
 |[]=>[]
 |x::xs=>.tup [.int (k:Int),x]::a_ (k+1) xs
theorem gv:∀{xs:List D} {k i:Nat} {d:D},(a_ k xs)[i]?=some d->∃x,xs[i]?=some x∧d=.tup [.int ((k+i:Nat):Int),x]
 |x::xs,k,0,d,h=>by
  simp [a_] at h
  exact ⟨x,rfl,h.symm⟩
 |x::xs,k,i+1,d,h=>by
  simp [a_] at h
  obtain ⟨x',h1,h2⟩:=gv h
  exact ⟨x',by simpa using h1,by rw [h2,show k+1+i=k+(i+1) by omega]⟩
 |[],_,_,_,h=>by simp [a_] at h
theorem gB:∀{xs:List D} {k:Nat},(a_ k xs).length=xs.length
 |[],_=>rfl
 |x::xs,k=>by simp [a_,gB]
theorem vw {X:Cx} {ρ:Rho} {a:Expr} {xs:List D} {elts:List Expr} {k} {tpos p pos:Pos} (hg:Gl X "enumerate") (hm:X.mg "enumerate"=none) {da:D} (qa:Sq da xs) (ha:DA X ρ [a] [da]) (hs:starEach [a] X.env=[(false,eval a X.env)]:=by rfl):
  DI X (.Tuple elts k tpos) ρ (.Call (.Name "enumerate" p) [a] [] pos) (a_ 0 xs):=
 PI.weak (vN hg hm ha hs) fun σ H R ⟨S,ve,kk⟩=>⟨S,ve,fun vs H' ex rs=>by
  obtain ⟨v,rfl,r⟩:=rs.one
  obtain ⟨b,l,us,rfl,l1⟩:=qa.later r
  refine ⟨b,l,us,rfl,(l1 H' S Ext.refl fun a h=>.inl h).1,kk _ H' ex fun H2 S2 e2 z2 dm i=>?_⟩
  obtain ⟨s1,t1⟩:=l1 H2 S2 e2 z2
  refine ⟨fun d hd=>?_,fun hi=>⟨us,s1,?_⟩⟩
  ·obtain ⟨x,hx,rfl⟩:=gv hd
   obtain ⟨x',hx',rx⟩:=t1.get hx
   refine ⟨⟨us,x',s1,hx'⟩,fun z H3 yl=>?_⟩
   obtain ⟨T,x2,hT,rfl,rfl,g1⟩:=yl
   have e1:=g1 us s1
   rw [hx'] at e1;cases e1
   rw [Nat.zero_add]
   exact ⟨Ext.new hT,Rds.dF dm hT (.cons (.int _) (.cons rx .nil))⟩
  ·have h1:=t1.length
   rw [gB] at hi
   omega⟩
end CT
namespace CT
open PySem PySem.Spec L2
open PyProof.Rows hiding St
section
variable {X:Cx} {ρ:Rho} {k:Nat} {f C:Addr} {fd:FuncData} {ps:List Str} {x:Str} {p pos:Pos} {e o a b:Expr} {es:List Expr} {ds xs ys:List D} {d:D}
theorem zA (hm:PySem.W.excIn X.K C bmV "ValueError.__new__"=true) (hk:PySem.W.keepIn X.K (.ref C)=true) (hg:Gl X x) (hx:X.mg x=some (.ref C)) (hdb:(x==("__debug__":Str))=false:=by decide):DE X ρ (.Call (.Name x p) [] [] pos) (.exc C []):=
 PE.weak (tN hm hk hg hx hdb) fun σ H Q ⟨S,ve,kk⟩ z hz=>kk _ _ (Ext.new hz) (.fH au (ve.dom.not hz))
theorem aG.zip {K:PySem.W.Frag} {H:Hp} {S:Ad}:∀{fls:List Str} {ds:List D} {vs:List V},ae K H S ds vs->aG K H S (fls.zip ds) (fls.zip vs)
 |[],_,_,_=>.nil
 |_::_,_,_,.nil=>.nil
 |f::fls,_,_,.cons r t=>.cons r (aG.zip t)
theorem yt {fls:List Str} (M:XMk X.K C f) (F:aA X.prog X.w X.K X.mg X.base CX0 k f fd ps (spX C fls)) (hr:ay (k+1) X.A) (hg:Gl X x) (hm:X.mg x=some (.ref C)) (hb:Binds X.K fd ps []) (ha:DA X ρ (e::es) ds) (hl:ds.length=fls.length) (hl2:ds.length<=1000)
  (hdb:(x==("__debug__":Str))=false:=by decide) (he:starEach (e::es) X.env=(false,eval e X.env)::starEach es X.env:=by rfl) (hpl:(backTo pos (starEach es X.env)).any (·.1)=false:=by rfl):
  DE X ρ (.Call (.Name x p) (e::es) [] pos) (.exc C (fls.zip ds)):=
 PE.weak (ql M F hr hg hm hb d3 ha hdb he hpl) fun σ H Q ⟨S,ve,kk⟩=>⟨S,ve,fun vs H1 ex r=>⟨by rw [←r.length];exact hl2,fun z hz=>⟨z,vs,rfl,by rw [←r.length];exact hl,au,fun dx H' hd hne h1 h2 h3=>⟨rfl,by
  have hd1:H1 dx=none:=by rw [ag hne] at hd;exact hd
  have dm:=(ve.ext ex).dom
  have e1:aF H1 H':=fun c u _ hc=>by rw [h3 c (aj hc hz) (aj hc hd1),ag (aj hc hz)];exact hc
  exact kk _ H' (ex.trans e1) (.exc h1 h2 (dm.not hz) (dm.not hd1) (aG.zip (r.ext (e1.to S))))⟩⟩⟩⟩
theorem vU {fs:List (Str×D)} {fl:Str} (ho:DE X ρ o (.exc C fs)) (c:b4 X.K C) (n:bp X.K C fl) (l:fs.lookup fl=some d) (hb:attributeBase o fl X.env (eval o X.env)=eval o X.env:=by rfl):DE X ρ (.Attribute o fl pos) d:=
 PE.weak (vT ho hb) fun σ H Q ⟨S,ve,kk⟩=>⟨S,ve,fun v H1 ex1 r1=>by
  cases r1 with
  |fH h n=>cases l
  |exc h h2 n1 n2 rf=>
   obtain ⟨u,hu,ru⟩:=rf.look l
   exact ⟨_,_,_,_,_,u,rfl,h,h2,c,n,hu,kk u H1 ex1 ru⟩⟩
theorem vR:OpR X (binaryOp .Add) (fun x y H Q=>∃a b us vs,x=.ref a∧y=.ref b∧SqL X.K H a us∧SqL X.K H b vs∧us.length+vs.length<=sizeLine∧∀z,H z=none->Q (.ref z) (upd H z (.lst (us++vs)))):=by
 intro pins s σ H x y v u Q I rx ry ⟨a,b,us,vs,ex,ey,h1,h2,hl,q⟩
 subst ex ey
 obtain rfl:v=Value.ref a:=rx
 obtain rfl:u=Value.ref b:=ry
 obtain ⟨i1,r1,p1,_⟩:=I.list h1
 obtain ⟨i2,r2,p2,_⟩:=I.list h2
 obtain ⟨⟨c,dd,dt,sl⟩,ho,hc,n,hd⟩:=p1.isList
 obtain ⟨⟨c2,dd2,dt2,sl2⟩,ho2,hc2,n2,hd2⟩:=p2.isList
 simp only at hc hd hc2 hd2
 subst hc hd hc2 hd2
 have l1:=r1.length
 have l2:=r2.length
 refine concat_meets ⟨_,ho,rfl⟩ ⟨_,ho2,rfl⟩ noFill_list_add seq_list_add PySem.F.slot_list_add PySem.F.entry_list_add (PySem.F.args_list_add_2 _ _) (list_addW a b i1.toArray i2.toArray n n2 dd dd2 sl sl2 (by simp;omega)) ⟨ho,ho2,?_⟩
 have e:i1.toArray++i2.toArray=(i1++i2).toArray:=by simp
 rw [e]
 refine ⟨.ref s.heap.objs.size,_,I.laid (o:=.lst (us++vs)) (t':=s.toks) (fun c w z=>Heap.get?_push_of_some _ z) (Nat.le_refl _) ⟨by rw [List.length_append];exact hl,i1++i2,_,r1.append r2,Heap.get?_push_size _ rfl⟩,rfl,q _ (I.hok.fresh (Nat.le_refl _))⟩
theorem uP (ha:DE X ρ a (.lst xs)) (hb:DE X ρ b (.lst ys)) (hl:xs.length+ys.length<=sizeLine):DE X ρ (.BinOp a .Add b pos) (.lst (xs++ys)):=
 c_ vR (fun x y H S Q rx ry dm k=>by
  obtain ⟨p,us,rfl,h1,r1⟩:=rx.g_
  obtain ⟨q,vs,rfl,h2,r2⟩:=ry.g_
  exact ⟨p,q,us,vs,rfl,rfl,h1,h2,by rw [←r1.length,←r2.length];exact hl,fun z hz=>k _ _ (Ext.new hz) (Rds.iX dm hz (r1.app r2))⟩) ha hb
end
end CT
namespace CT
open PySem PySem.Spec L2
open PyProof.Rows hiding St
noncomputable def lQ (K:PySem.W.Frag) (C:Addr):Bool:=PySem.W.hasDictIn K C&&(PySem.W.clsIn K C).any (fun cd=>i_ cd.mro)&&PySem.W.findIn K (.ref C) "__getattribute__"==some (some (.builtin "BaseException.__getattribute__"))&&
 PySem.W.findIn K (.ref C) "__getattr__"==some none&&PySem.W.findIn K (.ref C) "__setattr__"==some (some (.builtin "object.__setattr__"))&&PySem.W.findIn K (.ref C) "__class__"==some (some (.builtin "object.__class__"))&&
 PySem.W.specialIn K (.builtin "object.__class__") "__get__"==some (some (.builtin "getset_descriptor.__get__"))&&PySem.W.takesIn K (.builtin "object.__class__")==some true
theorem aW {K:PySem.W.Frag} {C:Addr} (h:lQ K C=true):hZ K C:=by
 unfold lQ at h
 simp only [Bool.and_eq_true,beq_iff_eq] at h
 obtain ⟨⟨⟨⟨⟨⟨⟨h1,h2⟩,h3⟩,h4⟩,h5⟩,h6⟩,h7⟩,h8⟩:=h
 exact ⟨⟨h1,h2,h3,h4,h5⟩,h6,h7,h8⟩
end CT
namespace CT
open PySem PySem.Spec L2
open PyProof.Rows hiding St
section
variable {X:Cx} {ρ:Rho} {a b e:Expr} {d:D} {pos:Pos}
theorem intBits_le {k:Int} {n:Nat} (h:k.natAbs<2^n):Builtin.Int.intBits k<=n:=by
 unfold Builtin.Int.intBits
 split
 ·exact Nat.zero_le _
 ·rename_i hk
  have hp:k.natAbs≠0:=fun z=>hk (by simp [Int.natAbs_eq_zero.mp z])
  have:=(Nat.log2_lt hp).mpr h
  omega
noncomputable def ja (i j:Int):Prop:=i.natAbs<2^100000∧j.natAbs<2^100000
theorem ja.ok {i j:Int} (h:ja i j):IntMulOk i j:=by
 have h1:=intBits_le h.1
 have h2:=intBits_le h.2
 have e:Builtin.Int.intTooBig (Builtin.Int.intBits i+Builtin.Int.intBits j)=false:=by
  unfold Builtin.Int.intTooBig bitsLine
  refine decide_eq_false ?_
  have:(2:Nat)^27=134217728:=by decide
  rw [this];omega
 unfold IntMulOk
 rw [e];simp
theorem u3:OpR X (binaryOp .Mult) (rI ja fun i j=>.int (i*j)):=opI fun _ _ _ _ _ _ _ hc q=>mul_int q hc.ok
theorem vk {i j:Int} (h:ja i j) (ha:DE X ρ a (.int i)) (hb:DE X ρ b (.int j)):DE X ρ (.BinOp a .Mult b pos) (.int (i*j)):=
 c_ u3 (fun x y H S Q rx ry dm k=>⟨i,j,rx.aU,ry.aU,h,k _ H Ext.refl (.int _)⟩) ha hb
end
end CT
namespace CT
open PySem PySem.Spec L2
open PyProof.Rows hiding St
noncomputable def tyN:D->Option String
 |.non=>some "NoneType"|.bl _=>some "bool"|.int _=>some "int"|.str _=>some "str"|.tup _=>some "tuple"|.lst _=>some "list"|.dct _=>some "dict"|.pdc _=>some "dict"
 |_=>none
noncomputable def oA (x:D) (c:String):Bool:=match tyN x with
 |some n=>n==c||(n=="bool"&&c=="int")
 |none=>false
section
variable {X:Cx} {ρ:Rho} {a b:Expr} {x:D} {p pos:Pos}
theorem A_ {K:PySem.W.Frag} {x:D} (hx:tyN x≠none):∃n,TyD K x (.type n)∧PySem.W.kitAny K (.type n) [.type "list",.type "tuple"]=some (oA x "list"||oA x "tuple"):=by
 cases x with
 |non=>exact ⟨_,.non,rfl⟩
 |bl b=>exact ⟨_,.bl b,rfl⟩
 |int i=>exact ⟨_,.int i,rfl⟩
 |str s=>exact ⟨_,.str s,rfl⟩
 |tup xs=>exact ⟨_,.tup xs,rfl⟩
 |lst xs=>exact ⟨_,.lst xs,rfl⟩
 |dct xs=>exact ⟨_,.dct xs,rfl⟩
 |pdc xs=>exact ⟨_,.pdc xs,rfl⟩
 |ins _ _=>exact absurd rfl hx
 |exc _ _=>exact absurd rfl hx
 |ty _=>exact absurd rfl hx
 |cl _=>exact absurd rfl hx
end
noncomputable def noStar:Expr->Bool
 |.Starred ..=>false
 |_=>true
theorem bC {e:Expr} {es:List Expr} {env:Env} (h:noStar e=true):starEach (e::es) env=(false,eval e env)::starEach es env:=by
 cases e<;>first|rfl|cases h
end CT
namespace CT
open PySem PySem.Spec PySem.W L2
open PyProof.Rows hiding St
section
open HT
variable {prog:Program} {w:World} {A:Around} {E:Value->Shared->Prop} {s:Shared}
theorem fY {t sl:Addr} {items:Array Value} {vl vu:Value} {lo hi:Option Int} {Q:Value->Shared->Prop} (ht:IsTup s.heap t items) (hs:s.heap.IsSliceOf sl vl vu .none) (pl:IsPart vl lo) (pu:IsPart vu hi)
  (hw:HT.sIx items.size 0 lo=0∧HT.sIx items.size items.size hi=items.size)
  (h:Q (.ref t) s):wpAny (model prog w) A (getItem (.ref t) (.ref sl)) Q E s:=by
 obtain ⟨os,hos,hcs,hds⟩:=id hs
 have hTs:s.TypeIs (.ref sl) "slice":=⟨os,hos,hcs⟩
 unfold getItem
 try with_reducible refine wpAny_holding ?_
 first|refine wpAny_bind (wpAny_pure ?_)|skip
 refine wpAny_bind (wpAny_sequenceKey ht.typeIs (by decide) ?_)
 refine wpAny_bind (wpAny_callSpecial?_slot (name:=Str.ofString "__getitem__") ht.typeIs PyProof.Rows.slot_tuple_getitem
  (wpAny_call_entry PyProof.Rows.slot_tuple_getitem ht.typeIs entry_tuple_getitem ?_ (args_tuple_getitem _ _)))
 show wpAny _ _ (Builtin.Tuple.tupleItemsOf (.ref t)>>=_) _ _ s
 refine wpAny_bind (tupleItemsOf_ ht ?_)
 refine wpAny_bind (wpAny_typeOf hTs ?_)
 rw [if_pos (by decide)]
 refine wpAny_bind (HT.eF hs pl pu ?_)
 have hyes:(((HT.sIx items.size 0 lo:Nat):Int)==0&&(1:Int)==1&&(HT.sIx items.size items.size hi - HT.sIx items.size 0 lo)==items.size)=true:=by
  rw [hw.1,hw.2];simp
 show wpAny _ _ (if (((HT.sIx items.size 0 lo:Nat):Int)==0&&(1:Int)==1&&(HT.sIx items.size items.size hi - HT.sIx items.size 0 lo)==items.size)=true then _ else _) _ _ s
 rw [if_pos hyes]
 refine wpAny_bind (m:=Builtin.Tuple.tupleIsExact (.ref t)) ?_
 unfold Builtin.Tuple.tupleIsExact
 refine wpAny_bind (wpAny_typeOf ht.typeIs ?_)
 refine wpAny_pure ?_
 rw [if_pos (by decide)]
 exact wpAny_bind (wpAny_rule (wpAny_pure ⟨_,rfl,wpAny_pure h⟩))
end
section
variable {X:Cx} {ρ:Rho} {a:Expr} {lo hi:Option Expr} {xs:List D} {l u:Option Int} {pos p2:Pos}
noncomputable def Bn (K:PySem.W.Frag):V->Option Int->Option Int->Hp->VK->Prop:=fun x lo hi H Q=>∃a xs,x=.ref a∧SqT K H a xs∧(HT.sIx xs.length 0 lo=0∧HT.sIx xs.length xs.length hi=xs.length)∧Q (.ref a) H
theorem sN:SlR X (Bn X.K):=by
 intro pins s σ H x v vl vu lo hi sl Q I rx hs pl pu h
 obtain ⟨a,xs,rfl,hx,hw,q⟩:=h
 cases rx
 obtain ⟨its,r,ht,hz⟩:=I.tuple hx
 have hlen:its.toArray.size=xs.length:=by rw [List.size_toArray];exact r.length.symm
 exact ⟨"tuple",_,PyProof.Rows.slot_tuple_getitem.lookup,ht.typeIs,fY ht hs pl pu (by rw [hlen];exact hw) ⟨.ref a,H,I,rfl,q⟩⟩
noncomputable def DO (X:Cx) (ρ:Rho) (e:Option Expr) (o:Option Int):Prop:=PO X e fun σ H Q=>∃S,VE X.K H S ρ σ∧∀H',aF H H'->Q o H'
theorem uQ:DO X ρ none none:=fun pins s σ H Q I ⟨S,ve,k⟩=>vg pins s σ H Q I (k H Ext.refl)
theorem vd {e:Expr} {i:Int} (h:DE X ρ e (.int i)):DO X ρ (some e) (some i):=fun pins s σ H Q I ⟨S,ve,k⟩=>uG h pins s σ H Q I ⟨S,ve,fun v H' e r=>⟨i,r.aU,k H' e⟩⟩
noncomputable def f6 (xs:List D) (lo hi:Option Int):List D:=(xs.drop (HT.sIx xs.length 0 lo)).take (HT.sIx xs.length xs.length hi - HT.sIx xs.length 0 lo)
theorem ae.drop' {K:PySem.W.Frag} {H:Hp} {S:Ad}:∀{xs:List D} {vs:List V} (n:Nat),ae K H S xs vs->ae K H S (xs.drop n) (vs.drop n)
 |_,_,0,h=>h
 |_,_,_+1,.nil=>.nil
 |_,_,n+1,.cons _ h=>ae.drop' n h
theorem ae.take' {K:PySem.W.Frag} {H:Hp} {S:Ad}:∀{xs:List D} {vs:List V} (n:Nat),ae K H S xs vs->ae K H S (xs.take n) (vs.take n)
 |_,_,0,h=>.nil
 |_,_,_+1,.nil=>.nil
 |_,_,n+1,.cons r h=>.cons r (ae.take' n h)
theorem ae.cut {K:PySem.W.Frag} {H:Hp} {S:Ad} {xs:List D} {vs:List V} (h:ae K H S xs vs) (lo hi:Option Int):ae K H S (f6 xs lo hi) (gw vs lo hi):=by
 unfold f6 gw
 rw [h.length]
 exact ae.take' _ (ae.drop' _ h)
theorem pS (ha:DE X ρ a (.tup xs)) (hl:DO X ρ lo l) (hu:DO X ρ hi u):DE X ρ (.Subscript a (.Slice lo hi none p2) pos) (.tup (f6 xs l u)):=by
 refine PE.weak (lg (SlR.or yx sN) ha hl hu) fun σ H Q ⟨S,ve,k⟩=>⟨S,ve,fun x H1 e1 r1=>⟨S,ve.ext e1,fun H2 e2=>⟨S,(ve.ext e1).ext e2,fun H3 e3=>?_⟩⟩⟩
 have r3:=r1.ext ((e2.trans e3).to S)
 have dm:=(((ve.ext e1).ext e2).ext e3).dom
 obtain ⟨p,us,rfl,h2,rs⟩:=r3.dQ
 by_cases hw:HT.sIx us.length 0 l=0∧HT.sIx us.length us.length u=us.length
 ·refine .inr ⟨p,us,rfl,.inl (.inl h2),hw,k _ H3 (e1.trans (e2.trans e3)) ?_⟩
  have e:f6 xs l u=xs:=by
   unfold f6
   rw [rs.length,hw.1,hw.2,List.drop_zero,Nat.sub_zero,List.take_of_length_le (by rw [rs.length];exact Nat.le_refl _)]
  rw [e];exact r3
 ·exact .inl ⟨p,us,rfl,.inl (.inl h2),hw,fun z hz=>k _ _ (e1.trans (e2.trans (e3.trans (Ext.new hz)))) (Rds.dF dm hz (rs.cut l u))⟩
theorem qd (ha:DE X ρ a (.lst xs)) (hl:DO X ρ lo l) (hu:DO X ρ hi u):DE X ρ (.Subscript a (.Slice lo hi none p2) pos) (.lst (f6 xs l u)):=by
 refine PE.weak (lg vx ha hl hu) fun σ H Q ⟨S,ve,k⟩=>⟨S,ve,fun x H1 e1 r1=>⟨S,ve.ext e1,fun H2 e2=>⟨S,(ve.ext e1).ext e2,fun H3 e3=>?_⟩⟩⟩
 have r3:=r1.ext ((e2.trans e3).to S)
 have dm:=(((ve.ext e1).ext e2).ext e3).dom
 obtain ⟨p,us,rfl,sq,rs⟩:=r3.g_
 exact ⟨p,us,rfl,sq,fun z hz=>k _ _ (e1.trans (e2.trans (e3.trans (Ext.new hz)))) (Rds.iX dm hz (rs.cut l u))⟩
end
end CT
namespace CT
open PySem PySem.Spec L2
open PyProof.Rows hiding St
section
variable {X:Cx} {ρ:Rho} {o i e value tg:Expr} {pos pos' p ap cp:Pos} {es:List (PK×D)} {l:List PK} {d:D} {x:Str} {n:Nat}
theorem jd:DFx X ρ (.Dict [] [] pos) (.d []):=PE.weak uB fun σ H Q ⟨S,ve,k⟩ p hp=>k p _ _ (Ext.new hp) hp au ⟨0,[],rfl,.nil⟩
end
end CT
namespace CT
open PySem PySem.Spec L2
open PyProof.Rows hiding St
section
variable {X:Cx} {ρ:Rho} {o i e value tg:Expr} {pos pos' p ap cp:Pos} {es:List (PK×D)} {l:List PK} {d:D} {x:Str} {n:Nat}
noncomputable def cZ:D->Bool
 |.non=>true
 |_=>false
theorem Rds.nr {K:PySem.W.Frag} {H:Hp} {S:Ad} {d:D} {v:V} (r:Rds K H S d v):decide (v=V.non)=cZ d:=by
 cases r<;>first|rfl|exact decide_eq_false (fun z=>nomatch z)
theorem xC {j} {pos':Pos} (ha:DE X ρ e d):DE X ρ (.Compare e [.Is] [.Constant .none j pos'] pos) (.bl (cZ d)):=
 bL pH (fun x y H S Q rx ry dm k=>⟨ry.nP,by rw [rx.nr];exact k _ H Ext.refl (.bl _)⟩) ha gE (aN _)
theorem uj {j} {pos':Pos} (ha:DE X ρ e d):DE X ρ (.Compare e [.IsNot] [.Constant .none j pos'] pos) (.bl (!cZ d)):=
 bL mz (fun x y H S Q rx ry dm k=>⟨ry.nP,by rw [rx.nr];exact k _ H Ext.refl (.bl _)⟩) ha gE (aN _)
theorem yb {j} {pos':Pos} (ha:DE X ρ e d):DT X ρ (.Compare e [.Is] [.Constant .none j pos'] pos) (cZ d):=
 bK pH (fun x y H S Q rx ry dm k=>⟨ry.nP,by rw [rx.nr];exact k _ H Ext.refl (.bl _)⟩) ha gE (aN _)
theorem uu {j} {pos':Pos} (ha:DE X ρ e d):DT X ρ (.Compare e [.IsNot] [.Constant .none j pos'] pos) (!cZ d):=
 bK mz (fun x y H S Q rx ry dm k=>⟨ry.nP,by rw [rx.nr];exact k _ H Ext.refl (.bl _)⟩) ha gE (aN _)
end
end CT
namespace CT
open PySem PySem.Spec L2
open PyProof.Rows hiding St
noncomputable abbrev KVs:=List (PK×Addr×V)
structure DCx (X:Cx) (ρ:Rho) (e:Expr) (c:Ow):Prop where
 pe:DFx X ρ e c
 ps:∀(i:Nat) (x:Str) (pos' spos:Pos),X.N.Nodup->X.N[i]?=some x->Loc X.env.scope x->(X.fn x=true∨X.env.scope.names.lookup x=some .local)->swapsWith e (some (.Name x pos')) spos.line X.env=pure true->
  PS X (.Assign [.Name x pos'] e spos) (lh (ow X.K ρ c) (fK i))
section
variable {X:Cx} {ρ:Rho} {e:Expr} {c:Ow} {xs:List D} {i:Nat} {x:Str} {pos pos':Pos}
theorem DC.cx (h:DC X ρ e xs):DCx X ρ e (.l xs):=⟨h.df.x,fun i x pos' spos hN hix hx hf hsw=>PS.weak (h.ps i x pos' spos hN hix hx hf hsw) fun D σ H ⟨S,ve,k⟩=>⟨S,ve,fun a vs H' ex hp r=>
 k a (.lst vs) _ (ex.trans (Ext.new hp)) (ex.back hp) au ⟨vs,rfl,((r.av (S':=S.and a) fun b h=>h.imp_right fun z=>by rw [z];exact hp).ext ((Ext.new hp).to _))⟩⟩⟩
theorem rF (hN:X.N.Nodup) (hi:X.N[i]?=some x) (hx:Loc X.env.scope x) (he:DCx X ρ e c) (hsw:swapsWith e (some (.Name x pos')) pos.line X.env=pure true) (hf:X.fn x=true∨X.env.scope.names.lookup x=some .local):
  DS X ρ (.Assign [.Name x pos'] e pos) (.nx (ρ.set i (.owx c))):=PS.weak (he.ps i x pos' pos hN hi hx hf hsw) fun E σ H ⟨H₀,S₀,S,f,k⟩=>⟨S,f.ve,fun a vs H' ex hn ha r=>k _ H' _ (f.qI ex hn ha r)⟩
end
end CT
namespace CT
open PySem PySem.Spec PySem.W L2
structure Loose (X:Cx) (pins:List (Addr×Obj)) (H:Hp) (T:Addr):Prop where
 new:X.s₀.heap.objs.size<=T
 loc:T≠X.env.locals
 cell:∀x c,X.env.cells.lookup x=some c->c≠T
 pin:∀p∈X.pn++pins,p.1≠T
 free:H T=none
noncomputable def bU (X:Cx) (pins:List (Addr×Obj)) (H:Hp) (h:Heap) (a:Addr) (φ:Option Value->Prop):Prop:=
 ∃oe vs,h.get? a=some oe∧oe.data=.fields vs∧((vs[1]?=some .none∧φ none)∨
  ∃T oT ts fl,vs[1]?=some (.ref T)∧Loose X pins H T∧T≠a∧h.get? T=some oT∧oT.data=.fields ts∧ts[3]?=some fl∧φ (some fl))
noncomputable abbrev nR:Option Value->Prop:=fun _=>True
theorem bU.imp {X:Cx} {pins:List (Addr×Obj)} {H:Hp} {h:Heap} {a:Addr} {φ ψ:Option Value->Prop} (t:bU X pins H h a φ) (f:∀x,φ x->ψ x):bU X pins H h a ψ:=by
 obtain ⟨oe,vs,h1,h2,q⟩:=t
 refine ⟨oe,vs,h1,h2,q.imp (fun z=>⟨z.1,f _ z.2⟩) ?_⟩
 rintro ⟨T,oT,ts,fl,z1,z2,z3,z4,z5,z6,z7⟩
 exact ⟨T,oT,ts,fl,z1,z2,z3,z4,z5,z6,f _ z7⟩
theorem Loose.same {X:Cx} {pins:List (Addr×Obj)} {H H':Hp} {T:Addr} (l:Loose X pins H T) (h:H' T=none):Loose X pins H' T:=⟨l.new,l.loc,l.cell,l.pin,h⟩
section
variable {X:Cx} {pins:List (Addr×Obj)} {σ:St} {H:Hp} {s:Shared} {a C:Addr} {dx:Option Addr} {fr:Bool} {M:Model} {A:Around} {E:Value->Shared->Prop}
theorem _root_.L2.Inv.loose (I:Inv X pins σ H s) {T:Addr} (h:s.heap.objs.size<=T):Loose X pins H T where
 new:=Nat.le_trans I.sz h
 loc:=Nat.ne_of_gt (Nat.lt_of_lt_of_le I.lt h)
 cell:=fun x c e=>by obtain ⟨v,o,ho,_⟩:=I.cell x c e;exact Nat.ne_of_lt (Nat.lt_of_lt_of_le (Heap.lt_size ho) h)
 pin:=fun p hp=>Nat.ne_of_lt (Nat.lt_of_lt_of_le (Heap.lt_size (I.pin p hp).1) h)
 free:=I.hok.fresh h
theorem _root_.L2.Inv.mark {T:Addr} {t':Nat} {h':Heap} (I:Inv X pins σ H s) (l:Loose X pins H T) (k:∀b o,b≠T->s.heap.get? b=some o->h'.get? b=some o):Inv X pins σ H {s with heap:=h',toks:=t'}:=
 I.turned (it:=T) k l.free l.loc (.inr l.new) l.cell l.pin
theorem _root_.L2.Inv.excAt {fr':Bool} {h':Heap} {t':Nat} {vs:Array Value} (I:Inv X pins σ H s) (ha:H a=some (aJ fr a C dx)) (k:∀b o,b≠a->s.heap.get? b=some o->h'.get? b=some o) (h1:h'.get? a=some ⟨.ref C,dx,.fields vs,#[]⟩) (hz:vs.size=6) (hf:fr'=true->vs[1]?=some .none):
  Inv X pins σ (upd H a (aJ fr' a C dx)) {s with heap:=h',toks:=t'}:=
 I.write (x:=a) (e:=a) (by rw [ha];exact True.intro) (.inl rfl) k ⟨_,h1⟩ (kY h1 hz hf)
theorem _root_.L2.Inv.slots {h':Heap} (I:Inv X pins σ H s) (hs:Heap.SlotsOnly (frs X.stack) s.heap h'):Inv X pins σ H {s with heap:=h'}:=by
 have nH:∀b u,H b=some u->b∉frs X.stack:=fun b u e hb=>by rw [I.jh b hb] at e;cases e
 refine I.call (g':=s.gens) (d':=s.drawn) (t':=s.toks) (ch:=[]) ⟨fun b o e _ hb _=>(hs.2.1 b hb).trans e,fun b o e _ _ _=>hs.2.2 b o e,fun b o _ n _=>n,fun b o e _=>let ⟨sl,q⟩:=hs.2.2 b o e;⟨_,q⟩,fun _ _ q=>q,fun _ _ _ q=>q,fun b ps q=>⟨#[],by rw [q];simp⟩⟩
  (fun b u e=>(I.hok b u e).eA (fun c v hc q=>(hs.2.1 c ?_).trans q) (fun _ q=>q) fun _ _ q=>q) I.bare fun b z=>nomatch z
 rcases hc with z|z
 ·rw [z];exact nH b u e
 ·exact nH c _ z
theorem jL {head:Value} {hadNext:Bool} {Q:Unit->Shared->Prop} (I:Inv X pins σ H s) (hfr:A.frames=some X.stack) (hs:X.stack=X.env::X.outer) (hf:X.env.frame=some X.env.locals) (ha:H a=some (aJ fr a C dx))
  (h:∀s',Inv X pins σ (upd H a (aJ false a C dx)) s'->bU X pins (upd H a (aJ false a C dx)) s'.heap a (fun fl=>fl=some (rawInt X.env.locals))->Q () s'):
  wpAny M A (do let b←EntryCells.newEntry head (←frameOf X.env) .none (rawInt X.env.locals) .none (←entryPlaceOf X.env.locals hadNext);setField (.ref a) 1 b) Q E s:=by
 have hl:=I.stack
 rw [hs] at hl hfr
 refine wpAny_bind (wpAny_frameOf_fun hfr hl hf fun h₁ hs₁=>?_)
 have I1:Inv X pins σ H {s with heap:=h₁}:=I.slots (by rw [hs];exact hs₁)
 refine wpAny_bind (wpAny_entryPlaceOf fun pl hpl=>?_)
 unfold EntryCells.newEntry newFields
 refine wpAny_bind (wpAny_newObj_type ?_ (hpl.sizeOk5 _ _ _ _ _))
 obtain ⟨vs,he₁,hz,_⟩:=eG (I1.hok a _ ha)
 have lo:=I1.loose (T:=h₁.objs.size) (Nat.le_refl _)
 have he₂:=Heap.get?_push_of_some (h:=h₁) {cls:=.type "traceback",dict:=none,data:=.fields ([head,.ref X.env.locals,.none,rawInt X.env.locals,.none]++(if pl.isEmpty then List.replicate 6 Value.none else pl)).toArray} he₁
 have hT₂:=Heap.get?_push_size h₁ (o:={cls:=.type "traceback",dict:=none,data:=.fields ([head,.ref X.env.locals,.none,rawInt X.env.locals,.none]++(if pl.isEmpty then List.replicate 6 Value.none else pl)).toArray}) rfl
 have I2:=I1.kept (t':=s.toks) (h':=h₁.push {cls:=.type "traceback",dict:=none,data:=.fields ([head,.ref X.env.locals,.none,rawInt X.env.locals,.none]++(if pl.isEmpty then List.replicate 6 Value.none else pl)).toArray}) (fun b u q=>Heap.get?_push_of_some _ q)
 refine wpAny_setField he₂ rfl (by rw [hz];decide) (h _ ?_ ?_)
 ·refine I2.excAt (t':=s.toks) ha (fun b o hb q=>(Heap.get?_update_other _ _ (Ne.symm hb)).trans q) (vs:=vs.setIfInBounds 1 (.ref h₁.objs.size)) ?_ (by simpa using hz) (fun z=>nomatch z)
  exact Heap.get?_update_self _ he₂ rfl
 ·have hTe:h₁.objs.size≠a:=Nat.ne_of_gt (Heap.lt_size he₁)
  refine ⟨_,vs.setIfInBounds 1 (.ref h₁.objs.size),Heap.get?_update_self _ he₂ rfl,rfl,.inr ⟨h₁.objs.size,_,_,rawInt X.env.locals,?_,lo.same (by rw [ag hTe];exact lo.free),hTe,(Heap.get?_update_other _ _ (Ne.symm hTe)).trans hT₂,rfl,?_,rfl⟩⟩
  ·simp [hz]
  ·first|(simp;done)|(rcases hpl with rfl|⟨_,_,_,_,_,_,_,rfl⟩<;>simp)
theorem jx {Q:Unit->Shared->Prop} (I:Inv X pins σ H s) (hfr:A.frames=some X.stack) (hs:X.stack=X.env::X.outer) (hf:X.env.frame=some X.env.locals) (ha:H a=some (aJ fr a C dx)) (t:bU X pins H s.heap a nR)
  (h:∀s',Inv X pins σ (upd H a (aJ false a C dx)) s'->bU X pins (upd H a (aJ false a C dx)) s'.heap a (fun fl=>fl=some (rawInt X.env.locals))->Q () s'):wpAny M A (noteFrame (.ref a) X.env) Q E s:=by
 obtain ⟨oe,vs,he,hd,t⟩:=t
 unfold noteFrame
 simp only [hf]
 rcases t with ⟨h1,_⟩|⟨T,oT,ts,fl,h1,lo,hTa,hT,hdT,h3,_⟩
 ·refine wpAny_bind (wpAny_field he hd h1 ?_)
  rw [if_neg (by decide)]
  exact jL I hfr hs hf ha h
 ·refine wpAny_bind (wpAny_field he hd h1 ?_)
  rw [if_pos (show (Value.ref T !=Value.none)=true from by simp)]
  refine wpAny_bind (wpAny_field hT hdT h3 ?_)
  by_cases hq:(fl==rawInt X.env.locals)=true
  ·rw [if_pos hq]
   obtain ⟨vs',e1,hz,_⟩:=eG (I.hok a _ ha)
   rw [he] at e1;cases e1
   cases hd
   refine wpAny_pure (h s ?_ ?_)
   ·have:=I.excAt (fr':=false) (t':=s.toks) (h':=s.heap) ha (fun b o _ q=>q) he hz (fun z=>nomatch z)
    exact this
   ·exact ⟨_,_,he,rfl,.inr ⟨T,oT,ts,fl,h1,lo.same (by rw [ag hTa];exact lo.free),hTa,hT,hdT,h3,by rw [beq_iff_eq.mp hq]⟩⟩
  ·rw [if_neg hq]
   refine wpAny_bind (wpAny_setField hT hdT (Array.getElem?_eq_some_iff.mp h3).1 ?_)
   have I1:=I.mark (T:=T) (t':=s.toks) (h':=s.heap.update T (Obj.mapFields (·.setIfInBounds 3 Value.none))) lo fun b o hb q=>(Heap.get?_update_other _ _ (Ne.symm hb)).trans q
   exact jL I1 hfr hs hf ha h
theorem dI {fo:Option Addr} {φ:Option Value->Prop} {Q:Unit->Shared->Prop} (I:Inv X pins σ H s) (t:bU X pins H s.heap a φ)
  (h:∀s',Inv X pins σ H s'->bU X pins H s'.heap a (fun fl=>∃x,φ x∧x.isSome=fl.isSome)->Q () s'):wpAny M A (setFlight (.ref a) fo) Q E s:=by
 obtain ⟨oe,vs,he,hd,t⟩:=t
 unfold setFlight
 rcases t with ⟨h1,hp⟩|⟨T,oT,ts,fl,h1,lo,hTa,hT,hdT,h3,hp⟩
 ·refine wpAny_bind (wpAny_field he hd h1 ?_)
  rw [if_neg (by decide)]
  exact wpAny_pure (h s I ⟨oe,vs,he,hd,.inl ⟨h1,none,hp,rfl⟩⟩)
 ·refine wpAny_bind (wpAny_field he hd h1 ?_)
  rw [if_pos (show (Value.ref T !=Value.none)=true from by simp)]
  have hsz:=(Array.getElem?_eq_some_iff.mp h3).1
  refine wpAny_setField hT hdT hsz (h _ ?_ ?_)
  ·exact I.mark (T:=T) (t':=s.toks) lo fun b o hb q=>(Heap.get?_update_other _ _ (Ne.symm hb)).trans q
  ·refine ⟨oe,vs,(Heap.get?_update_other _ _ hTa).trans he,hd,.inr ⟨T,_,_,fo.elim .none (fun f=>rawInt f),h1,lo,hTa,Heap.get?_update_self _ hT (Obj.isFreed_of_fields (Obj.data_mapFields hdT _)),Obj.data_mapFields hdT _,by simp [hsz],some fl,hp,rfl⟩⟩
end
end CT
namespace CT
open PySem PySem.Spec PySem.W L2
open PyProof.Rows hiding St
noncomputable def CXA (P:Program) (w:World):CXT:=fun outer H s E e s'=>∃a H' C dx,e=.ref a∧s'.os=s.os∧AllBare s'.gens∧Un (frs outer) [] H H' s.heap s'.heap∧HOk P w H' s'.heap∧H' a=some (aJ false a C dx)∧
 (∃oe vs T oT ts fl,s'.heap.get? a=some oe∧oe.data=.fields vs∧vs[1]?=some (.ref T)∧s.heap.objs.size<=T∧H' T=none∧T≠a∧s'.heap.get? T=some oT∧oT.data=.fields ts∧ts[3]?=some fl)∧E e none H'
noncomputable abbrev _root_.L2.Cx.pnd (X:Cx) (pins:List (Addr×Obj)):Cx:={X with pn:=X.pn++pins}
noncomputable abbrev _root_.L2.Cx.xw (X:Cx) (pins:List (Addr×Obj)) (R:St->Addr->Hp->Prop):Cx:=
 {X with pn:=X.pn++pins,xe:=fun e s'=>∃σ a H C dx,e=.ref a∧Inv (X.pnd pins) [] σ H s'∧H a=some (aJ false a C dx)∧bU (X.pnd pins) [] H s'.heap a nR∧R σ a H}
section
variable {X:Cx} {pins pins':List (Addr×Obj)} {σ:St} {H:Hp} {s:Shared} {R:St->Addr->Hp->Prop} {a C:Addr} {dx:Option Addr}
theorem _root_.L2.Cx.Ok.re {X Y:Cx} (ok:X.Ok) (h:Y={X with pn:=Y.pn,xe:=Y.xe}):Y.Ok:=by
 rw [h]
 exact ⟨ok.mod,ok.kind,ok.glob,ok.blt,ok.above,ok.inj,ok.has,ok.cab,ok.hd,ok.frames,ok.stk,ok.exf,ok.bs,ok.bsz,ok.fA,ok.ie,ok.cJ,ok.frf⟩
theorem _root_.L2.Inv.re {X:Cx} {pn:List (Addr×Obj)} {E:Value->Shared->Prop} (I:Inv X pins σ H s) (hp:∀p∈pn++pins',p∈X.pn++pins):Inv {X with pn:=pn,xe:=E} pins' σ H s:=
 ⟨Cx.Ok.re I.ok rfl,I.os,I.bare,I.base,I.loc,I.cell,I.free,I.bF,fun p h=>I.pin p (hp p h),I.hok,I.len⟩
theorem _root_.L2.Inv.xw (I:Inv X pins σ H s):Inv (X.xw pins R) [] σ H s:=Inv.re I fun p h=>by simpa using h
theorem _root_.L2.Inv.dR (I:Inv X (pins++pins') σ H s):Inv (X.xw pins R) pins' σ H s:=Inv.re I fun p h=>by simpa [or_assoc] using h
theorem _root_.L2.Inv.hU (I:Inv (X.xw pins R) pins' σ H s):Inv X (pins++pins') σ H s:=Inv.re (X:=X.xw pins R) (pn:=X.pn) (E:=X.xe) I fun p h=>by
 rcases List.mem_append.mp h with h|h
 ·exact List.mem_append_left _ (List.mem_append_left _ h)
 ·rcases List.mem_append.mp h with h|h
  ·exact List.mem_append_left _ (List.mem_append_right _ h)
  ·exact List.mem_append_right _ h
theorem _root_.L2.Inv.xwp (I:Inv (X.xw pins R) pins' σ H s):Inv (X.pnd pins) [] σ H s:=Inv.re (X:=X.xw pins R) (E:=X.xe) I fun p h=>List.mem_append_left _ (by simpa using h)
theorem _root_.L2.Inv.pxw (I:Inv (X.pnd pins) [] σ H s):Inv X pins σ H s:=Inv.re (X:=X.pnd pins) (pn:=X.pn) (E:=X.xe) I fun p h=>by simpa using h
theorem Loose.re {X Y:Cx} {pins pins':List (Addr×Obj)} {H:Hp} {T:Addr} (l:Loose X pins H T) (h0:Y.s₀=X.s₀) (h1:Y.env=X.env) (h2:∀p∈Y.pn++pins',p∈X.pn++pins):Loose Y pins' H T:=
 ⟨by rw [h0];exact l.new,by rw [h1];exact l.loc,by rw [h1];exact l.cell,fun p hp=>l.pin p (h2 p hp),l.free⟩
theorem bU.re {X Y:Cx} {pins pins':List (Addr×Obj)} {H:Hp} {h:Heap} {φ:Option Value->Prop} (t:bU X pins H h a φ) (h0:Y.s₀=X.s₀) (h1:Y.env=X.env) (h2:∀p∈Y.pn++pins',p∈X.pn++pins):bU Y pins' H h a φ:=by
 obtain ⟨oe,vs,q1,q2,q⟩:=t
 refine ⟨oe,vs,q1,q2,q.imp_right ?_⟩
 rintro ⟨T,oT,ts,fl,z1,z2,z⟩
 exact ⟨T,oT,ts,fl,z1,z2.re h0 h1 h2,z⟩
theorem PE.xw {e:Expr} {t:TE} (h:PE X e t) (hx:∀e s,¬X.xe e s):PE (X.xw pins R) e t:=fun pins' s σ H Q I hw=>
 wpAny_mono (h (pins++pins') s σ H Q I.hU hw) (fun _ _ ⟨v,H',I',r,q⟩=>⟨v,H',I'.dR,r,q⟩) fun e s z=>absurd z (hx e s)
theorem PT.xw {e:Expr} {t:TT} (h:PT X e t) (hx:∀e s,¬X.xe e s):PT (X.xw pins R) e t:=fun pins' s σ H Q I hw=>
 wpAny_mono (h (pins++pins') s σ H Q I.hU hw) (fun _ _ ⟨H',I',q⟩=>⟨H',I'.dR,q⟩) fun e s z=>absurd z (hx e s)
theorem PA.xw {es:List Expr} {t:TA} (h:PA X es t) (hx:∀e s,¬X.xe e s):PA (X.xw pins R) es t:=fun pos pins' s σ H Q I hw=>
 wpAny_mono (h pos (pins++pins') s σ H Q I.hU hw) (fun _ _ ⟨v,H',I',r,q⟩=>⟨v,H',I'.dR,r,q⟩) fun e s z=>absurd z (hx e s)
theorem _root_.L2.SP.dR {D:Ends} {f:Flow} {s':Shared} (h:SP X (pins++pins') D f s'):SP (X.xw pins R) pins' D f s':=by
 cases f with
 |next=>obtain ⟨σ',H',I,q⟩:=h;exact ⟨σ',H',I.dR,q⟩
 |brk=>obtain ⟨σ',H',I,q⟩:=h;exact ⟨σ',H',I.dR,q⟩
 |cont=>obtain ⟨σ',H',I,q⟩:=h;exact ⟨σ',H',I.dR,q⟩
 |ret u=>obtain ⟨v,σ',H',I,r,q⟩:=h;exact ⟨v,σ',H',I.dR,r,q⟩
theorem PS.xw {st:Stmt} {t:TS} (h:PS X st t) (hx:∀e s,¬X.xe e s):PS (X.xw pins R) st t:=fun pins' s σ H D I hw=>
 wpAny_mono (h (pins++pins') s σ H D I.hU hw) (fun _ _ q=>q.dR) fun e s z=>absurd z (hx e s)
theorem PSs.xw {st:List Stmt} {t:TS} (h:PSs X st t) (hx:∀e s,¬X.xe e s):PSs (X.xw pins R) st t:=fun pins' s σ H D I hw=>
 wpAny_mono (h (pins++pins') s σ H D I.hU hw) (fun _ _ q=>q.dR) fun e s z=>absurd z (hx e s)
end
noncomputable def tX (K:Frag) (ρ:Rho) (d:D) (R:St->Addr->Hp->Prop) (σ:St) (H:Hp):Prop:=∃S,VE K H S ρ σ∧∀a H',aF H H'->H a=none->Rds K H' S d (.ref a)->R σ a H'
noncomputable def DEX (X:Cx) (ρ:Rho) (e:Expr) (d:D):Prop:=∀pins R,PE (X.xw pins R) e fun σ H _=>tX X.K ρ d R σ H
noncomputable def tSX (K:Frag) (ρ ρ':Rho) (d:D) (R:St->Addr->Hp->Prop) (σ:St) (H:Hp):Prop:=∃H₀ S₀ S,Fm K H₀ S₀ H S ρ σ∧∀σ' a H' S',Fm K H₀ S₀ H' S' ρ' σ'->H₀ a=none->Rds K H' S' d (.ref a)->R σ' a H'
noncomputable def DSX (X:Cx) (ρ:Rho) (st:Stmt) (ρ':Rho) (d:D):Prop:=∀pins R,PS (X.xw pins R) st fun _ σ H=>tSX X.K ρ ρ' d R σ H
noncomputable def bT (X:Cx) (ρ:Rho) (sts:List Stmt) (ρ':Rho) (d:D):Prop:=∀pins R,PSs (X.xw pins R) sts fun _ σ H=>tSX X.K ρ ρ' d R σ H
section
variable {X:Cx} {ρ ρ' ρ1:Rho} {e c:Expr} {d:D} {st:Stmt} {sts:List Stmt} {pos pos':Pos} {i:Nat} {x:Str}
theorem pB (h:DSX X ρ st ρ' d):bT X ρ (st::sts) ρ' d:=fun pins R=>PSs.weak (fT (h pins R) (j2 (sts:=sts))) fun E σ H q=>q
theorem pG (h1:DS X ρ st (.nx ρ1)) (h2:bT X ρ1 sts ρ' d) (hx:∀e s,¬X.xe e s:=by intro _ _ z;exact z):bT X ρ (st::sts) ρ' d:=fun pins R=>
 PSs.weak (fT (PS.xw h1 hx) (h2 pins R)) fun E σ H ⟨H₀,S₀,S,f,k⟩=>⟨H₀,S₀,S,f,fun σ' H' S' f'=>⟨H₀,S₀,S',f',k⟩⟩
theorem nh {K:Frag} {R:St->Addr->Hp->Prop} {σ:St} {H:Hp} (q:tSX K ρ ρ d R σ H):tX K ρ d R σ H:=by
 obtain ⟨H₀,S₀,S,f,k⟩:=q
 exact ⟨S,f.ve,fun a H' ex hn r=>k σ a H' S (f.grow ex) (f.ext.back hn) r⟩
theorem sJ (h:DEX X ρ e d) (hs:swapsWith e none pos.line X.env=pure false:=by rfl):DSX X ρ (.Expr e pos) ρ d:=fun pins R=>PS.weak (gM (h pins R) hs) fun E σ H q=>nh q
theorem vH (h:DEX X ρ e d):DSX X ρ (.Return (some e) pos) ρ d:=fun pins R=>PS.weak (i4 (h pins R)) fun E σ H q=>nh q
theorem k_ {sts:List Stmt} {pins:List (Addr×Obj)} {R:St->Addr->Hp->Prop}:PSs (X.xw pins R) sts (fun E σ H=>∃ρ ρ' d,bT X ρ sts ρ' d∧tSX X.K ρ ρ' d R σ H):=fun pins' s σ H D I ⟨_,_,_,h,q⟩=>h pins R pins' s σ H D I q
theorem wV {a b:List Stmt} {q:Bool} (hc:DT X ρ c q) (ha:q=true->bT X ρ a ρ' d) (hb:q=false->bT X ρ b ρ' d) (hx:∀e s,¬X.xe e s:=by intro _ _ z;exact z):DSX X ρ (.If c a b pos) ρ' d:=fun pins R=>
 PS.weak (sT (PT.xw hc hx) (k_ (sts:=a)) (k_ (sts:=b))) fun E σ H ⟨H₀,S₀,S,f,k⟩=>⟨S,f.ve,fun H' ex=>by
  cases q with
  |true=>exact ej ⟨ρ,ρ',d,ha rfl,H₀,S₀,S,f.grow ex,k⟩
  |false=>exact eQ ⟨ρ,ρ',d,hb rfl,H₀,S₀,S,f.grow ex,k⟩⟩
end
end CT
namespace CT
open PySem PySem.Spec PySem.W L2
open PyProof.Rows hiding St
noncomputable abbrev xk (R:St->Addr->Hp->Prop) (σ:St):XK:=fun e _ H'=>∃a,e=.ref a∧R σ a H'
section
variable {X:Cx} {pins pins':List (Addr×Obj)} {R:St->Addr->Hp->Prop} {k:Nat} {f C:Addr} {fd:FuncData} {ps:List Str} {sp:Sp} {x m:Str} {p pos apos:Pos} {e o:Expr} {es:List Expr} {ta:TE} {t:TA} {σ:St} {H:Hp} {s s':Shared} {Q:VK}
theorem g6 {e:Value} (I:Inv (X.xw pins R) pins' σ H s) (h:CXA X.prog X.w X.stack H s (xk R σ) e s'):(X.xw pins R).xe e s':=by
 obtain ⟨a,H',C,dx,rfl,os,bare,un,hok,ha,⟨oe,vs,T,oT,ts,fl,h1,h2,h3,h4,h5,h6,h7,h8,h9⟩,a',ea,hR⟩:=h
 cases ea
 have I':Inv (X.xw pins R) pins' σ H' s':=I.ua (ch:=[]) os un hok bare fun b z=>nomatch z
 have lo:=I.loose (T:=T) h4
 exact ⟨σ,a,H',C,dx,rfl,I'.xwp,ha,⟨oe,vs,h1,h2,.inr ⟨T,oT,ts,fl,h3,(lo.same h5).re rfl rfl fun p h=>List.mem_append_left _ (by simpa using h),h6,h7,h8,h9,trivial⟩⟩,hR⟩
theorem jG {us:List Value} {vs:List V} (F:aA X.prog X.w X.K X.mg X.base (CXA X.prog X.w) k f fd ps sp) (hr:ay k X.A) (hb:Binds X.K fd ps []) (I:Inv (X.xw pins R) pins' σ H s) (r:Vals vs us) (h:sp vs H Q (xk R σ)):
  wpAny (model X.prog X.w) X.A (call (.ref f) us) (EP (X.xw pins R) pins' σ Q) (X.xw pins R).xe s:=by
 have hl:(us++[]).length=ps.length:=by rw [List.append_nil,←r.length];exact F.len _ _ _ _ h
 refine wpAny_call (codeAny_mono (F.run X.A X.stack s H ⟨us,[]⟩ us vs Q (xk R σ) hr I.k6 (by have:=hb s us I.kIn hl;rw [List.append_nil] at this;exact this) r h) fun r s' hq=>?_)
 cases r with
 |error e=>exact g6 I hq
 |ok fl=>
  cases fl with
  |ret u=>exact I.after hq
  |next=>exact False.elim hq
  |brk=>exact False.elim hq
  |cont=>exact False.elim hq
theorem r6 (F:aA X.prog X.w X.K X.mg X.base (CXA X.prog X.w) k f fd ps sp) (hr:ay k X.A) (hg:Gl X x) (hm:X.mg x=some (.ref f)) (hk:PySem.W.keepIn X.K (.ref f)=true) (hb:Binds X.K fd ps [])
  (ha:PA (X.xw pins R) (e::es) t) (hdb:(x==("__debug__":Str))=false:=by decide) (he:starEach (e::es) X.env=(false,eval e X.env)::starEach es X.env:=by rfl) (hpl:(backTo pos (starEach es X.env)).any (·.1)=false:=by rfl):
  PE (X.xw pins R) (.Call (.Name x p) (e::es) [] pos) (fun σ H Q=>t σ H fun vs H1=>sp vs H1 Q (xk R σ)):=by
 intro pins' s σ H Q I h
 refine wpAny_Call_Name_kw (cT I hg hm ?_ hdb)
 refine PySem.W.callWith_K (h₀:=X.base) I.ok.mod.kin hk (thn (ha pos pins' s σ H _ I h) fun us s1 ⟨vs,H1,I1,r,q⟩=>⟨I1.kIn,?_⟩) he hpl
 exact jG F hr hb I1 r q
theorem sH {pl:Sem Bool} (he:PE (X.xw pins R) o ta) (c:Cls X.K C) (hm:Meth X.K C m f) (F:aA X.prog X.w X.K X.mg X.base (CXA X.prog X.w) k f fd ps sp) (hr:ay k X.A) (hb:Binds X.K fd ps []) (ha:PA (X.xw pins R) (e::es) t)
  (hst:starEach (e::es) X.env=(false,eval e X.env)::starEach es X.env:=by rfl) (hpl:(backTo pos (starEach es X.env)).any (·.1)=false:=by rfl)
  (ht:eval (.Call (.Attribute o m apos) (e::es) [] pos) X.env=(do
   let ov←eval o X.env
   standAt apos.atName
   let (f,first)←holding [ov] (getMethod ov m pl)
   callWith pos f first (backTo pos (starEach (e::es) X.env)) (backToKw pos (keywordEach [] X.env))):=by rfl):
  PE (X.xw pins R) (.Call (.Attribute o m apos) (e::es) [] pos) (fun σ H Q=>ta σ H fun x H1=>∃a dx fs,x=.ref a∧H1 a=some (.ins C dx fs)∧fs.lookup m=none∧t σ H1 fun vs H2=>sp (x::vs) H2 Q (xk R σ)):=by
 intro pins' s σ H Q I h
 refine PySem.W.methodCall_KW (pl:=pl) (thn (he pins' s σ H _ I h) fun u s1 ⟨x,H1,I1,rx,a,dx,fs,ex,ea,l,q⟩=>?_) ht
 subst ex
 obtain rfl:u=Value.ref a:=rx
 refine dU I1 ea c hm l ?_
 refine PySem.W.callWith_K (first:=[.ref a]) (h₀:=X.base) I.ok.mod.kin hm.kp (thn (ha pos pins' s1 σ H1 _ I1 q) fun us s2 ⟨vs,H2,I2,r,q2⟩=>⟨I2.kIn,?_⟩) hst hpl
 exact jG (us:=.ref a::us) (vs:=.ref a::vs) F hr hb I2 (.cons rfl r) q2
theorem qh {us:List Value} {vs:List V} (M:Mk X.K C f) (F:aA X.prog X.w X.K X.mg X.base (CXA X.prog X.w) k f fd ps sp) (hr:ay (k+1) X.A) (hb:Binds X.K fd ps []) (I:Inv (X.xw pins R) pins' σ H s) (r:Vals vs us)
  (h:∀x dx,H x=none->H dx=none->dx≠x->sp (.ref x::vs) (upd (upd H dx (.own x)) x (.ins C dx [])) (fun v H2=>v=.non∧Q (.ref x) H2) (xk R σ)):
  wpAny (model X.prog X.w) X.A (call (.ref C) us) (EP (X.xw pins R) pins' σ Q) (X.xw pins R).xe s:=by
 have hq:=h (s.heap.objs.size+1) s.heap.objs.size (I.hok.fresh (Nat.le_succ _)) (I.hok.fresh (Nat.le_refl _)) (Nat.ne_of_lt (Nat.lt_succ_self _))
 have I2:=Inv.made (C:=C) I
 have r2:Vals (V.ref (s.heap.objs.size+1)::vs) (Value.ref (s.heap.objs.size+1)::us):=.cons rfl r
 have hl:((Value.ref (s.heap.objs.size+1)::us)++[]).length=ps.length:=by rw [List.append_nil,←r2.length];exact F.len _ _ _ _ hq
 refine wpAny_call (kN (f:=f) I.kIn M.makes M.init (beq_iff_eq.mp M.fn) (codeAny_mono (F.run _ X.stack _ _ ⟨Value.ref (s.heap.objs.size+1)::us,[]⟩ (Value.ref (s.heap.objs.size+1)::us) _ _ (xk R σ) (hr.make C us [])
  (I2.k6.make C us []) (by have:=hb _ (Value.ref (s.heap.objs.size+1)::us) I2.kIn hl;rw [List.append_nil] at this;exact this) r2 hq) fun r s' hq'=>?_))
 cases r with
 |error e=>exact g6 I2 hq'
 |ok fl=>
  cases fl with
  |ret u=>
   obtain ⟨v,H',I3,rv,ev,q3⟩:=I2.after hq'
   subst ev
   exact ⟨rv,⟨V.ref (s.heap.objs.size+1),H',I3,rfl,q3⟩⟩
  |next=>exact False.elim hq'
  |brk=>exact False.elim hq'
  |cont=>exact False.elim hq'
theorem rp (M:Mk X.K C f) (F:aA X.prog X.w X.K X.mg X.base (CXA X.prog X.w) k f fd ps sp) (hr:ay (k+1) X.A) (hg:Gl X x) (hm:X.mg x=some (.ref C)) (hb:Binds X.K fd ps [])
  (ha:PA (X.xw pins R) (e::es) t) (hdb:(x==("__debug__":Str))=false:=by decide) (he:starEach (e::es) X.env=(false,eval e X.env)::starEach es X.env:=by rfl) (hpl:(backTo pos (starEach es X.env)).any (·.1)=false:=by rfl):
  PE (X.xw pins R) (.Call (.Name x p) (e::es) [] pos) (fun σ H Q=>t σ H fun vs H1=>∀x dx,H1 x=none->H1 dx=none->dx≠x->sp (.ref x::vs) (upd (upd H1 dx (.own x)) x (.ins C dx [])) (fun v H2=>v=.non∧Q (.ref x) H2) (xk R σ)):=by
 intro pins' s σ H Q I h
 refine wpAny_Call_Name_kw (cT I hg hm ?_ hdb)
 refine PySem.W.callWith_K (h₀:=X.base) I.ok.mod.kin M.kp (thn (ha pos pins' s σ H _ I h) fun us s1 ⟨vs,H1,I1,r,q⟩=>⟨I1.kIn,?_⟩) he hpl
 exact qh M F hr hb I1 r q
end
inductive Res where
 |ok (d:D)|xc (d:D)
noncomputable def spR (K:Frag) (P:List D->Res->Prop):Sp:=fun vs H Q E=>∃S ds r,Dom H S∧ae K H S ds vs∧P ds r∧(∀d,r=.ok d->∀v H',aF H H'->Rds K H' S d v->Q v H')∧∀d,r=.xc d->∀a H',aF H H'->H a=none->Rds K H' S d (.ref a)->E (.ref a) none H'
section
variable {P:Program} {w:World} {K:Frag} {mg:Str->Option Value} {base:Heap} {x qual:Str} {st:Stmt} {f:Addr} {fd:FuncData} {N ps:List Str} {k:Nat} {sp:Sp} {CX:CXT}
theorem aA.okD {Pr:List D->Res->Prop} (F:aA P w K mg base (CXA P w) k f fd ps (spR K Pr)):aA P w K mg base CX0 k f fd ps (spD K fun ds d=>Pr ds (.ok d)):=by
 have key:∀vs H Q E,spD K (fun ds d=>Pr ds (.ok d)) vs H Q E->spR K Pr vs H Q E0:=fun vs H Q E ⟨S,ds,d,dm,r,p,kk⟩=>⟨S,ds,.ok d,dm,r,p,fun d' e=>by cases e;exact kk,fun d' e=>nomatch e⟩
 exact ⟨fun vs H Q E h=>F.len _ _ _ _ (key vs H Q E h),fun A outer s H args us vs Q E hr he hb hv hs=>codeAny_mono (F.run A outer s H args us vs Q E0 hr he hb hv (key _ _ _ _ hs)) fun r s' z=>by
  cases r with
  |error e=>obtain ⟨_,_,_,_,_,_,_,_,_,_,_,h⟩:=z;exact h
  |ok fl=>cases fl<;>exact z⟩
theorem _root_.L2.Fun.okC (F:Fun K x qual st f fd) (S:bO N ps (ai st)) (len:∀vs H Q E,sp vs H Q E->vs.length=ps.length)
  (hbody:∀(cdv:Value) (A:Around) (outer:List Env) (s:Shared) (H:Hp) (vs:List V) (Q:VK) (E:XK),ay k (A.deeper (envOfC qual (ai st) s.heap.objs.size f cdv))->sp vs H Q E->
   ∃t,PSs (bQ CX P w K mg base N qual (ai st) f cdv A outer s H E) (aV st) t∧t {nx:=fun _ H'=>Q .non H',rt:=Q} (start N vs) H):aA P w K mg base CX (k+1) f fd ps sp:=by
 obtain ⟨oc,od,kV,doc,pm,an,cdv,ct,osl,rfl,lk,hcd⟩:=F.ex
 exact tj lk hcd S len fun A outer s H vs Q E hr hsp=>hbody cdv A outer s H vs Q E hr hsp
theorem sr {N:List Str} {scope:Scope} {cd:Value} {A:Around} {outer:List Env} {s s':Shared} {H H':Hp} {E:XK} {pins:List (Addr×Obj)} {σ:St} {a C:Addr} {dx:Option Addr}
  (I:Inv (bQ (CXA P w) P w K mg base N qual scope f cd A outer s H E) pins σ H' s') (ha:H' a=some (aJ false a C dx)) (t:bU (bQ (CXA P w) P w K mg base N qual scope f cd A outer s H E) pins H' s'.heap a nR) (hE:E (.ref a) none H'):
  (bQ (CXA P w) P w K mg base N qual scope f cd A outer s H E).xe (.ref a) s':=by
 show wpAny _ _ (leaving _ _) _ _ _
 unfold leaving
 have eH:upd H' a (aJ false a C dx)=H':=by
  funext b;unfold upd;split
  ·rename_i z;rw [z,ha]
  ·rfl
 refine wpAny_bind (jx I I.ok.frames rfl rfl ha t fun s1 I1 t1=>?_)
 rw [eH] at I1 t1
 refine dI I1 t1 fun s2 I2 t2=>?_
 obtain ⟨oe,vs,h1,h2,q⟩:=t2
 rcases q with ⟨_,x,hx,hn⟩|⟨T,oT,ts,fl,z1,z2,z3,z4,z5,z6,_⟩
 ·rw [hx] at hn;cases hn
 ·exact ⟨a,H',C,dx,rfl,I2.os,I2.bare,I2.base,I2.hok,ha,⟨oe,vs,T,oT,ts,fl,h1,h2,z1,z2.new,z2.free,z3,z4,z5,z6⟩,hE⟩
theorem mB {cd:Value} {scope:Scope} {A:Around} {outer:List Env} {s:Shared} {H:Hp} {E:XK} {body:List Stmt} {ρ ρ':Rho} {d:D} (h:bT (bQ (CXA P w) P w K mg base N qual scope f cd A outer s H E).nox ρ body ρ' d):
  PSs (bQ (CXA P w) P w K mg base N qual scope f cd A outer s H E) body fun _ σ H=>tSX K ρ ρ' d (fun _ a H'=>E (.ref a) none H') σ H:=by
 intro pins s1 σ H1 D I q
 refine wpAny_mono (h pins (fun _ a H'=>E (.ref a) none H') [] s1 σ H1 ⟨fun _ _=>False,fun _ _=>False,fun _ _=>False,fun _ _=>False⟩ ((I.ef _).xw) q) (fun fl s' z=>?_) fun e s' z=>?_
 ·cases fl with
  |next=>obtain ⟨_,_,_,z⟩:=z;exact z.elim
  |brk=>obtain ⟨_,_,_,z⟩:=z;exact z.elim
  |cont=>obtain ⟨_,_,_,z⟩:=z;exact z.elim
  |ret u=>obtain ⟨_,_,_,_,_,z⟩:=z;exact z.elim
 ·obtain ⟨σ',a,H',C,dx,rfl,I',ha,t,hR⟩:=z
  refine sr (pins:=pins) (Inv.c7 (E:=fun _ _=>False) I'.pxw) ha (t.re rfl rfl fun p hp=>?_) hR
  exact List.mem_append_left _ hp
theorem AJ {Pr:List D->Res->Prop} (F:Fun K x qual st f fd) (S:bO N ps (ai st)) (len:∀ds r,Pr ds r->ds.length=ps.length)
  (hb:∀(cdv:Value) (A:Around) (outer:List Env) (s:Shared) (H:Hp) (E:XK) (ds:List D) (d:D),ay k (A.deeper (envOfC qual (ai st) s.heap.objs.size f cdv))->Pr ds (.ok d)->
   ∃o,Bc o d∧DSs (bQ (CXA P w) P w K mg base N qual (ai st) f cdv A outer s H E).nox (aI N ds) (aV st) o)
  (hx:∀(cdv:Value) (A:Around) (outer:List Env) (s:Shared) (H:Hp) (E:XK) (ds:List D) (d:D),ay k (A.deeper (envOfC qual (ai st) s.heap.objs.size f cdv))->Pr ds (.xc d)->
   ∃ρ',bT (bQ (CXA P w) P w K mg base N qual (ai st) f cdv A outer s H E).nox (aI N ds) (aV st) ρ' d):aA P w K mg base (CXA P w) (k+1) f fd ps (spR K Pr):=by
 refine F.okC S (fun vs H Q E ⟨S,ds,d,dm,r,p,kk⟩=>by rw [←r.length];exact len ds d p) fun cdv A outer s H vs Q E hr ⟨S',ds,r,dm,rs,p,k1,k2⟩=>?_
 cases r with
 |ok d=>
  obtain ⟨o,ov,h⟩:=hb cdv A outer s H E ds d hr p
  refine ⟨_,PSs.nox h,H,S',S',il dm rs,?_⟩
  cases o with
  |rt d'=>cases ov;exact k1 _ rfl
  |nx ρ'=>cases ov;exact fun σ' H' S'' f=>k1 _ rfl .non H' f.ext .non
  |rfx c=>cases ov;exact fun a vs H' ex hn ha r'=>k1 _ rfl _ H' ex ((r'.av fun b h=>.inl (.inl h)).rds ha (dm.not hn))
 |xc d=>
  obtain ⟨ρ',h⟩:=hx cdv A outer s H E ds d hr p
  exact ⟨_,mB h,H,S',S',il dm rs,fun σ' a H' S'' f hn r=>k2 d rfl a H' f.ext hn (f.out r)⟩
end
end CT
namespace CT
open PySem PySem.Spec PySem.W L2
open PyProof.Rows hiding St
section
variable {X:Cx} {ρ:Rho} {k:Nat} {f C:Addr} {fd:FuncData} {ps:List Str} {x m:Str} {p pos apos:Pos} {e o:Expr} {es:List Expr} {ds:List D} {d:D}
theorem sy {Pr:List D->Res->Prop} (F:aA X.prog X.w X.K X.mg X.base (CXA X.prog X.w) k f fd ps (spR X.K Pr)) (hr:ay k X.A) (hg:Gl X x) (hm:X.mg x=some (.ref f)) (hk:PySem.W.keepIn X.K (.ref f)=true) (hb:Binds X.K fd ps [])
  (ha:DA X ρ (e::es) ds) (hp:Pr ds (.xc d)) (hx:∀e s,¬X.xe e s:=by intro _ _ z;exact z) (hdb:(x==("__debug__":Str))=false:=by decide) (he:starEach (e::es) X.env=(false,eval e X.env)::starEach es X.env:=by rfl) (hpl:(backTo pos (starEach es X.env)).any (·.1)=false:=by rfl):
  DEX X ρ (.Call (.Name x p) (e::es) [] pos) d:=fun pins R=>PE.weak (r6 F hr hg hm hk hb (PA.xw ha hx) hdb he hpl) fun σ H Q ⟨S,ve,kk⟩=>⟨S,ve,fun vs H' ex r=>
   ⟨S,ds,.xc d,(ve.ext ex).dom,r,hp,(fun d' e=>nomatch e),fun d' e a H'' ex' hn r'=>⟨a,rfl,by cases e;exact kk a H'' (ex.trans ex') (ex.back hn) r'⟩⟩⟩
theorem rS {Pr:List D->Res->Prop} {fs:List (Str×D)} {pl:Sem Bool} (ho:DE X ρ o (.ins C fs)) (hl:fs.lookup m=none) (c:Cls X.K C) (hm:Meth X.K C m f) (F:aA X.prog X.w X.K X.mg X.base (CXA X.prog X.w) k f fd ps (spR X.K Pr)) (hr:ay k X.A) (hb:Binds X.K fd ps [])
  (ha:DA X ρ (e::es) ds) (hp:Pr (.ins C fs::ds) (.xc d)) (hx:∀e s,¬X.xe e s:=by intro _ _ z;exact z) (hst:starEach (e::es) X.env=(false,eval e X.env)::starEach es X.env:=by rfl) (hpl:(backTo pos (starEach es X.env)).any (·.1)=false:=by rfl)
  (ht:eval (.Call (.Attribute o m apos) (e::es) [] pos) X.env=(do
   let ov←eval o X.env
   standAt apos.atName
   let (f,first)←holding [ov] (getMethod ov m pl)
   callWith pos f first (backTo pos (starEach (e::es) X.env)) (backToKw pos (keywordEach [] X.env))):=by rfl):
  DEX X ρ (.Call (.Attribute o m apos) (e::es) [] pos) d:=fun pins R=>PE.weak (sH (PE.xw ho hx) c hm F hr hb (PA.xw ha hx) hst hpl ht) fun σ H Q ⟨S,ve,kk⟩=>⟨S,ve,fun v H1 ex1 r1=>by
   obtain ⟨a,dx,gs,rfl,hh,rf⟩:=r1.gc
   exact ⟨a,dx,gs,rfl,hh,rf.none hl,S,ve.ext ex1,fun vs H' ex r=>⟨S,_,.xc d,((ve.ext ex1).ext ex).dom,.cons (r1.ext (ex.to S)) r,hp,(fun d' e=>nomatch e),fun d' e a H'' ex' hn r'=>⟨a,rfl,by
    cases e;exact kk a H'' (ex1.trans (ex.trans ex')) (ex1.back (ex.back hn)) r'⟩⟩⟩⟩
end
inductive lY where
 |ok (fs:List (Str×D))|xc (d:D)
noncomputable def jz (K:Frag) (C:Addr) (P:List D->lY->Prop):Sp:=fun vs H Q E=>∃S x dx us ds r,vs=.ref x::us∧H x=some (.ins C dx [])∧Dom H S∧S x∧ae K H S ds us∧P ds r∧
 (∀fs,r=.ok fs->∀H' gs,(∀a o,a≠x->H a=some o->H' a=some o)->H' x=some (.ins C dx gs)->aG K H' S fs gs->Q .non H')∧
 ∀d,r=.xc d->∀a H',(∀b o,b≠x->H b=some o->H' b=some o)->(a≠x->H a=none)->Rds K H' (fun b=>S b∧b≠x) d (.ref a)->E (.ref a) none H'
section
variable {P:Program} {w:World} {K:Frag} {mg:Str->Option Value} {base:Heap} {x qual:Str} {st:Stmt} {f C:Addr} {fd:FuncData} {N ps:List Str} {k:Nat}
theorem aA.okI {Pr:List D->lY->Prop} (F:aA P w K mg base (CXA P w) k f fd ps (jz K C Pr)):aA P w K mg base CX0 k f fd ps (spI K C fun ds fs=>Pr ds (.ok fs)):=by
 have key:∀vs H Q E,spI K C (fun ds fs=>Pr ds (.ok fs)) vs H Q E->jz K C Pr vs H Q E0:=fun vs H Q E ⟨S,x,dx,us,ds,fs,e,hx,dm,sx,r,p,kk⟩=>⟨S,x,dx,us,ds,.ok fs,e,hx,dm,sx,r,p,fun d' e=>by cases e;exact kk,fun d' e=>nomatch e⟩
 exact ⟨fun vs H Q E h=>F.len _ _ _ _ (key vs H Q E h),fun A outer s H args us vs Q E hr he hb hv hs=>codeAny_mono (F.run A outer s H args us vs Q E0 hr he hb hv (key _ _ _ _ hs)) fun r s' z=>by
  cases r with
  |error e=>obtain ⟨_,_,_,_,_,_,_,_,_,_,_,h⟩:=z;exact h
  |ok fl=>cases fl<;>exact z⟩
theorem pV {H:Hp} {S':Ad} {z dx:Addr} {us:List V} {ds:List D} (hz:H z=some (.ins C dx [])) (dm:Dom H S') (sz:S' z) (r:ae K H S' ds us):
  Fm K (fun a=>if a=z then none else H a) (fun a=>S' a∧a≠z) H S' (.new C z dx []::(aI N (.non::ds)).tail) (start N (.ref z::us)):=by
 have ve:=kP (N:=N) dm (.cons (.non:Rds K H S' .non .non) r)
 have e1:aI N (.non::ds)=.val .non::(aI N (.non::ds)).tail:=rfl
 have e2:start N (.non::us)=some .non::(start N (.non::us)).tail:=rfl
 have e3:start N (.ref z::us)=some (.ref z)::(start N (.non::us)).tail:=rfl
 have nown:∀(i:Nat) (x:Sl),(aI N (.non::ds))[i]?=some x->¬x.du:=fun i x h o=>by
  have hm:=List.mem_of_getElem? h
  unfold aI at hm
  rcases List.mem_append.mp hm with hm|hm
  ·obtain ⟨y,_,e⟩:=List.mem_map.mp hm;rw [←e] at o;exact o
  ·rw [(List.mem_replicate.mp hm).2] at o;exact o
 have nt:∀(i:Nat) (x:Sl),(aI N (.non::ds)).tail[i]?=some x->¬x.du:=fun i x h=>nown (i+1) x (by rw [e1];exact h)
 refine ⟨⟨?_,fun i x h=>?_,fun i j x y a hij h1 h2 o1 o2 _=>?_,dm⟩,fun a o _ h=>?_,fun a h=>h.1,fun a h=>?_,fun a h=>?_,fun i x a h o h2=>?_⟩
 ·have:=ve.len
  rw [e3,List.length_cons,List.length_cons]
  rw [e1,e2,List.length_cons,List.length_cons] at this
  exact this
 ·rw [e3]
  cases i with
  |zero=>cases h;exact ⟨_,rfl,[],rfl,sz,hz,.nil⟩
  |succ i=>
   obtain ⟨v,q1,q2⟩:=ve.rel (i+1) x (by rw [e1];exact h)
   rw [e2] at q1
   exact ⟨v,q1,q2⟩
 ·cases i with
  |zero=>cases j with
   |zero=>exact absurd rfl hij
   |succ j=>exact absurd o2 (nt j y h2)
  |succ i=>exact absurd o1 (nt i x h1)
 ·by_cases ha:a=z
  ·rw [if_pos ha] at h;cases h
  ·rw [if_neg ha] at h;exact h
 ·by_cases ha:a=z
  ·exact .inr (if_pos ha)
  ·exact .inl ⟨h,ha⟩
 ·show (if a=z then none else H a)≠none
  rw [if_neg h.2];exact dm a h.1
 ·cases i with
  |zero=>
   rw [e3] at h2
   cases h2
   exact if_pos rfl
  |succ i=>exact absurd o (nt i x h)
theorem z8 {Pr:List D->lY->Prop} (F:Fun K x qual st f fd) (S:bO N ps (ai st)) (len:∀ds r,Pr ds r->ds.length+1=ps.length)
  (hb:∀(cdv:Value) (A:Around) (outer:List Env) (s:Shared) (H:Hp) (E:XK) (ds:List D) (fs:List (Str×D)) (z dx:Addr),ay k (A.deeper (envOfC qual (ai st) s.heap.objs.size f cdv))->Pr ds (.ok fs)->
   ∃ρ',ρ'[0]?=some (.new C z dx fs)∧DSs (bQ (CXA P w) P w K mg base N qual (ai st) f cdv A outer s H E).nox (.new C z dx []::(aI N (.non::ds)).tail) (aV st) (.nx ρ'))
  (hx:∀(cdv:Value) (A:Around) (outer:List Env) (s:Shared) (H:Hp) (E:XK) (ds:List D) (d:D) (z dx:Addr),ay k (A.deeper (envOfC qual (ai st) s.heap.objs.size f cdv))->Pr ds (.xc d)->
   ∃ρ',bT (bQ (CXA P w) P w K mg base N qual (ai st) f cdv A outer s H E).nox (.new C z dx []::(aI N (.non::ds)).tail) (aV st) ρ' d):aA P w K mg base (CXA P w) (k+1) f fd ps (jz K C Pr):=by
 refine F.okC S ?_ ?_
 ·rintro vs H Q E ⟨S,z,dx,us,ds,fs,rfl,hz,dm,sz,r,p,kk⟩
  rw [List.length_cons,←r.length];exact len ds fs p
 ·rintro cdv A outer s H vs Q E hr ⟨S',z,dx,us,ds,res,rfl,hz,dm,sz,r,p,k1,k2⟩
  have fm:=pV (C:=C) (N:=N) hz dm sz r
  cases res with
  |ok fs=>
   obtain ⟨ρ',h0,h⟩:=hb cdv A outer s H E ds fs z dx hr p
   refine ⟨_,PSs.nox h,_,_,S',fm,fun σ' H' S'' f=>?_⟩
   obtain ⟨v,_,gs,_,sz',hz',rf⟩:=f.ve.rel 0 _ h0
   refine k1 fs rfl H' gs (fun a o ha h=>f.ext a o (fun z=>z) (by rw [if_neg ha];exact h)) hz' (rf.av fun a h=>?_)
   by_cases ha:a=z
   ·subst ha;exact .inl sz'
   ·exact .inl (f.sub a ⟨h,ha⟩)
  |xc d=>
   obtain ⟨ρ',h⟩:=hx cdv A outer s H E ds d z dx hr p
   refine ⟨_,mB h,_,_,S',fm,fun σ' a H' S'' f hn r=>k2 d rfl a H' (fun b o hb h=>f.ext b o (fun z=>z) (by rw [if_neg hb];exact h)) (fun hne=>by rw [if_neg hne] at hn;exact hn) (f.out r)⟩
end
section
variable {X:Cx} {ρ:Rho} {k:Nat} {f C:Addr} {fd:FuncData} {ps:List Str} {x m:Str} {p pos apos:Pos} {e o:Expr} {es:List Expr} {ds:List D} {d:D}
theorem sf {Pr:List D->lY->Prop} (M:Mk X.K C f) (F:aA X.prog X.w X.K X.mg X.base (CXA X.prog X.w) k f fd ps (jz X.K C Pr)) (hr:ay (k+1) X.A) (hg:Gl X x) (hm:X.mg x=some (.ref C)) (hb:Binds X.K fd ps [])
  (ha:DA X ρ (e::es) ds) (hp:Pr ds (.xc d)) (hx:∀e s,¬X.xe e s:=by intro _ _ z;exact z) (hdb:(x==("__debug__":Str))=false:=by decide) (he:starEach (e::es) X.env=(false,eval e X.env)::starEach es X.env:=by rfl) (hpl:(backTo pos (starEach es X.env)).any (·.1)=false:=by rfl):
  DEX X ρ (.Call (.Name x p) (e::es) [] pos) d:=fun pins R=>PE.weak (rp M F hr hg hm hb (PA.xw ha hx) hdb he hpl) fun σ H Q ⟨S,ve,kk⟩=>⟨S,ve,fun vs H1 ex r z dx hz hdx hne=>by
   have e1:aF H1 (upd H1 dx (.own z)):=Ext.new hdx
   have hz1:upd H1 dx (.own z) z=none:=by rw [ag (Ne.symm hne)];exact hz
   have e2:aF H1 (upd (upd H1 dx (.own z)) z (.ins C dx [])):=e1.trans (Ext.new hz1)
   have dm:=(ve.ext ex).dom
   refine ⟨S.and z,z,dx,vs,ds,.xc d,rfl,au,fun a h=>?_,.inr rfl,(r.av (S':=S.and z) fun b h=>h.imp_right fun q=>by rw [q];exact hz).ext (e2.to _),hp,(fun _ e=>nomatch e),fun d' e a H' hk hn rd=>⟨a,rfl,?_⟩⟩
   ·rcases h with h|h
    ·exact dm.ext e2 a h
    ·rw [h,au];intro q;cases q
   ·cases e
    have ez:a=z∨H1 a=none:=by
     by_cases haz:a=z
     ·exact .inl haz
     ·refine .inr ?_
      have:=hn haz
      rw [ag haz] at this
      exact e1.back this
    have hH:H1 a=none:=by
     rcases ez with h|h
     ·rw [h];exact hz
     ·exact h
    refine kk a H' (ex.trans fun b o n h=>hk b o (aj h hz) (e2 b o n h)) (ex.back hH) (rd.av fun b h=>.inl ⟨.inl h,fun q=>?_⟩)
    subst q
    exact dm b h hz⟩
end
end CT
namespace CT
open PySem PySem.Spec PySem.W L2
open PyProof.Rows hiding St
section
variable {K:Frag} {C CE:Addr} {h:Heap} {M:Model}
theorem kv (X:K.In h) {cd:ClassData} (hc:clsIn K C=some cd):Looks M h (isType (.ref C)) true:=by
 unfold clsIn at hc
 split at hc
 ·rename_i ho
  intro A' Q' E' s' k q
  unfold isType loadHead
  exact wpAny_bind (wpAny_loadPart (k _ _ (X _ _ ho)) (wpAny_pure q))
 ·cases hc
theorem kr {a:Addr} {c:Value} {dd:Option Addr} {vs:Array Value} {sl:Array (Option Value)} (ho:h.get? a=some ⟨c,dd,.fields vs,sl⟩):Looks M h (isType (.ref a)) false:=by
 intro A' Q' E' s' k q
 unfold isType loadHead
 exact wpAny_bind (wpAny_loadPart (k _ _ ho) (wpAny_pure q))
end
section
variable {X:Cx} {pins pins':List (Addr×Obj)} {R:St->Addr->Hp->Prop} {e:Expr} {t:TE} {pos:Pos}
theorem k7 (he:PE (X.xw pins R) e t) (hh:X.A.handled=none):PS (X.xw pins R) (.Raise (some e) none pos) (fun D σ H=>t σ H fun x H1=>∃a C dx,x=.ref a∧H1 a=some (aJ true a C dx)∧b4 X.K C∧typeIn X.K (.ref C)=some (.type "type")∧R σ a (upd H1 a (aJ false a C dx))):=by
 intro pins' s σ H D I h
 rw [arm_exec_Raise]
 refine wpAny_bind (wpAny_standAt ?_)
 show wpAny _ _ (raiseStmt _ (some (do let v←eval e X.env;standAt pos;pure v)) none) _ _ _
 unfold raiseStmt
 refine wpAny_bind (wpAny_bind (thn (he pins' s σ H _ I h) fun xv s1 ⟨x,H1,I1,rx,a,C,dx,ex,ha,c,ty,hR⟩=>wpAny_bind (wpAny_standAt (wpAny_pure ?_))))
 subst ex
 obtain rfl:xv=Value.ref a:=rx
 obtain ⟨vs,ho,hz,hf⟩:=eG (I1.hok a _ ha)
 have h1:vs[1]?=some .none:=hf rfl
 have T0:Looks (model X.prog X.w) s1.heap (isType (.ref a)) false:=kr ho
 have T1:Looks (model X.prog X.w) s1.heap (typeOf (.ref a)) (.ref C):=(Looks.ld ho).andThen .now
 have T2:Looks (model X.prog X.w) s1.heap (isSubtype (.ref C) (.type "BaseException")) true:=looks_mroIn I1.kIn (c.mro (by decide))
 have T3:Looks (model X.prog X.w) s1.heap (typeOf (.ref C)) (.type "type"):=looks_typeIn I1.kIn ty
 refine wpAny_bind (wpAny_pure (wpAny_bind (wpAny_holding ?_)))
 unfold excFromValue isExcClass
 refine wpAny_bind (wpAny_bind (T0.here (wpAny_pure ?_)))
 rw [if_neg (by decide)]
 unfold isInstance
 refine wpAny_bind (wpAny_bind (T1.here (T2.here ?_)))
 rw [if_pos rfl]
 refine wpAny_pure (wpAny_bind (T0.here ?_))
 rw [if_neg (by decide)]
 unfold raisedInstance
 refine wpAny_bind (wpAny_bind (T1.here (wpAny_bind (T3.here ?_))))
 rw [if_pos (show (Value.type "type"==Value.type "type")=true from by simp)]
 refine wpAny_pure ?_
 have tr:bU (X.xw pins R) pins' H1 s1.heap a (fun _=>True):=⟨_,vs,ho,rfl,.inl ⟨h1,trivial⟩⟩
 refine wpAny_bind (dI I1 tr fun s2 I2 t2=>?_)
 refine wpAny_raiseNew_none hh ?_
 obtain ⟨vs2,ho2,hz2,hf2⟩:=eG (I2.hok a _ ha)
 have I3:=I2.excAt (fr':=false) (t':=s2.toks) (h':=s2.heap) ha (fun b o _ q=>q) ho2 hz2 (fun z=>nomatch z)
 refine ⟨σ,a,_,C,dx,rfl,I3.xwp,au,⟨_,vs2,ho2,rfl,.inl ⟨hf2 rfl,trivial⟩⟩,hR⟩
end
section
variable {X:Cx} {ρ:Rho} {k:Nat} {f C:Addr} {fd:FuncData} {ps:List Str} {x:Str} {p pos cpos:Pos} {e:Expr} {es:List Expr} {ds:List D}
theorem m4 (hm:PySem.W.excIn X.K C bmV "ValueError.__new__"=true) (hk:PySem.W.keepIn X.K (.ref C)=true) (hg:Gl X x) (hx:X.mg x=some (.ref C)) (hc:b4 X.K C) (ty:typeIn X.K (.ref C)=some (.type "type")) (hh:X.A.handled=none)
  (hdb:(x==("__debug__":Str))=false:=by decide):DSX X ρ (.Raise (some (.Call (.Name x p) [] [] cpos)) none pos) ρ (.exc C []):=fun pins R=>
 PS.weak (k7 (tN (X:=X.xw pins R) hm hk hg hx hdb) hh) fun E σ H ⟨H₀,S₀,S,f,kk⟩ a ha=>⟨a,C,none,rfl,au,hc,ty,by
  rw [uA]
  exact kk σ a _ S (f.grow (Ext.new ha)) (f.ext.back ha) (.fH au (f.ve.dom.not ha))⟩
theorem pb {fls:List Str} (M:XMk X.K C f) (F:aA X.prog X.w X.K X.mg X.base CX0 k f fd ps (spX C fls)) (hr:ay (k+1) X.A) (hg:Gl X x) (hm:X.mg x=some (.ref C)) (hb:Binds X.K fd ps []) (ha:DA X ρ (e::es) ds) (hl:ds.length=fls.length) (hl2:ds.length<=1000)
  (hc:b4 X.K C) (ty:typeIn X.K (.ref C)=some (.type "type")) (hx:∀e s,¬X.xe e s:=by intro _ _ z;exact z)
  (hdb:(x==("__debug__":Str))=false:=by decide) (he:starEach (e::es) X.env=(false,eval e X.env)::starEach es X.env:=by rfl) (hpl:(backTo cpos (starEach es X.env)).any (·.1)=false:=by rfl):
  DSX X ρ (.Raise (some (.Call (.Name x p) (e::es) [] cpos)) none pos) ρ (.exc C (fls.zip ds)):=fun pins R=>
 PS.weak (k7 (ql (X:=X.xw pins R) M F hr hg hm hb d3 (PA.xw ha hx) hdb he hpl) hr.hd) fun E σ H ⟨H₀,S₀,S,f,kk⟩=>⟨S,f.ve,fun vs H1 ex r=>⟨by rw [←r.length];exact hl2,fun z hz=>⟨z,vs,rfl,by rw [←r.length];exact hl,au,fun dx H' hd hne h1 h2 h3=>⟨rfl,z,C,some dx,rfl,h1,hc,ty,by
  have hd1:H1 dx=none:=by rw [ag hne] at hd;exact hd
  have dm:=(f.ve.ext ex).dom
  have e1:aF H1 (upd H' z (aJ false z C (some dx))):=fun c u _ hc=>by rw [ag (aj hc hz),h3 c (aj hc hz) (aj hc hd1),ag (aj hc hz)];exact hc
  exact kk σ z _ S (f.grow (ex.trans e1)) (f.ext.back (ex.back hz)) (.exc au (by rw [ag hne];exact h2) (dm.not hz) (dm.not hd1) (aG.zip (r.ext (e1.to S))))⟩⟩⟩⟩
end
noncomputable abbrev _root_.L2.Cx.inH (X:Cx) (a:Addr):Cx:={X with A:=X.A.mark (some (.ref a)),calm:=false}
theorem _root_.L2.Inv.inH {X:Cx} {pins:List (Addr×Obj)} {σ:St} {H:Hp} {s:Shared} {a:Addr} (I:Inv X pins σ H s):Inv (X.inH a) pins σ H s:=
 ⟨⟨I.ok.mod,I.ok.kind,I.ok.glob,I.ok.blt,I.ok.above,I.ok.inj,I.ok.has,I.ok.cab,(fun z=>nomatch z),I.ok.frames,I.ok.stk,I.ok.exf,I.ok.bs,I.ok.bsz,I.ok.fA,I.ok.ie,I.ok.cJ,I.ok.frf⟩,I.os,I.bare,I.base,I.loc,I.cell,I.free,I.bF,I.pin,I.hok,I.len⟩
theorem _root_.L2.Inv.unH {X:Cx} {pins:List (Addr×Obj)} {σ:St} {H:Hp} {s:Shared} {a:Addr} (ok:X.Ok) (I:Inv (X.inH a) pins σ H s):Inv X pins σ H s:=⟨ok,I.os,I.bare,I.base,I.loc,I.cell,I.free,I.bF,I.pin,I.hok,I.len⟩
section
variable {X:Cx} {pins:List (Addr×Obj)} {σ:St} {H:Hp} {s:Shared} {a C CE:Addr} {dx:Option Addr} {A:Around} {E:Value->Shared->Prop}
structure lJ (K:Frag) (CE:Addr):Prop where
 cl:∃cd,clsIn K CE=some cd
 ty:typeIn K (.ref CE)=some (.type "type")
 be:mroIn K CE (.type "BaseException")=some true
theorem nI {b fr:Bool} {Q:Bool->Shared->Prop} (I:Inv X pins σ H s) (ha:H a=some (aJ fr a C dx)) (c:lJ X.K CE) (hm:mroIn X.K C (.ref CE)=some b) (h:Q b s):wpAny (model X.prog X.w) A (excMatches (.ref a) (.ref CE)) Q E s:=by
 obtain ⟨vs,ho,hz,hf⟩:=eG (I.hok a _ ha)
 obtain ⟨cd,hcd⟩:=c.cl
 have T1:Looks (model X.prog X.w) s.heap (typeOf (.ref a)) (.ref C):=(Looks.ld ho).andThen .now
 have T2:Looks (model X.prog X.w) s.heap (isSubtype (.ref CE) (.type "BaseException")) true:=looks_mroIn I.kIn c.be
 have T3:Looks (model X.prog X.w) s.heap (typeOf (.ref CE)) (.type "type"):=looks_typeIn I.kIn c.ty
 have T4:Looks (model X.prog X.w) s.heap (isType (.ref CE)) true:=kv I.kIn hcd
 have T5:Looks (model X.prog X.w) s.heap (isSubtype (.ref C) (.ref CE)) b:=looks_mroIn I.kIn hm
 have T6:Looks (model X.prog X.w) s.heap (isSubtype (.type "type") (.type "tuple")) false:=by rw [tc_notTuple];exact .now
 obtain ⟨hp,g,d,tk,os⟩:=s
 unfold excMatches isInstance isExcClass
 cases b with
 |true=>repeat (first|exact h|lk)
 |false=>repeat (first|exact h|lk)
theorem _root_.L2.Inv.unset {i:Nat} {n:Str} {h':Heap} {t':Nat} (I:Inv X pins σ H s) (hN:X.N.Nodup) (hi:X.N[i]?=some n) (hs:Heap.SameBut X.env.locals s.heap h') (hn:∀m,s.heap.Ns X.env.locals m->∃v,h'.Ns X.env.locals (fun x=>if x=n then v else m x)):
  Inv X pins (σ.set i none) H {s with heap:=h',toks:=t'}:=by
 obtain ⟨m,hm,hl⟩:=id I.loc
 obtain ⟨v,hn'⟩:=hn m hm
 obtain ⟨oL,_,_,hoL,_⟩:=id hm
 have hiσ:i<σ.length:=by rw [I.len];exact (List.getElem?_eq_some_iff.mp hi).1
 have cne:=I.cne
 refine ⟨I.ok,I.os,I.bare,⟨fun b o e n hb hx=>?_,fun b o e n hb hx=>?_,I.base.free,fun b o e hx=>?_,I.base.eY,I.base.eJ,I.base.eP⟩,⟨_,hn',fun j y v' e1 e2 e3=>?_⟩,fun y c e=>?_,I.free,I.bF,fun p hp=>?_,fun b ob e=>?_,by simpa using I.len⟩
 ·exact (hs.2 b (Nat.ne_of_lt (Nat.lt_of_lt_of_le (Heap.lt_size e) I.ok.above))).trans (I.base.keep b o e n hb hx)
 ·obtain ⟨sl,e1⟩:=I.base.slot b o e n hb hx
  exact ⟨sl,(hs.2 b (Nat.ne_of_lt (Nat.lt_of_lt_of_le (Heap.lt_size e) I.ok.above))).trans e1⟩
 ·obtain ⟨o',e1⟩:=I.base.there b o e hx
  exact ⟨o',(hs.2 b (Nat.ne_of_lt (Nat.lt_of_lt_of_le (Heap.lt_size e) I.ok.above))).trans e1⟩
 ·by_cases hj:j=i
  ·subst hj
   rw [List.getElem?_set_self hiσ] at e2
   cases e2
  ·rw [List.getElem?_set_ne (Ne.symm hj)] at e2
   obtain ⟨u',r',q⟩:=hl j y v' e1 e2 e3
   refine ⟨u',r',?_⟩
   rcases q with ⟨k,e⟩|⟨k,c,e,z⟩
   ·refine .inl ⟨k,?_⟩
    have:y≠n:=fun e=>hj (iy hN e1 (e▸hi))
    simp [this,e]
   ·exact .inr ⟨k,c,e,z.sameBut hs (cne y c e)⟩
 ·obtain ⟨w',z⟩:=I.cell y c e
  exact ⟨w',z.sameBut hs (cne y c e)⟩
 ·obtain ⟨e,n,ne,nf,d⟩:=I.pin p hp
  exact ⟨(hs.2 p.1 ne).trans e,n,ne,nf,d⟩
 ·refine (I.hok b ob e).eA (fun c w' hc q=>(hs.2 c ?_).trans q) (fun _ q=>q) fun _ _ q=>q
  rintro rfl
  rcases hc with rfl|hc
  ·rw [I.free] at e;cases e
  ·rw [I.free] at hc;cases hc
theorem name_goes {M:Model} {i:Nat} {n:Str} {pos:Pos} {Q:Unit->Shared->Prop} (I:Inv X pins σ H s) (hN:X.N.Nodup) (hi:X.N[i]?=some n) (hl:X.env.scope.names.lookup n=some .local) (h:∀s',Inv X pins (σ.set i none) H s'->Q () s'):
  wpAny M A (do bindName X.env n .none;unbindBehindTheSuite X.env n pos) Q E s:=by
 have hcls:(X.env.scope.kind==.class||(X.env.scope.kind==.module&&X.env.locals !=X.env.globals))=false:=by rw [I.ok.kind];rfl
 have hk:X.env.kindOf n=some .local:=hl
 refine wpAny_bind (wpAny_bindName (dq I hN hi (.inl hl) (v:=.non) rfl (fun s1 I1=>?_) (.inr hl)))
 unfold unbindBehindTheSuite
 refine wpAny_onRaise ?_
 unfold unbindName
 refine wpAny_bind (wpAny_point (wpAny_bind ?_))
 unfold deleteName
 simp only [hk,hcls]
 rw [if_neg (by decide)]
 obtain ⟨m,hm,hlk⟩:=id I1.loc
 have hiσ:i<σ.length:=by rw [I.len];exact (List.getElem?_eq_some_iff.mp hi).1
 obtain ⟨u,ru,q⟩:=hlk i n .non hi (List.getElem?_set_self hiσ) (.inl hl)
 have hmn:(m n).isSome=true:=by
  rcases q with ⟨_,e⟩|⟨z,_⟩
  ·rw [e];rfl
  ·rw [hk] at z;rcases z with z|z<;>cases z
 refine wpAny_bind (wpAny_nsDel_keeps hm fun h₂ v hn₂ hs₂=>?_)
 rw [hmn]
 simp only [Bool.not_true,Bool.false_eq_true,if_false]
 refine wpAny_pure (wpAny_point (h _ ?_))
 have:=Inv.unset (t':=s1.toks) I1 hN hi hs₂ fun m' hm'=>⟨v,by rw [Heap.Ns.eq_nsMap hm',←Heap.Ns.eq_nsMap hm];exact hn₂⟩
 rw [List.set_set] at this
 exact this
end
noncomputable def Out.unset (i:Nat):Out->Out
 |.nx ρ=>.nx (ρ.set i .nil)
 |o=>o
section
variable {X:Cx} {ρ ρ1 ρ2:Rho} {body suite:List Stmt} {b₀:Stmt} {C CE:Addr} {fs:List (Str×D)} {c n:Str} {i:Nat} {cp hp pos:Pos} {o:Out} {hs:List ExceptHandler} {hd:ExceptHandler}
theorem hV (h:DSs X ρ body o) (hx:∀e s,¬X.xe e s:=by intro _ _ z;exact z):DS X ρ (.Try body (hd::hs) [] [] pos) o:=fun pins s σ H D I q=>by
 refine wpAny_Try_except (wpAny_mono (h pins s σ H D I q) (fun f s' z=>?_) fun e s' z=>absurd z (hx e s'))
 cases f with
 |next=>exact wpAny_execs_nil z
 |brk=>exact z
 |cont=>exact z
 |ret u=>exact z
theorem gW {H:Hp} {a:Addr} {o:HO} (h:H a=some o):upd H a o=H:=by
 funext b;unfold upd;split
 ·rename_i z;rw [z,h]
 ·rfl
theorem Fm.unset {K:Frag} {H₀ H:Hp} {S₀ S:Ad} {ρ:Rho} {σ:St} {i:Nat} (f:Fm K H₀ S₀ H S ρ σ):Fm K H₀ S₀ H S (ρ.set i .nil) (σ.set i none):=by
 have key:∀(j:Nat) (x:Sl),(ρ.set i .nil)[j]?=some x->(i=j∧x=.nil)∨(i≠j∧ρ[j]?=some x):=fun j x h=>by
  by_cases hj:i=j
  ·subst hj
   have hi:=(List.getElem?_eq_some_iff.mp h).1
   rw [List.getElem?_set_self (by simpa using hi)] at h
   cases h;exact .inl ⟨rfl,rfl⟩
  ·rw [List.getElem?_set_ne hj] at h;exact .inr ⟨hj,h⟩
 refine ⟨⟨by simpa using f.ve.len,fun j x h=>?_,fun j k x y a hjk h1 h2 o1 o2 h3=>?_,f.ve.dom⟩,f.ext,f.sub,f.new,f.dm,fun j x a h o h2=>?_⟩
 ·rcases key j x h with ⟨rfl,rfl⟩|⟨hj,h'⟩
  ·have hi:i<ρ.length:=by have:=(List.getElem?_eq_some_iff.mp h).1;simpa using this
   exact ⟨none,List.getElem?_set_self (f.ve.len▸hi),rfl⟩
  ·rw [List.getElem?_set_ne hj]
   exact f.ve.rel j x h'
 ·rcases key j x h1 with ⟨rfl,rfl⟩|⟨hj,h1'⟩
  ·exact o1.elim
  ·rcases key k y h2 with ⟨rfl,rfl⟩|⟨hk,h2'⟩
   ·exact o2.elim
   ·rw [List.getElem?_set_ne hj] at h3
    rw [List.getElem?_set_ne hk]
    exact f.ve.dist j k x y a hjk h1' h2' o1 o2 h3
 ·rcases key j x h with ⟨rfl,rfl⟩|⟨hj,h'⟩
  ·exact o.elim
  ·rw [List.getElem?_set_ne hj] at h2
   exact f.own j x a h' o h2
theorem qT (hst:X.stack=X.env::X.outer) (hfr:X.env.frame=some X.env.locals) (hb:bT X ρ body ρ1 (.exc C fs)) (hg:Gl X c) (hm:X.mg c=some (.ref CE)) (ct:lJ X.K CE) (hmr:mroIn X.K C (.ref CE)=some true)
  (hN:X.N.Nodup) (hi:X.N[i]?=some n) (hl:X.env.scope.names.lookup n=some .local) (hs:∀a,DSs (X.inH a) (ρ1.set i (.val (.exc C fs))) (b₀::suite) o) (hx:∀e s,¬X.xe e s:=by intro _ _ z;exact z) (hdb:(c==("__debug__":Str))=false:=by decide):
  DS X ρ (.Try body [.ExceptHandler (some (.Name c cp)) (some n) (b₀::suite) hp] [] [] pos) (o.unset i):=by
 intro pins s σ H D I ⟨H₀,S₀,S,f,kk⟩
 refine wpAny_Try_except (wpAny_mono (hb pins (fun σ' a H'=>∃S',Fm X.K H₀ S₀ H' S' ρ1 σ'∧Rds X.K H' S' (.exc C fs) (.ref a)) [] s σ H ⟨fun _ _=>False,fun _ _=>False,fun _ _=>False,fun _ _=>False⟩ I.xw ⟨H₀,S₀,S,f,fun σ' a H' S' f' hn r=>⟨S',f',r⟩⟩)
  (fun fl s' z=>?_) fun e s' z=>?_)
 ·cases fl with
  |next=>obtain ⟨_,_,_,z⟩:=z;exact z.elim
  |brk=>obtain ⟨_,_,_,z⟩:=z;exact z.elim
  |cont=>obtain ⟨_,_,_,z⟩:=z;exact z.elim
  |ret u=>obtain ⟨_,_,_,_,_,z⟩:=z;exact z.elim
 ·obtain ⟨σ',a,H',C',dx,rfl,I',ha,tr,S',f',r⟩:=z
  have J:Inv X pins σ' H' s':=I'.pxw
  have eH:=gW ha
  obtain ⟨fr,dx',hr⟩:∃fr dx',H' a=some (aJ fr a C dx'):=by
   cases r with
   |fH h _=>exact ⟨_,_,h⟩
   |exc h _ _ _ _=>exact ⟨_,_,h⟩
  refine jx J J.ok.frames hst hfr ha (tr.re rfl rfl fun p hp=>by simpa using hp) fun s1 I1 t1=>?_
  rw [eH] at I1 t1
  refine dI I1 t1 fun s2 I2 t2=>?_
  refine wpAny_handleBy_cons (codeAny_handlers_test (cT (X:=X.inH a) I2.inH hg hm (nI I2 hr ct hmr ?_) hdb)) (by intro q;cases q)
  refine codeAny_handlers_suite_as (dI I2 t2 fun s3 I3 t3=>?_)
  refine dq I3 hN hi (.inl hl) (v:=.ref a) rfl (fun s4 I4=>?_) (.inr hl)
  have kk':lS X.K H₀ S₀ ⟨fun σ H=>D.nx (σ.set i none) H,D.rt,fun σ H=>D.bk (σ.set i none) H,fun σ H=>D.ct (σ.set i none) H⟩ o:=by
   cases o with
   |nx ρ2=>exact fun σ5 H5 S5 f5=>kk _ H5 S5 f5.unset
   |rt d=>exact kk
   |rfx xs=>exact kk
  refine wpAny_mono (hs a pins s4 _ H' ⟨fun σ H=>D.nx (σ.set i none) H,D.rt,fun σ H=>D.bk (σ.set i none) H,fun σ H=>D.ct (σ.set i none) H⟩ I4.inH ⟨H₀,S₀,S',f'.set r,kk'⟩) (fun fl s5 z=>?_) fun e s5 z=>absurd z (hx e s5)
  cases fl with
  |next=>
   obtain ⟨σ5,H5,I5,q⟩:=z
   exact name_goes (I5.unH J.ok) hN hi hl fun s6 I6=>⟨_,H5,I6,q⟩
  |brk=>
   obtain ⟨σ5,H5,I5,q⟩:=z
   exact name_goes (I5.unH J.ok) hN hi hl fun s6 I6=>⟨_,H5,I6,q⟩
  |cont=>
   obtain ⟨σ5,H5,I5,q⟩:=z
   exact name_goes (I5.unH J.ok) hN hi hl fun s6 I6=>⟨_,H5,I6,q⟩
  |ret u=>
   obtain ⟨v,σ5,H5,I5,rv,q⟩:=z
   exact name_goes (I5.unH J.ok) hN hi hl fun s6 I6=>⟨v,_,H5,I6,rv,q⟩
end
end CT
namespace CT
open PySem PySem.Spec PySem.W L2
open PyProof.Rows hiding St
section
variable {X:Cx} {pins:List (Addr×Obj)} {R:St->Addr->Hp->Prop}
theorem pI (hst:X.stack=X.env::X.outer) (hfr:X.env.frame=some X.env.locals):PassesOwn (model X.prog X.w) X.A X.env (X.xw pins R).xe:=by
 rintro e s' ⟨σ,a,H,C,dx,rfl,I,ha,t,hR⟩
 have eH:=gW ha
 show wpAny _ _ (noteFrame (.ref a) X.env) _ _ _
 refine jx (X:=X.pnd pins) I I.ok.frames hst hfr ha t fun s1 I1 t1=>?_
 rw [eH] at I1 t1
 unfold cameBackBy
 obtain ⟨oe,vs,h1,h2,q⟩:=id t1
 rcases q with ⟨_,z⟩|⟨T,oT,ts,fl,z1,_⟩
 ·cases z
 refine wpAny_bind (wpAny_field h1 h2 z1 ?_)
 rw [if_neg (by simp)]
 refine dI (X:=X.pnd pins) I1 t1 fun s2 I2 t2=>?_
 exact ⟨σ,a,H,C,dx,rfl,I2,ha,t2.imp fun _ _=>trivial,hR⟩
theorem aY.xw {pins':List (Addr×Obj)} {H:Hp} {b:Addr} (h:aY X (pins++pins') H b):aY (X.xw pins R) pins' H b:=
 ⟨h.1,h.2.1,h.2.2.1,h.2.2.2.1,h.2.2.2.2.1,fun p hp=>h.2.2.2.2.2 p (by
  rcases List.mem_append.mp hp with hp|hp
  ·rcases List.mem_append.mp hp with hp|hp
   ·exact List.mem_append_left _ hp
   ·exact List.mem_append_right _ (List.mem_append_left _ hp)
  ·exact List.mem_append_right _ (List.mem_append_right _ hp))⟩
theorem PI.xw {tg iter:Expr} {wi:TI} (h:PI X tg iter wi) (hx:∀e s,¬X.xe e s):PI (X.xw pins R) tg iter wi:=fun pins' s σ H Q I hw=>
 wpAny_mono (h (pins++pins') s σ H Q I.hU hw) (fun v s1 z=>wpAny_mono z (fun u s2 ⟨it,fp,tn,J,H',e,I',tu,t0,fo,q⟩=>⟨it,fp,tn,J,H',e,I'.dR,tu,t0,fun b hb=>aY.xw (fo b hb),q⟩) fun e s z=>absurd z (hx e s)) fun e s z=>absurd z (hx e s)
theorem PG.xw {tg:Expr} {t:TG} (h:PG X tg t) (hx:∀e s,¬X.xe e s):PG (X.xw pins R) tg t:=fun pins' s σ H v u Q I r hw=>
 wpAny_mono (h (pins++pins') s σ H v u Q I.hU r hw) (fun _ s1 ⟨σ',H',I',q⟩=>⟨σ',H',I'.dR,q⟩) fun e s z=>absurd z (hx e s)
theorem rD {sts:List Stmt} (hx:∀e s,¬X.xe e s):PSs (X.xw pins R) sts (fun E σ H=>(∃ρ o,DSs X ρ sts o∧tDS X.K ρ o E σ H)∨∃ρ ρ' d,bT X ρ sts ρ' d∧tSX X.K ρ ρ' d R σ H):=fun pins' s σ H D I q=>by
 rcases q with ⟨_,_,h,q⟩|⟨_,_,_,h,q⟩
 ·exact PSs.xw h hx pins' s σ H D I q
 ·exact h pins R pins' s σ H D I q
end
inductive jv (X:Cx) (tg:Expr) (body:List Stmt) (ρe:Rho) (de:D):List D->Rho->Prop
 |here {d:D} {ds:List D} {ρ ρ1:Rho} {ks:List Nat}:DG X tg ρ d ρ1 ks->b8 ρ ρ1 ks->bT X ρ1 body ρe de->jv X tg body ρe de (d::ds) ρ
 |cons {d:D} {ds:List D} {ρ ρ1 ρ2:Rho} {ks:List Nat}:DG X tg ρ d ρ1 ks->b8 ρ ρ1 ks->DSs X ρ1 body (.nx ρ2)->jv X tg body ρe de ds ρ2->jv X tg body ρe de (d::ds) ρ
theorem uv {X:Cx} {ρ ρe:Rho} {de:D} {tg iter:Expr} {body:List Stmt} {its:List D} {pos:Pos} (hst:X.stack=X.env::X.outer) (hfr:X.env.frame=some X.env.locals) (hc:X.calm=true) (hi:DI X tg ρ iter its) (hb:jv X tg body ρe de its ρ)
  (hx:∀e s,¬X.xe e s:=by intro _ _ z;exact z) (hs:∀x,foldedSetIterable iter X.env x=pure x:=by intro _;rfl):DSX X ρ (.For tg iter body [] pos) ρe de:=fun pins R=>by
 refine PS.weak (qH (X:=X.xw pins R) (pI hst hfr) hc (PI.xw hi hx) (PG.xw (og (G:=DG X tg) fun _ _ _ _ h=>h) hx) (rD (sts:=body) hx) hs) ?_
 rintro E σ H ⟨H₀,S₀,S,f,k⟩
 refine ⟨S,f.ve,fun J H1 ex hJ=>?_⟩
 have f1:=f.grow ex
 obtain ⟨e0,fc⟩:=f1.cut
 refine ⟨fun i m σ' H'=>∃S' ρ',Fm X.K (dj H1 S S₀) S₀ H' S' ρ' σ'∧jv X tg body ρe de (its.drop i) ρ'∧i<=its.length∧m=its.length - i,⟨its.length,S,ρ,fc,by simpa using hb,Nat.zero_le _,by simp⟩,?_⟩
 rintro i m σ' H' ⟨S',ρ',f',hf,hi',rfl⟩
 have ext1:Ext S H1 H':=fun a u n h=>f'.ext a u (fun z=>z) (cW h fun s=>(n s).elim)
 have new1:∀a,S' a->S a∨H1 a=none:=fun a s=>by
  rcases f'.new a s with z|z
  ·exact .inl (f.sub a z)
  ·by_cases q:S a
   ·exact .inl q
   ·cases h:H1 a with
    |none=>exact .inr rfl
    |some u=>rw [cW h fun s=>(q s).elim] at z;cases z
 obtain ⟨J1,J2⟩:=hJ H' S' ext1 new1 f'.ve.dom i
 by_cases hlt:i<its.length
 ·have hd:its[i]?=some its[i]:=by simp [hlt]
  obtain ⟨go,yld⟩:=J1 _ hd
  rw [List.drop_eq_getElem_cons hlt] at hf
  have rep:∀{ρ1:Rho} {ks:List Nat} {x:V} {H2:Hp},J.yld i H' x H2->DG X tg ρ' its[i] ρ1 ks->b8 ρ' ρ1 ks->∀(R:St->Hp->Prop),(∀σ2,Fm X.K (dj H1 S S₀) S₀ H2 S' ρ1 σ2->R σ2 H2)->gA X.K (DG X tg) x σ' H2 R:=fun {ρ1 ks x H2} y hg htg R hR=>by
   obtain ⟨e1,r1⟩:=yld x H2 y
   exact ⟨ρ',its[i],ρ1,ks,hg,S',(f'.grow e1).ve,r1,fun σ2 ve2 c=>hR σ2 ((f'.grow e1).tgt ve2 c htg)⟩
  cases hf with
  |cons hg htg hbd hrest=>
   rename_i ρ1 ρ2 ks
   refine .inr ⟨go,fun σ2 H2=>∃S2,Fm X.K (dj H1 S S₀) S₀ H2 S2 ρ2 σ2,fun σ2 H2 ⟨S2,f2⟩=>⟨its.length - (i+1),by omega,S2,ρ2,f2,hrest,hlt,rfl⟩,fun x H2 y=>?_⟩
   exact rep y hg htg _ fun σ2 f2=>.inl ⟨ρ1,_,hbd,_,_,S',f2,fun σ3 H3 S3 f3=>⟨S3,f3⟩⟩
  |here hg htg hbd=>
   rename_i ρ1 ks
   refine .inr ⟨go,fun _ _=>False,fun _ _ z=>z.elim,fun x H2 y=>?_⟩
   refine rep y hg htg _ fun σ2 f2=>.inr ⟨ρ1,ρe,de,hbd,_,_,S',f2,fun σ3 a H3 S3 f3 hn r=>?_⟩
   exact k σ3 a H3 S3 (f3.mono e0 f.dm) (e0.back hn) r
 ·have e:i=its.length:=by omega
  subst e
  rw [List.drop_length] at hf
  cases hf
end CT
namespace IN
open PySem PySem.Spec PySem.W L2 CT
open PyProof.Rows hiding St
section
variable {X:Cx} {ρ:Rho} {k:Nat} {f C:Addr} {fd:FuncData} {ps:List Str} {x m:Str} {p pos apos:Pos} {e o:Expr} {es:List Expr} {ds:List D} {d:D}
theorem oW {pins:List (Addr×Obj)} {R:St->Addr->Hp->Prop} {sp:Sp} {ta:TE} {pl:Sem Bool} (he:PE (X.xw pins R) o ta) (c:Cls X.K C) (hm:Meth X.K C m f) (F:aA X.prog X.w X.K X.mg X.base (CXA X.prog X.w) k f fd ps sp) (hr:ay k X.A) (hb:Binds X.K fd ps [])
  (ht:eval (.Call (.Attribute o m apos) [] [] pos) X.env=(do
   let ov←eval o X.env
   standAt apos.atName
   let (f,first)←holding [ov] (getMethod ov m pl)
   callWith pos f first (backTo pos (starEach [] X.env)) (backToKw pos (keywordEach [] X.env)))):
  PE (X.xw pins R) (.Call (.Attribute o m apos) [] [] pos) (fun σ H Q=>ta σ H fun x H1=>∃a dx fs,x=.ref a∧H1 a=some (.ins C dx fs)∧fs.lookup m=none∧sp [x] H1 Q (xk R σ)):=by
 intro pins' s σ H Q I h
 refine PySem.W.methodCall_KW (pl:=pl) (thn (he pins' s σ H _ I h) fun u s1 ⟨x,H1,I1,rx,a,dx,fs,ex,ea,l,q⟩=>?_) ht
 subst ex
 obtain rfl:u=Value.ref a:=rx
 refine dU I1 ea c hm l ?_
 exact PySem.W.callWith_K0 (first:=[.ref a]) I1.kIn hm.kp (jG (us:=[.ref a]) (vs:=[.ref a]) F hr hb I1 (.cons rfl .nil) q)
theorem pM {Pr:List D->Res->Prop} {fs:List (Str×D)} {pl:Sem Bool} (ho:DE X ρ o (.ins C fs)) (hl:fs.lookup m=none) (c:Cls X.K C) (hm:Meth X.K C m f) (F:aA X.prog X.w X.K X.mg X.base (CXA X.prog X.w) k f fd ps (spR X.K Pr)) (hr:ay k X.A) (hb:Binds X.K fd ps [])
  (hp:Pr [.ins C fs] (.xc d)) (hx:∀e s,¬X.xe e s)
  (ht:eval (.Call (.Attribute o m apos) [] [] pos) X.env=(do
   let ov←eval o X.env
   standAt apos.atName
   let (f,first)←holding [ov] (getMethod ov m pl)
   callWith pos f first (backTo pos (starEach [] X.env)) (backToKw pos (keywordEach [] X.env)))):
  DEX X ρ (.Call (.Attribute o m apos) [] [] pos) d:=fun pins R=>PE.weak (oW (PE.xw ho hx) c hm F hr hb ht) fun σ H Q ⟨S,ve,kk⟩=>⟨S,ve,fun v H1 ex1 r1=>by
   obtain ⟨a,dx,gs,rfl,hh,rf⟩:=r1.gc
   exact ⟨a,dx,gs,rfl,hh,rf.none hl,S,_,.xc d,(ve.ext ex1).dom,.cons r1 .nil,hp,(fun d' e=>nomatch e),fun d' e a H'' ex' hn r'=>⟨a,rfl,by
    cases e;exact kk a H'' (ex1.trans ex') (ex1.back hn) r'⟩⟩⟩
end
section
variable {X:Cx} {ρ ρ':Rho} {e tg:Expr} {d:D} {i:Nat} {c:Ow} {st:Stmt} {pos:Pos}
theorem qK (hr:ρ[i]?=some (.owx c)) (h:DSX X (ρ.set i (.val c.D)) st ρ' d):DSX X ρ st ρ' d:=fun pins R=>PS.weak (h pins R) fun E σ H ⟨H₀,S₀,S,f,k⟩=>by
 obtain ⟨S',_,f'⟩:=f.give hr
 exact ⟨H₀,S₀,S',f',k⟩
theorem sC (he:DEX X ρ e d) (hs:swapsWithSole [tg] e pos.line X.env=pure false) (hw:swappedStores [tg] e X.env=pure none) (h1:(assignEach [tg] X.env).map (·.2)=[assign tg X.env]):
  DSX X ρ (.Assign [tg] e pos) ρ d:=fun pins R=>PS.weak (pJ (X:=X.xw pins R) (g:=fun _ _ _ _=>False) (he pins R) (fun _ _ _ _ _ _ _ _ _ z=>z.elim) hs hw h1) fun E σ H q=>nh q
theorem rV {X:Cx} {ρ ρ' ρ'':Rho} {sts:List Stmt} {d:D} (w:Wk ρ ρ') (h:bT X ρ' sts ρ'' d):bT X ρ sts ρ'' d:=fun pins R=>PSs.weak (h pins R) fun E σ H ⟨H₀,S₀,S,f,k⟩=>⟨H₀,S₀,S,f.wk w,k⟩
end
end IN
set_option genInjectivity false
namespace IN
open PySem PySem.Spec L2 CT
open PyProof.Rows hiding St
inductive BO where|add|sub|mul|mod|fdiv|pow|shr
inductive CO where|lt|le|gt|ge|eq|ne|is|isn|inn|nin
inductive BN where|len|sum|all|any|abs|int|str|tuple|list|dict|min|max|isin|range|zip|enum|sorted
inductive Tg where
 |nm (k:Nat)|tp (ts:List Tg)
inductive CE where
 |nop|var (i:Nat)|lit (d:D)|gl (x:Str)
 |bin (o:BO) (a b:CE)|neg (a:CE)|nt (a:CE)|and (a b:CE)|or (a b:CE)
 |cmp (o:CO) (a b:CE)|isN (a:CE)|kS (a:CE)|chn (a b c:CE)|ife (c a b:CE)
 |tup (es:List CE)|lst (es:List CE)|ix (a b:CE)|sl (a lo hi:CE)
 |fld (a:CE) (f:Str)|blt (n:BN) (es:List CE)|fn (x:Str) (es:List CE)|mth (o:CE) (m:Str) (es:List CE)
 |comp (w:Nat) (cap:List Nat) (tg:Tg) (it test body:CE)
 |emit (e:CE)|loop (tg:Tg) (it test body:CE)
 |lj
inductive CS' where
 |asg (t:Tg) (e:CE) (L:List Nat)|aug (i:Nat) (o:BO) (e:CE) (L:List Nat)
 |par (i j:Nat) (a b:CE) (L:List Nat)
 |put (i:Nat) (k e:CE) (L:List Nat)|fR (f:Str) (e:CE) (L:List Nat)
 |app (i:Nat) (e:CE) (L:List Nat)|clr (i:Nat)
 |exp (e:CE) (L:List Nat)|ret (e:CE) (L:List Nat)|xG
 |ife (c:CE) (L:List Nat) (a b:List CS')|for (t:Tg) (it:CE) (L:List Nat) (b:List CS')|whl (c:CE) (L:List Nat) (b:List CS')
 |rse (x:Str) (es:List CE) (L:List Nat)
 |try (b:List CS') (x:Str) (i:Nat) (h:List CS')
 |pass
 |fgt (L:List Nat)
 |mov (j i:Nat)
structure Def where
 slots:Nat
 aw:Nat
 init:Bool:=false
 body:List CS'
inductive Tag where
 |ty (n:String)|cl (C:Addr)|xc (C:Addr)
 deriving DecidableEq
noncomputable def yD:D->Option Tag
 |.ins C _=>some (.cl C)|.exc C _=>some (.xc C)
 |d=>(tyN d).map .ty
noncomputable def AN:D->Option Tag
 |.ty n=>some (.ty n)|.cl C=>some (.cl C)|_=>none
structure Prg where
 glob:Str->Option D
 fn:Str->Option Str
 ini:Str->Option (Addr×Str)
 exc:Str->Option (Addr×List Str)
 mth:Addr->Str->Option Str
 fok:Addr->Str->Bool
 xok:Addr->Str->Bool
 kit:Tag->Tag->Option Bool
 sub:Addr->Addr->Option Bool
 defs:Str->Option (Option Addr×Def)
inductive Rs where
 |ok (d:D)|fr (c:Ow)|xc (d:D)
inductive Oc where
 |nx (ρ:Rho)|rt (d:D)|fr (c:Ow)|xc (ρ:Rho) (d:D)
mutual
noncomputable def Bl:D->Option PK
 |.int n=>some (.i n)
 |.tup xs=>match s9 xs with|some l=>some (.t l)|none=>none
 |_=>none
noncomputable def s9:List D->Option (List PK)
 |[]=>some []
 |x::xs=>match Bl x with
  |some k=>match s9 xs with
   |some ks=>some (k::ks)
   |none=>none
  |none=>none
end
mutual
noncomputable def PK.beq:PK->PK->Bool
 |.i n,.i m=>n==m
 |.t l,.t r=>PK.wN l r
 |_,_=>false
noncomputable def PK.wN:List PK->List PK->Bool
 |[],[]=>true
 |a::l,b::r=>PK.beq a b&&PK.wN l r
 |_,_=>false
end
noncomputable def look:List (PK×D)->PK->Option D
 |[],_=>none
 |(k,d)::r,q=>if PK.beq k q then some d else look r q
noncomputable def BA (es:List (PK×D)) (q:PK) (v:D):List (PK×D):=
 match look es q with
 |some _=>es.map fun p=>if PK.beq p.1 q then (p.1,v) else p
 |none=>es++[(q,v)]
noncomputable def bE (i j:Int):Bool:=decide (i.natAbs<2^64)||decide (j.natAbs<2^64)||(decide (i.natAbs<2^100000)&&decide (j.natAbs<2^100000))
noncomputable def eh:BO->D->D->Option D
 |.add,.int i,.int j=>some (.int (i+j))
 |.add,.tup xs,.tup ys=>if xs.length+ys.length<=sizeLine then some (.tup (xs++ys)) else none
 |.add,.lst xs,.lst ys=>if xs.length+ys.length<=sizeLine then some (.lst (xs++ys)) else none
 |.sub,.int i,.int j=>some (.int (i - j))
 |.mul,.int i,.int j=>if bE i j then some (.int (i*j)) else none
 |.mul,.tup xs,.int k=>match xs with
  |[d]=>if 0<=k∧k.toNat<2^20 then some (.tup (List.replicate k.toNat d)) else none
  |_=>none
 |.mod,.int i,.int j=>if 0<j then some (.int (i%j)) else none
 |.fdiv,.int i,.int j=>if 0<j∧j.toNat<1073741824 then some (.int (i / j)) else none
 |.shr,.int i,.int j=>if 0<=j then some (.int (i / 2^j.toNat)) else none
 |_,_,_=>none
noncomputable def boolsOf:List D->Option (List Bool)
 |[]=>some []
 |.bl b::r=>match boolsOf r with|some l=>some (b::l)|none=>none
 |_=>none
noncomputable def gD (x y:D):Bool:=aZ x&&aZ y&&decide (min (toPy x).depth (toPy y).depth<=64)
noncomputable def bc:CO->D->D->Option Bool
 |.lt,.int i,.int j=>some (decide (i<j))
 |.le,.int i,.int j=>some (decide (i<=j))
 |.gt,.int i,.int j=>some (decide (j<i))
 |.ge,.int i,.int j=>some (decide (j<=i))
 |.eq,.int i,.int j=>some (decide (i=j))
 |.ne,.int i,.int j=>some (!decide (i=j))
 |.is,.bl p,.bl q=>some (p==q)
 |.isn,.bl p,.bl q=>some (p !=q)
 |.eq,x,y=>if gD x y then some (eqD x y) else none
 |.ne,x,y=>if gD x y then some (!eqD x y) else none
 |_,_,_=>none
noncomputable def aP:D->Option (List D)
 |.lst xs=>some xs|.tup xs=>some xs|_=>none
noncomputable def ixD:D->D->Option D
 |.lst xs,.int i=>atI xs i
 |.tup xs,.int i=>atI xs i
 |_,_=>none
noncomputable def slD:D->Option Int->Option Int->Option D
 |.tup xs,l,u=>some (.tup (f6 xs l u))
 |.lst xs,l,u=>some (.lst (f6 xs l u))
 |_,_,_=>none
noncomputable def b_ (G:Prg) (d:D):D->Option Bool
 |.tup [.ty a,.ty b]=>if a="list"∧b="tuple" then (match tyN d with|some _=>some (oA d "list"||oA d "tuple")|none=>none) else none
 |c=>match yD d,AN c with
  |some t,some u=>G.kit t u
  |_,_=>none
noncomputable def cL (G:Prg):BN->List D->Option D
 |.len,[d]=>match aP d with|some xs=>some (.int xs.length)|none=>none
 |.all,[d]=>match aP d with|some xs=>(match boolsOf xs with|some bs=>some (.bl (bs.all id))|none=>none)|none=>none
 |.abs,[.int i]=>some (.int (if i<0 then -i else i))
 |.tuple,[d]=>match aP d with|some xs=>some (.tup xs)|none=>none
 |.isin,[d,c]=>match b_ G d c with|some b=>some (.bl b)|none=>none
 |_,_=>none
noncomputable def itD:D->Option (List D)
 |.lst xs=>some xs|.tup xs=>some xs|_=>none
noncomputable def fD (j:Int):Bool:=decide (j.toNat<2^62)&&decide ((-j).toNat<=2^62)
noncomputable def cg:BN->List D->Option (List D)
 |.range,[.int j]=>if fD j then some ((bj j).map D.int) else none
 |.range,[.int i,.int j]=>if fD i&&fD j then some ((iZ i j).map D.int) else none
 |.zip,[x,y]=>match aP x,aP y with|some xs,some ys=>some (bo xs ys)|_,_=>none
 |.zip,[x,y,z]=>match aP x,aP y,aP z with|some xs,some ys,some zs=>some (a8 xs ys zs)|_,_,_=>none
 |.enum,[x]=>match aP x with|some xs=>some (a_ 0 xs)|_=>none
 |_,_=>none
mutual
noncomputable def ao:Tg->D->Rho->Option Rho
 |.nm k,d,ρ=>if k<ρ.length then some (ρ.set k (.val d)) else none
 |.tp ts,.tup ds,ρ=>aO ts ds ρ
 |_,_,_=>none
noncomputable def aO:List Tg->List D->Rho->Option Rho
 |[],[],ρ=>some ρ
 |t::ts,d::ds,ρ=>match ao t d ρ with|some ρ'=>aO ts ds ρ'|none=>none
 |_,_,_=>none
end
mutual
noncomputable def tks:Tg->List Nat
 |.nm k=>[k]
 |.tp ts=>dM ts
noncomputable def dM:List Tg->List Nat
 |[]=>[]
 |t::ts=>tks t++dM ts
end
noncomputable def isNil:Option Sl->Bool
 |some .nil=>true|_=>false
noncomputable def aQ:Option Sl->Option D
 |some (.val d)=>some d|_=>none
noncomputable def hW (f:D->Option (List D)):List D->Option (List D)
 |[]=>some []
 |d::ds=>match f d with
  |some xs=>match hW f ds with
   |some ys=>some (xs++ys)
   |none=>none
  |none=>none
noncomputable def eS (w:Nat) (cap:List Nat) (ρ:Rho):Rho:=List.replicate w .nil++cap.map fun i=>cz ρ[i]?
noncomputable def Rs.val:Rs->Option D
 |.ok d=>some d|.fr c=>some c.D|.xc _=>none
noncomputable def fnR (G:Prg) (cl:Str->List D->Option Rs) (x:Str) (ds:List D):Option Rs:=
 match ds with
 |[]=>match G.exc x with
  |some (C,[])=>some (.ok (.exc C []))
  |_=>none
 |d::r=>match G.fn x with
  |some k=>cl k (d::r)
  |none=>match G.ini x with
   |some (_,k)=>cl k (d::r)
   |none=>match G.exc x with
    |some (C,fs)=>if (d::r).length=fs.length∧(d::r).length<=1000 then some (.ok (.exc C (fs.zip (d::r)))) else none
    |none=>none
noncomputable def bq (G:Prg) (cl:Str->List D->Option Rs) (o:D) (m:Str) (ds:List D):Option Rs:=
 match o with
 |.ins C fs=>match fs.lookup m,G.mth C m with
  |none,some k=>cl k (.ins C fs::ds)
  |_,_=>none
 |_=>none
noncomputable def cI (G:Prg) (o:D) (f:Str):Option D:=
 match o with
 |.ins C fs=>if G.fok C f then fs.lookup f else none
 |.exc C fs=>if G.xok C f then fs.lookup f else none
 |_=>none
noncomputable def asI:CE->Option D->Option (Option Int)
 |.nop,_=>some none
 |_,some (.int i)=>some (some i)
 |_,_=>none
section
variable (G:Prg) (cl:Str->List D->Option Rs)
mutual
noncomputable def ev:CE->Rho->Option D
 |.var i,ρ=>aQ ρ[i]?
 |.lit d,_=>some d
 |.gl x,_=>G.glob x
 |.bin o a b,ρ=>match ev a ρ with
  |some x=>match ev b ρ with
   |some y=>eh o x y
   |none=>none
  |none=>none
 |.neg a,ρ=>match ev a ρ with|some (.int i)=>some (.int (-i))|_=>none
 |.nt a,ρ=>match ev a ρ with|some (.bl b)=>some (.bl (!b))|_=>none
 |.and a b,ρ=>match ev a ρ with
  |some (.bl true)=>(match ev b ρ with|some (.bl q)=>some (.bl q)|_=>none)
  |some (.bl false)=>some (.bl false)
  |_=>none
 |.or a b,ρ=>match ev a ρ with
  |some (.bl true)=>some (.bl true)
  |some (.bl false)=>(match ev b ρ with|some (.bl q)=>some (.bl q)|_=>none)
  |_=>none
 |.cmp o a b,ρ=>match ev a ρ with
  |some x=>match ev b ρ with
   |some y=>match bc o x y with|some q=>some (.bl q)|none=>none
   |none=>none
  |none=>none
 |.isN a,ρ=>match ev a ρ with|some x=>some (.bl (cZ x))|none=>none
 |.kS a,ρ=>match ev a ρ with|some x=>some (.bl (!cZ x))|none=>none
 |.chn a b c,ρ=>match ev a ρ with
  |some (.int i)=>match ev b ρ with
   |some (.int j)=>match ev c ρ with
    |some (.int k)=>some (.bl (decide (i<=j)&&decide (j<k)))
    |_=>none
   |_=>none
  |_=>none
 |.ife c a b,ρ=>match evT c ρ with
  |some true=>ev a ρ
  |some false=>ev b ρ
  |none=>none
 |.tup es,ρ=>match evA es ρ with
  |some ds=>if ds.length<=sizeLine then some (.tup ds) else none
  |none=>none
 |.lst es,ρ=>match evA es ρ with
  |some ds=>if ds.length<=sizeLine then some (.lst ds) else none
  |none=>none
 |.ix a b,ρ=>match ev a ρ with
  |some x=>match ev b ρ with
   |some y=>ixD x y
   |none=>none
  |none=>none
 |.sl a lo hi,ρ=>match ev a ρ with
  |some x=>match asI lo (ev lo ρ) with
   |some l=>match asI hi (ev hi ρ) with
    |some u=>slD x l u
    |none=>none
   |none=>none
  |none=>none
 |.fld a f,ρ=>match ev a ρ with|some x=>cI G x f|none=>none
 |.blt n es,ρ=>match evA es ρ with
  |some ds=>match n with
   |.list=>(match ds with|[d]=>(match aP d with|some xs=>some (.lst xs)|none=>none)|_=>none)
   |.dict=>none
   |_=>cL G n ds
  |none=>none
 |.fn x es,ρ=>match evA es ρ with
  |some ds=>match fnR G cl x ds with|some r=>r.val|none=>none
  |none=>none
 |.mth o m es,ρ=>match ev o ρ with
  |some x=>match evA es ρ with
   |some ds=>match bq G cl x m ds with|some r=>r.val|none=>none
   |none=>none
  |none=>none
 |.comp w cap tg it test body,ρ=>match evI it ρ with
  |some its=>if (tks tg).all (fun k=>k<w) then
    match hW (fun d=>match ao tg d (eS w cap ρ) with
     |some ρ'=>match evT test ρ' with
      |some true=>evB w body ρ'
      |some false=>some []
      |none=>none
     |none=>none) its with
    |some out=>if out.length<=sizeLine then some (.lst out) else none
    |none=>none
   else none
  |none=>none
 |.lj,_=>some (.pdc [])
 |.nop,_=>none
 |.emit _,_=>none
 |.loop _ _ _ _,_=>none
noncomputable def evT:CE->Rho->Option Bool
 |.nt a,ρ=>match evT a ρ with|some b=>some (!b)|none=>none
 |.and a b,ρ=>match evT a ρ with
  |some true=>evT b ρ
  |some false=>some false
  |none=>none
 |.or a b,ρ=>match evT a ρ with
  |some true=>some true
  |some false=>evT b ρ
  |none=>none
 |.cmp o a b,ρ=>match ev a ρ with
  |some x=>match ev b ρ with
   |some y=>bc o x y
   |none=>none
  |none=>none
 |.isN a,ρ=>match ev a ρ with|some x=>some (cZ x)|none=>none
 |.kS a,ρ=>match ev a ρ with|some x=>some (!cZ x)|none=>none
 |.var i,ρ=>match aQ ρ[i]? with|some (.bl b)=>some b|_=>none
 |.lit (.bl b),_=>some b
 |.blt n es,ρ=>match evA es ρ with
  |some ds=>match cL G n ds with|some (.bl b)=>some b|_=>none
  |none=>none
 |.fn x es,ρ=>match evA es ρ with
  |some ds=>match fnR G cl x ds with|some (.ok (.bl b))=>some b|_=>none
  |none=>none
 |.mth o m es,ρ=>match ev o ρ with
  |some x=>match evA es ρ with
   |some ds=>match bq G cl x m ds with|some (.ok (.bl b))=>some b|_=>none
   |none=>none
  |none=>none
 |_,_=>none
noncomputable def evA:List CE->Rho->Option (List D)
 |[],_=>some []
 |e::es,ρ=>match ev e ρ with
  |some d=>match evA es ρ with
   |some ds=>some (d::ds)
   |none=>none
  |none=>none
noncomputable def evI:CE->Rho->Option (List D)
 |.blt n es,ρ=>match evA es ρ with
  |some ds=>match cg n ds with
   |some its=>some its
   |none=>none
  |none=>none
 |.var i,ρ=>match aQ ρ[i]? with|some d=>itD d|none=>none
 |.fld a f,ρ=>match ev a ρ with|some x=>(match cI G x f with|some d=>itD d|none=>none)|none=>none
 |.tup es,ρ=>match evA es ρ with|some ds=>if ds.length<=sizeLine then some ds else none|none=>none
 |.lst es,ρ=>match evA es ρ with|some ds=>if ds.length<=sizeLine then some ds else none|none=>none
 |.ix a b,ρ=>match ev a ρ with
  |some x=>match ev b ρ with
   |some y=>(match ixD x y with|some d=>itD d|none=>none)
   |none=>none
  |none=>none
 |.fn x es,ρ=>match evA es ρ with
  |some ds=>match fnR G cl x ds with|some r=>(match r.val with|some d=>itD d|none=>none)|none=>none
  |none=>none
 |.mth o m es,ρ=>match ev o ρ with
  |some x=>match evA es ρ with
   |some ds=>match bq G cl x m ds with|some r=>(match r.val with|some d=>itD d|none=>none)|none=>none
   |none=>none
  |none=>none
 |.sl a lo hi,ρ=>match ev a ρ with
  |some x=>match asI lo (ev lo ρ) with
   |some l=>match asI hi (ev hi ρ) with
    |some u=>(match slD x l u with|some d=>itD d|none=>none)
    |none=>none
   |none=>none
  |none=>none
 |.bin o a b,ρ=>match ev a ρ with
  |some x=>match ev b ρ with
   |some y=>(match eh o x y with|some d=>itD d|none=>none)
   |none=>none
  |none=>none
 |_,_=>none
noncomputable def evB (w:Nat):CE->Rho->Option (List D)
 |.emit e,ρ=>match ev e ρ with|some d=>some [d]|none=>none
 |.loop tg it test body,ρ=>match evI it ρ with
  |some its=>if (tks tg).all (fun k=>k<w&&isNil ρ[k]?) then
    hW (fun d=>match ao tg d ρ with
     |some ρ'=>match evT test ρ' with
      |some true=>evB w body ρ'
      |some false=>some []
      |none=>none
     |none=>none) its
   else none
  |none=>none
 |_,_=>none
end
end
end IN
namespace IN
open PySem PySem.Spec L2 CT
open PyProof.Rows hiding St
noncomputable def aM:Sl->Sl
 |.owx c=>.val c.D
 |s=>s
noncomputable def ah:List Nat->Rho->Rho
 |[],ρ=>ρ
 |i::L,ρ=>ah L (ρ.modify i aM)
noncomputable def bI:Ow->Bool
 |.l xs=>bx xs
 |.d es=>es.all fun p=>aq p.2
noncomputable def kp (b:Bool) (ρ ρg:Rho):Rho:=if b then ρ else ρg
section
variable (G:Prg) (cl:Str->List D->Option Rs)
noncomputable def evV (e:CE) (ρ:Rho):Option Rs:=
 match e with
 |.fn x es=>match evA G cl es ρ with|some ds=>fnR G cl x ds|none=>none
 |.mth o m es=>match ev G cl o ρ with
  |some x=>match evA G cl es ρ with
   |some ds=>bq G cl x m ds
   |none=>none
  |none=>none
 |.lst es=>match evA G cl es ρ with
  |some ds=>if ds.length<=sizeLine then some (.fr (.l ds)) else none
  |none=>none
 |.comp w cap tg it test body=>match ev G cl (.comp w cap tg it test body) ρ with
  |some (.lst xs)=>some (.fr (.l xs))
  |_=>none
 |.blt .list es=>match ev G cl (.blt .list es) ρ with
  |some (.lst xs)=>some (.fr (.l xs))
  |_=>none
 |.blt .dict es=>match ev G cl (.blt .dict es) ρ with
  |some (.pdc xs)=>some (.fr (.d xs))
  |_=>none
 |.lj=>some (.fr (.d []))
 |e=>match ev G cl e ρ with|some d=>some (.ok d)|none=>none
noncomputable def forL (tg:Tg) (b:Rho->Option Oc):List D->Rho->Option Oc
 |[],ρ=>some (.nx ρ)
 |d::ds,ρ=>match ao tg d ρ with
  |some ρ1=>match b ρ1 with
   |some (.nx ρ2)=>forL tg b ds ρ2
   |o=>o
  |none=>none
noncomputable def fV (c:Rho->Option Bool) (b:Rho->Option Oc):Nat->Rho->Option Oc
 |0,_=>none
 |n+1,ρ=>match c ρ with
  |some true=>(match b ρ with
   |some (.nx ρ2)=>fV c b n ρ2
   |some (.xc _ _)=>none
   |o=>o)
  |some false=>some (.nx ρ)
  |none=>none
noncomputable def gu:List Nat->Rho->Rho
 |[],ρ=>ρ
 |i::L,ρ=>gu L (ρ.set i .any)
noncomputable def kQ:Sl->Nat
 |.val (.int i)=>i.natAbs
 |_=>0
noncomputable def turns (ρ:Rho):Nat:=(ρ.map kQ).sum+1000000
mutual
noncomputable def af:CS'->Rho->Option Oc
 |.asg t e L,ρ=>match evV G cl e (ah L ρ) with
  |some (.ok d)=>(match ao t d (kp (aq d) ρ (ah L ρ)) with|some ρ'=>some (.nx ρ')|none=>none)
  |some (.fr c)=>(match t with
   |.nm k=>if k<ρ.length then some (.nx ((kp (bI c) ρ (ah L ρ)).set k (.owx c))) else none
   |t=>none)
  |some (.xc d)=>some (.xc (ah L ρ) d)
  |none=>none
 |.aug _ .add _ _,_=>none
 |.aug _ _ _ _,_=>none
 |.par i j a b L,ρ=>match ev G cl a (ah L ρ) with
  |some x=>match ev G cl b (ah L ρ) with
   |some y=>if i≠j∧i<ρ.length∧j<ρ.length then some (.nx (((kp (aq x&&aq y) ρ (ah L ρ)).set i (.val x)).set j (.val y))) else none
   |none=>none
  |none=>none
 |.put _ _ _ _,_=>none
 |.fR f e L,ρ=>match ev G cl e (ah L ρ) with
  |some d=>match (ρ[(0:Nat)]?:Option Sl) with
   |some (.new C a dx fs)=>if fs.length<1000∧G.fok C f then some (.nx ((kp (aq d) ρ (ah L ρ)).set 0 (.new C a dx (putD f d fs)))) else none
   |_=>none
  |none=>none
 |.app i e L,ρ=>match ev G cl e (ah L ρ) with
  |some v=>match (kp (aq v) ρ (ah L ρ))[i]? with
   |some (.owx (.l xs))=>if xs.length<sizeLine then some (.nx ((kp (aq v) ρ (ah L ρ)).set i (.owx (.l (xs++[v]))))) else none
   |_=>none
  |none=>none
 |.clr _,_=>none
 |.exp e L,ρ=>match evV G cl e (ah L ρ) with
  |some (.ok d)=>some (.nx (kp (aq d) ρ (ah L ρ)))
  |some (.fr c)=>some (.nx (kp (bI c) ρ (ah L ρ)))
  |some (.xc d)=>some (.xc (ah L ρ) d)
  |none=>none
 |.ret e L,ρ=>match (match e with|.var i=>(match ρ[i]? with|some (.owx c)=>some c|_=>none)|_=>none) with
  |some c=>some (.fr c)
  |none=>match evV G cl e (ah L ρ) with
   |some (.ok d)=>some (.rt d)
   |some (.fr c)=>some (.fr c)
   |some (.xc d)=>some (.xc (ah L ρ) d)
   |none=>none
 |.xG,_=>some (.rt .non)
 |.ife c L a b,ρ=>match evT G cl c (ah L ρ) with
  |some true=>run a ρ
  |some false=>run b ρ
  |none=>none
 |.for t it L b,ρ=>match evI G cl it (ah L ρ) with
  |some its=>forL t (run b) its (ah L ρ)
  |none=>none
 |.whl c L b,ρ=>fV (fun ρ=>evT G cl c (ah L ρ)) (run b) (turns ρ) ρ
 |.rse x es L,ρ=>match evA G cl es (ah L ρ) with
  |some ds=>match G.exc x with
   |some (C,fs)=>if ds.length=fs.length∧ds.length<=1000 then some (.xc (ah L ρ) (.exc C (fs.zip ds))) else none
   |none=>none
  |none=>none
 |.try b x i h,ρ=>match run b ρ with
  |some (.xc ρ1 (.exc C fs))=>(match G.glob x with
   |some (.cl CE)=>if G.sub C CE=some true∧i<ρ1.length then (match run h (ρ1.set i (.val (.exc C fs))) with
    |some (.nx ρ2)=>some (.nx (ρ2.set i .nil))
    |some (.xc _ _)=>none
    |o=>o) else none
   |_=>none)
  |some (.xc _ _)=>none
  |o=>o
 |.pass,ρ=>some (.nx ρ)
 |.fgt L,ρ=>some (.nx (gu L ρ))
 |.mov j i,ρ=>match ρ[i]? with
  |some (.owx c)=>if i≠j∧j<ρ.length then some (.nx ((ρ.set i .any).set j (.owx c))) else none
  |some (.val d)=>if j<ρ.length then some (.nx (ρ.set j (.val d))) else none
  |_=>none
noncomputable def run:List CS'->Rho->Option Oc
 |[],ρ=>some (.nx ρ)
 |s::r,ρ=>match af s ρ with
  |some (.nx ρ')=>run r ρ'
  |o=>o
end
noncomputable def cY (C:Option Addr) (d:Def) (ds:List D):Option Rs:=
 match C with
 |none=>if ds.length=d.aw∧d.init=false then
   match run G cl d.body (ds.map .val++List.replicate (d.slots - ds.length) .nil) with
   |some (.nx _)=>some (.ok .non)
   |some (.rt x)=>some (.ok x)
   |some (.fr c)=>some (.fr c)
   |some (.xc _ x)=>some (.xc x)
   |none=>none
  else none
 |some C=>if ds.length+1=d.aw∧d.init=true then
   match run G cl d.body (.new C 0 0 []::(ds.map .val++List.replicate (d.slots - (ds.length+1)) .nil)) with
   |some (.nx ρ)=>(match (ρ[(0:Nat)]?:Option Sl) with|some (.new C' _ _ fs)=>if C'=C then some (.ok (.ins C fs)) else none|_=>none)
   |some (.xc _ x)=>some (.xc x)
   |_=>none
  else none
end
noncomputable def kal (G:Prg):Nat->Str->List D->Option Rs
 |0,_,_=>none
 |n+1,k,ds=>match G.defs k with
  |some (C,d)=>cY G (kal G n) C d ds
  |none=>none
end IN
namespace IN
open PySem PySem.Spec L2 CT
open PyProof.Rows hiding St
mutual
noncomputable def fvE:CE->List Nat
 |.var i=>[i]
 |.bin _ a b=>fvE a++fvE b|.neg a=>fvE a|.nt a=>fvE a|.and a b=>fvE a++fvE b|.or a b=>fvE a++fvE b
 |.cmp _ a b=>fvE a++fvE b|.isN a=>fvE a|.kS a=>fvE a|.chn a b c=>fvE a++fvE b++fvE c|.ife a b c=>fvE a++fvE b++fvE c
 |.tup es=>fvA es|.lst es=>fvA es|.ix a b=>fvE a++fvE b|.sl a b c=>fvE a++fvE b++fvE c
 |.fld a _=>fvE a|.blt _ es=>fvA es|.fn _ es=>fvA es|.mth o _ es=>fvE o++fvA es
 |.comp _ cap _ it _ _=>cap++fvE it
 |.emit e=>fvE e|.loop _ _ _ _=>[]|.nop=>[]|.lit _=>[]|.gl _=>[]|.lj=>[]
noncomputable def fvA:List CE->List Nat
 |[]=>[]
 |e::es=>fvE e++fvA es
end
noncomputable def uniq:List Nat->List Nat
 |[]=>[]
 |x::xs=>if xs.contains x then uniq xs else x::uniq xs
noncomputable def fvU (e:CE):List Nat:=uniq (fvE e)
noncomputable def idx (N:List Str) (x:Str):Option Nat:=N.findIdx? (·==x)
noncomputable def iF (sc:Scope) (x:Str):Bool:=match sc.names.lookup x with
 |some .local=>true|some .cell=>true|some .free=>true|_=>false
noncomputable def kJ (sc:Scope) (x:Str):Bool:=match sc.names.lookup x with
 |some .local=>true|some .cell=>true|_=>false
noncomputable def glB (sc:Scope) (x:Str):Bool:=match sc.names.lookup x with
 |some .globalImplicit=>true|_=>false
noncomputable def bJ (x:Str):Bool:=!(x==("__debug__":Str))&&!(x==("__classdict__":Str))&&!(x==("__name__":Str))
noncomputable def nF (sc:Scope) (N:List Str) (x:Str):Option CE:=
 if bJ x then
  match idx N x with
  |some i=>if iF sc x then some (.var i) else none
  |none=>if glB sc x then some (.gl x) else none
 else none
noncomputable def opC:Operator->Option BO
 |.Add=>some .add|.Sub=>some .sub|.Mult=>some .mul|.Mod=>some .mod|.FloorDiv=>some .fdiv|.Pow=>some .pow|.RShift=>some .shr|_=>none
noncomputable def coC:CmpOp->Option CO
 |.Lt=>some .lt|.LtE=>some .le|.Gt=>some .gt|.GtE=>some .ge|.Eq=>some .eq|.NotEq=>some .ne|.Is=>some .is|.IsNot=>some .isn|.In=>some .inn|.NotIn=>some .nin
noncomputable def bnC (x:Str):Option BN:=
 if x="len" then some .len else if x="sum" then some .sum else if x="all" then some .all else if x="any" then some .any
 else if x="abs" then some .abs else if x="int" then some .int else if x="tuple" then some .tuple
 else if x="list" then some .list else if x="dict" then some .dict else if x="min" then some .min else if x="max" then some .max
 else if x="isinstance" then some .isin else if x="range" then some .range else if x="zip" then some .zip else if x="enumerate" then some .enum
 else none
noncomputable def gz:Expr->Bool
 |.Call (.Name _ _) [] [] _=>false
 |_=>true
noncomputable def bt:Expr->Bool
 |.Starred _ _=>false
 |_=>true
noncomputable def oF:Expr->Bool
 |.Slice _ _ _ _=>false
 |_=>true
noncomputable def fC:Expr->Bool
 |.Set _ _ _=>false
 |_=>true
noncomputable def fF (tg:Expr):Expr->Bool
 |.Set _ _ _=>false
 |.Call (.Name x _) _ _ _=>(!(x==("zip":Str))&&!(x==("enumerate":Str)))||(match tg with|.Tuple _ _ _=>true|_=>false)
 |_=>true
noncomputable def gK (sc:Scope):Expr->Expr->Bool
 |.Tuple ts _ _,.Tuple vs _ _=>(ts.filterMap fun
  |.Name id pos=>if sc.names.lookup id==some .local&&pos.line==(ts.head?.map (·.pos.line)).getD 0 then some id else none
  |_=>none).length !=ts.length&&(ts.length==2||ts.length==3)&&vs.length==ts.length&&!(vs.any fun|.Starred ..=>true|_=>false)
 |.Tuple _ _ _,_=>true
 |.Name _ _,_=>true
 |_,_=>false
noncomputable def qg:Expr->Bool
 |.Tuple _ _ _=>true
 |_=>false
noncomputable def qi:Const->Option CE
 |.int i=>some (.lit (.int i))|.bool b=>some (.lit (.bl b))|.none=>some (.lit .non)|.str s=>some (.lit (.str s))|_=>none
noncomputable def ownOf (scope:Scope):List Str:=(scope.names.filter fun p=>(p.2==.local||p.2==.cell)&&!(p.1==(".0":Str))).map (·.1)
noncomputable def bV (scope:Scope) (N:List Str):List (Str×Nat):=scope.names.filterMap fun p=>if p.2==.free then (idx N p.1).map fun i=>(p.1,i) else none
mutual
noncomputable def cTg (sc:Scope) (N:List Str):Nat->Expr->Option Tg
 |0,_=>none
 |n+1,e=>match e with
  |.Name x _=>if bJ x&&kJ sc x then (idx N x).map .nm else none
  |.Tuple es _ _=>if es.all bt then (eD sc N n es).map .tp else none
  |_=>none
noncomputable def eD (sc:Scope) (N:List Str):Nat->List Expr->Option (List Tg)
 |0,_=>none
 |n+1,es=>match es with
  |[]=>some []
  |e::r=>match cTg sc N n e,eD sc N n r with
   |some t,some ts=>some (t::ts)
   |_,_=>none
end
mutual
noncomputable def cE:Nat->Scope->List Str->Expr->Option CE
 |0,_,_,_=>none
 |n+1,sc,N,e=>match e with
  |.Constant c _ _=>qi c
  |.Name x _=>nF sc N x
  |.BinOp a op b _=>match opC op,cE n sc N a,cE n sc N b with
   |some o,some x,some y=>some (.bin o x y)
   |_,_,_=>none
  |.UnaryOp .USub a _=>(cE n sc N a).map .neg
  |.UnaryOp .Not a _=>(cE n sc N a).map .nt
  |.BoolOp op (a::b::r) _=>cB n sc N op (a::b::r)
  |.Compare a [op] [b] _=>match op,b with
   |.Is,.Constant .none _ _=>(cE n sc N a).map .isN
   |.IsNot,.Constant .none _ _=>(cE n sc N a).map .kS
   |_,_=>match coC op,cE n sc N a,cE n sc N b with
    |some o,some x,some y=>if fC b then some (.cmp o x y) else none
    |_,_,_=>none
  |.Compare a [.LtE,.Lt] [b,c] _=>match cE n sc N a,cE n sc N b,cE n sc N c with
   |some x,some y,some z=>if fC b&&fC c then some (.chn x y z) else none
   |_,_,_=>none
  |.IfExp c a b _=>match cE n sc N c,cE n sc N a,cE n sc N b with
   |some z,some x,some y=>some (.ife z x y)
   |_,_,_=>none
  |.Tuple es _ _=>(cA n sc N es).map .tup
  |.List es _=>(cA n sc N es).map .lst
  |.Dict [] [] _=>some .lj
  |.Subscript a (.Slice lo hi none _) _=>match cE n sc N a,cO n sc N lo,cO n sc N hi with
   |some x,some y,some z=>some (.sl x y z)
   |_,_,_=>none
  |.Subscript a b _=>match cE n sc N a,cE n sc N b with
   |some x,some y=>if oF b then some (.ix x y) else none
   |_,_=>none
  |.Attribute a f _=>if gz a then (cE n sc N a).map fun x=>.fld x f else none
  |.Call (.Name x _) args [] _=>if bJ x&&glB sc x&&(idx N x).isNone then
    match cA n sc N args with
    |some es=>match bnC x with
     |some b=>some (.blt b es)
     |none=>some (.fn x es)
    |none=>none
   else none
  |.Call (.Attribute o m ap) args [] cp=>if gz o&&decide (args.length<30)&&(ap.endLine==cp.line) then
    match cE n sc N o,cA n sc N args with
    |some x,some es=>some (.mth x m es)
    |_,_=>none
   else none
  |.ListComp elt (⟨tg,it,ifs,0⟩::gens) scope _=>
   if n6 scope (ownOf scope) (bV scope N) sc N&&fF tg it then
    match cTg (ig scope sc) (ownOf scope++(bV scope N).map (·.1)) n tg,cE n sc N it,cIf n (ig scope sc) (ownOf scope++(bV scope N).map (·.1)) ifs,cG n (ig scope sc) (ownOf scope++(bV scope N).map (·.1)) gens elt with
    |some t,some i,some c,some b=>some (.comp (ownOf scope).length ((bV scope N).map (·.2)) t i c b)
    |_,_,_,_=>none
   else none
  |_=>none
noncomputable def cA:Nat->Scope->List Str->List Expr->Option (List CE)
 |0,_,_,_=>none
 |n+1,sc,N,es=>match es with
  |[]=>some []
  |e::r=>match cE n sc N e,cA n sc N r with
   |some x,some xs=>some (x::xs)
   |_,_=>none
noncomputable def cB:Nat->Scope->List Str->BoolOp->List Expr->Option CE
 |0,_,_,_,_=>none
 |n+1,sc,N,op,es=>match es with
  |[]=>none
  |[e]=>cE n sc N e
  |e::f::r=>match op,cE n sc N e,cB n sc N op (f::r) with
   |.And,some x,some y=>some (.and x y)
   |.Or,some x,some y=>some (.or x y)
   |_,_,_=>none
noncomputable def cO:Nat->Scope->List Str->Option Expr->Option CE
 |0,_,_,_=>none
 |n+1,sc,N,e=>match e with
  |none=>some .nop
  |some e=>cE n sc N e
noncomputable def cIf:Nat->Scope->List Str->List Expr->Option CE
 |0,_,_,_=>none
 |n+1,sc,N,es=>match es with
  |[]=>some (.lit (.bl true))
  |[e]=>cE n sc N e
  |_=>none
noncomputable def cG:Nat->Scope->List Str->List Comprehension->Expr->Option CE
 |0,_,_,_,_=>none
 |n+1,sc,N,gens,elt=>match gens with
  |[]=>(cE n sc N elt).map .emit
  |⟨tg,it,ifs,0⟩::r=>if fF tg it then
    match cTg sc N n tg,cE n sc N it,cIf n sc N ifs,cG n sc N r elt with
    |some t,some i,some c,some b=>some (.loop t i c b)
    |_,_,_,_=>none
   else none
  |_=>none
end
mutual
noncomputable def er1:CS'->CS'
 |.ife c L a b=>.ife c L (erL a) (erL b)
 |.for t it L b=>.for t it L (erL b)
 |.whl c L b=>.whl c L (erL b)
 |.try b x i h=>.try (erL b) x i h
 |.mov j i=>.asg (.nm j) (.var i) [i]
 |s=>s
noncomputable def erL:List CS'->List CS'
 |[]=>[]
 |s::r=>match s with
  |.fgt _=>erL r
  |s=>er1 s::erL r
end
noncomputable def bY:Expr->Bool
 |.ListComp _ _ _ _=>true|.SetComp _ _ _ _=>true|.DictComp _ _ _ _ _=>true
 |_=>false
noncomputable def wo (n:Nat) (sc:Scope) (N:List Str):List Expr->Expr->Option CS'
 |[.Tuple [.Name x px,.Name y py] _ _],.Tuple [a,b] _ _=>match idx N x,idx N y,cE n sc N a,cE n sc N b with
   |some i,some j,some ca,some cb=>if bJ x&&bJ y&&(sc.names.lookup x==some .local)&&(sc.names.lookup y==some .local)&&(px.line==py.line)&&!([a,b].all (foldedForSure 8))&&!([a,b].all (constantsAlone 8))
     then some (.par i j ca cb (uniq (fvE ca++fvE cb))) else none
   |_,_,_,_=>none
 |[.Subscript (.Name x _) k _],e=>match idx N x,cE n sc N k,cE n sc N e with
   |some i,some ck,some ce=>if bJ x&&iF sc x&&!bY e then some (.put i ck ce (uniq (fvE ck++fvE ce))) else none
   |_,_,_=>none
 |[.Attribute (.Name x _) f _],e=>match idx N x,cE n sc N e with
   |some 0,some ce=>if bJ x&&iF sc x&&!bY e then some (.fR f ce (fvU ce)) else none
   |_,_=>none
 |[tg],e=>match cTg sc N n tg,cE n sc N e with
   |some t,some ce=>if gK sc tg e&&(!bY e||!qg tg) then some (.asg t ce (fvU ce)) else none
   |_,_=>none
 |_,_=>none
noncomputable def cExp (n:Nat) (sc:Scope) (N:List Str):Expr->Option CS'
 |.Constant (.str _) _ _=>some .pass
 |.Call (.Attribute (.Name x xp) m ap) args [] cp=>
   if m="append" then match idx N x,args with
    |some i,[a]=>if bJ x&&iF sc x&&(ap.endLine==cp.line) then (cE n sc N a).map fun ca=>.app i ca (fvU ca) else none
    |_,_=>none
   else if m="clear" then match idx N x,args with
    |some i,[]=>if bJ x&&iF sc x&&(ap.endLine==cp.line) then some (.clr i) else none
    |_,_=>none
   else (cE n sc N (.Call (.Attribute (.Name x xp) m ap) args [] cp)).map fun x=>.exp x (fvU x)
 |e=>if !bY e then (cE n sc N e).map fun x=>.exp x (fvU x) else none
mutual
noncomputable def cS1:Nat->Scope->List Str->Stmt->Option CS'
 |0,_,_,_=>none
 |n+1,sc,N,s=>match s with
  |.Pass _=>some .pass
  |.Return none _=>some .xG
  |.Return (some e) _=>(cE n sc N e).map fun x=>.ret x (fvU x)
  |.Assign ts e _=>wo n sc N ts e
  |.Expr e _=>cExp n sc N e
  |.If c a b _=>match cE n sc N c,cS n sc N a,cS n sc N b with
   |some x,some y,some z=>some (.ife x (fvU x) y z)
   |_,_,_=>none
  |.For tg it b [] _=>if fF tg it then match cTg sc N n tg,cE n sc N it,cS n sc N b with
   |some t,some x,some y=>some (.for t x (fvU x) y)
   |_,_,_=>none
   else none
  |.While c b [] _=>match cE n sc N c,cS n sc N b with
   |some x,some y=>some (.whl x (fvU x) y)
   |_,_=>none
  |.Raise (some (.Call (.Name x _) args [] _)) none _=>if bJ x&&glB sc x&&(idx N x).isNone then (cA n sc N args).map fun es=>.rse x es (uniq (fvA es)) else none
  |.Try b [.ExceptHandler (some (.Name c _)) (some x) [.Assign [.Name y _] (.Name x' _) _] _] [] [] _=>match cS n sc N b,idx N x,idx N y with
   |some cb,some i,some j=>if bJ c&&glB sc c&&(idx N c).isNone&&(sc.names.lookup x==some .local)&&x'==x&&bJ x&&bJ y&&kJ sc y then some (.try cb c i [.asg (.nm j) (.var i) [i]]) else none
   |_,_,_=>none
  |_=>none
noncomputable def cS:Nat->Scope->List Str->List Stmt->Option (List CS')
 |0,_,_,_=>none
 |n+1,sc,N,ss=>match ss with
  |[]=>some []
  |s::r=>match cS1 n sc N s,cS n sc N r with
   |some x,some xs=>some (x::xs)
   |_,_=>none
end
end IN
namespace IN
open PySem PySem.Spec PySem.W L2 CT
open PyProof.Rows hiding St
theorem jb:∀{xs:List D} {bs:List Bool},boolsOf xs=some bs->xs=bs.map .bl
 |[],bs,h=>by cases h;rfl
 |.bl b::r,bs,h=>by
  unfold boolsOf at h
  split at h
  ·rename_i l e;cases h;rw [jb e];rfl
  ·cases h
 |.int _::_,_,h=>by cases h
 |.non::_,_,h=>by cases h
 |.str _::_,_,h=>by cases h
 |.tup _::_,_,h=>by cases h
 |.lst _::_,_,h=>by cases h
 |.ins _ _::_,_,h=>by cases h
 |.exc _ _::_,_,h=>by cases h
 |.ty _::_,_,h=>by cases h
 |.cl _::_,_,h=>by cases h
 |.dct _::_,_,h=>by cases h
 |.pdc _::_,_,h=>by cases h
theorem bP {d:D} {xs:List D} (h:aP d=some xs):Sq d xs:=by
 cases d<;>first|(cases h;done)|(cases h;constructor)
theorem uL {i j:Int} (h:bE i j=true):ic i j∨ja i j:=by
 unfold bE at h
 simp only [Bool.or_eq_true,Bool.and_eq_true,decide_eq_true_eq] at h
 rcases h with (h|h)|h
 ·exact .inl (.inl ⟨by omega,by omega⟩)
 ·exact .inl (.inr ⟨by omega,by omega⟩)
 ·exact .inr h
theorem gJ {j:Int} (h:fD j=true): -(2^62)<=j∧j<2^62:=by
 unfold fD at h
 simp only [Bool.and_eq_true,decide_eq_true_eq] at h
 omega
theorem f7 {f:D->Option (List D)}:∀{its out:List D},hW f its=some out->∃outs:List (List D),its.length=outs.length∧out=outs.flatten∧∀(i:Nat) d o,its[i]?=some d->outs[i]?=some o->f d=some o
 |[],out,h=>by cases h;exact ⟨[],rfl,rfl,fun i d o h=>by simp at h⟩
 |x::xs,out,h=>by
  unfold hW at h
  split at h
  ·rename_i o1 e1
   split at h
   ·rename_i ys e2
    cases h
    obtain ⟨outs,h1,h2,h3⟩:=f7 e2
    refine ⟨o1::outs,by simp [h1],by rw [h2];rfl,fun i d o hd ho=>?_⟩
    cases i with
    |zero=>simp at hd ho;subst hd ho;exact e1
    |succ i=>exact h3 i d o (by simpa using hd) (by simpa using ho)
   ·cases h
  ·cases h
structure Le (ρ ρ':Rho):Prop where
 len:ρ.length=ρ'.length
 val:∀(i:Nat) (d:D),ρ[i]?=some (.val d)->ρ'[i]?=some (.val d)
 nil:∀(i:Nat),ρ[i]?=some .nil->ρ'[i]?=some .nil
theorem Le.set {ρ ρ':Rho} (l:Le ρ ρ') (k:Nat) (s:Sl):Le (ρ.set k s) (ρ'.set k s):=by
 have key:∀(i:Nat) (y:Sl),(ρ[i]?=some y->ρ'[i]?=some y)->(ρ.set k s)[i]?=some y->(ρ'.set k s)[i]?=some y:=fun i y hy h=>by
  by_cases e:k=i
  ·subst e
   have hi:k<ρ.length:=by have:=(List.getElem?_eq_some_iff.mp h).1;simpa using this
   rw [List.getElem?_set_self hi] at h
   rw [List.getElem?_set_self (l.len▸hi)];exact h
  ·rw [List.getElem?_set_ne e] at h ⊢;exact hy h
 exact ⟨by simpa using l.len,fun i d h=>key i _ (l.val i d) h,fun i h=>key i _ (l.nil i) h⟩
theorem rg {o:Option Sl} {d:D} (h:aQ o=some d):o=some (.val d):=by
 cases o with
 |none=>cases h
 |some s=>cases s<;>first|(cases h;done)|(cases h;rfl)
theorem oG {o:Option Sl} (h:isNil o=true):o=some .nil:=by
 cases o with
 |none=>cases h
 |some s=>cases s<;>first|(cases h;done)|rfl
theorem rC {ρ ρ':Rho} (l:Le ρ ρ') {i:Nat} {d:D} (h:cz ρ[i]?=.val d):cz ρ'[i]?=.val d:=by
 cases q:ρ[i]? with
 |none=>rw [q] at h;cases h
 |some s=>
  rw [q] at h
  cases s with
  |val d'=>cases h;rw [l.val i d q];rfl
  |nil=>cases h
  |any=>cases h
  |owx c=>cases h
  |new C x dx fs=>cases h
theorem rj {ρ ρ':Rho} (l:Le ρ ρ') {i:Nat} (h:cz ρ[i]?=.nil):cz ρ'[i]?=.nil:=by
 cases q:ρ[i]? with
 |none=>rw [q] at h;cases h
 |some s=>
  rw [q] at h
  cases s with
  |val d'=>cases h
  |nil=>rw [l.nil i q];rfl
  |any=>cases h
  |owx c=>cases h
  |new C x dx fs=>cases h
theorem Le.cap {ρ ρ':Rho} (l:Le ρ ρ') (own:List Str) (cap:List (Str×Nat)):Le (eS own.length (cap.map (·.2)) ρ) (cR own cap ρ'):=by
 have e1:eS own.length (cap.map (·.2)) ρ=own.map (fun _=>Sl.nil)++cap.map fun p=>cz ρ[p.2]?:=by
  unfold eS
  rw [List.map_map,←List.map_const' (l:=own) (b:=Sl.nil)]
  rfl
 rw [e1]
 have go:∀(i:Nat) (y:Sl),(∀j,cz ρ[j]?=y->cz ρ'[j]?=y)->(own.map (fun _=>Sl.nil)++cap.map fun p=>cz ρ[p.2]?)[i]?=some y->(cR own cap ρ')[i]?=some y:=fun i y hy h=>by
  unfold cR
  by_cases hi:i<own.length
  ·rw [List.getElem?_append_left (by simpa using hi)] at h ⊢;exact h
  ·have hi':own.length<=i:=Nat.le_of_not_lt hi
   rw [List.getElem?_append_right (by simpa using hi'),List.getElem?_map,List.length_map] at h ⊢
   cases q:cap[i - own.length]? with
   |none=>rw [q] at h;cases h
   |some p=>
    rw [q] at h
    exact congrArg some (hy p.2 (Option.some.inj h))
 exact ⟨by simp [cR],fun i d h=>go i _ (fun j=>rC l) h,fun i h=>go i _ (fun j=>rj l) h⟩
theorem aL {e:Expr} (h:bt e=true):noStar e=true:=by cases e<;>first|rfl|cases h
theorem ft {tg it:Expr} (h:fF tg it=true) (env:Env) (x:Value):foldedSetIterable it env x=pure x:=by
 cases it<;>first|rfl|cases h
theorem ji {o:Expr} {f:Str} {env:Env} {m:Sem Value} (h:gz o=true):attributeBase o f env m=m:=by
 unfold attributeBase
 cases o with
 |Call fn args kws pos=>
  cases fn with
  |Name x p=>
   cases args with
   |nil=>cases kws with
    |nil=>cases h
    |cons=>rfl
   |cons=>rfl
  |_=>rfl
 |_=>rfl
theorem mC {b:Expr} (h:oF b=true):AH b:=by
 intro o i
 cases b<;>first|rfl|cases h
theorem u_ {op:CmpOp} {b:Expr} (h:fC b=true):behindInMarks op b=false:=by
 cases b<;>first|rfl|cases h
theorem rq {op1 op2:CmpOp} {b c:Expr} (h:fC c=true):lastMarks [op1,op2] [b,c]=false:=by
 show behindInMarks op2 c=false
 exact u_ h
theorem dG {es:List Expr} {env:Env} {pos:Pos} (h:∀e∈es,bt e=true):(backTo pos (starEach es env)).any (·.1)=false:=by
 have go:∀es:List Expr,(∀e∈es,bt e=true)->∀p∈starEach es env,p.1=false:=by
  intro es
  induction es with
  |nil=>intro _ p hp;cases hp
  |cons e es ih=>
   intro h p hp
   rw [bC (aL (h e List.mem_cons_self))] at hp
   rcases List.mem_cons.mp hp with z|z
   ·rw [z]
   ·exact ih (fun e he=>h e (List.mem_cons_of_mem _ he)) p z
 rw [List.any_eq_false]
 intro p hp
 unfold backTo at hp
 obtain ⟨q,hq,rfl⟩:=List.mem_map.mp hp
 have:=go es h q hq
 simp [this]
theorem jT {es:List Expr} {env:Env} {pos:Pos} (h:∀e∈es,bt e=true):(backTo pos (starEach es env)).all (fun x=>!x.1)=true:=by
 have:=dG (env:=env) (pos:=pos) h
 rw [List.all_eq_true]
 intro p hp
 rw [List.any_eq_false] at this
 have:=this p hp
 simpa using this
theorem qJ {o:Expr} {m:Str} {args:List Expr} {ap cp:Pos} {env:Env} (hb:gz o=true) (hs:∀e∈args,bt e=true) (hl:args.length<30) (hp:(ap.endLine==cp.line)=true):
  eval (.Call (.Attribute o m ap) args [] cp) env=(do
   let ov←eval o env
   standAt ap.atName
   let (f,first)←holding [ov] (getMethod ov m (do return (←importBound o env).getD true))
   callWith cp f first (backTo cp (starEach args env)) (backToKw cp (keywordEach [] env))):=by
 have few:methodCallForm (args.length+([]:List Keyword).length) (backTo cp (starEach args env)) (backToKw cp (keywordEach [] env))=true:=by
  unfold methodCallForm
  rw [jT hs]
  simp [keywordEach,backToKw,hl]
 rw [arm_eval_Call]
 rw [ji hb]
 unfold methodCall
 rw [few]
 unfold calleeOf methodCallPos
 simp only [if_true,hp,Bool.not_true,Bool.false_or]
 rfl
end IN
namespace IN
open PySem PySem.Spec PySem.W L2 CT
open PyProof.Rows hiding St
noncomputable def tv:Tag->Value
 |.ty n=>.type n|.cl C=>.ref C|.xc C=>.ref C
structure Lk (K:Frag) (G:Prg) (key:Str) (C:Option Addr) (d:Def) (f:Addr) (fd:FuncData) (ps:List Str):Prop where
 df:G.defs key=some (C,d)
 bind:Binds K fd ps []
 kp:keepIn K (.ref f)=true
 ex:∃x qual st N,Fun K x qual st f fd∧bO N ps (ai st)∧cS 60 (ai st) N (aV st)=some (erL d.body)∧d.slots=N.length∧d.aw=ps.length
 ini:d.init=C.isSome
structure Xc (P:Program) (w:World) (K:Frag) (mg:Str->Option Value) (base:Heap) (x:Str) (C:Addr) (fs:List Str):Prop where
 mg_:mg x=some (.ref C)
 cl:b4 K C
 ty:typeIn K (.ref C)=some (.type "type")
 zero:fs=[]->excIn K C bmV "ValueError.__new__"=true∧keepIn K (.ref C)=true
 some:fs≠[]->∃f fd ps,XMk K C f∧aA P w K mg base CX0 1 f fd ps (spX C fs)∧Binds K fd ps []
structure Row (P:Program) (w:World) (K:Frag) (mg:Str->Option Value) (base:Heap) (G:Prg):Prop where
 blt:∀x b,bnC x=some b->mg x=none
 glob:∀(X:Cx),X.K=K->X.mg=mg->∀x d,G.glob x=some d->bJ x=true->Gl X x->∀ρ pos,DE X ρ (.Name x pos) d
 tE:∀x C,G.glob x=some (.cl C)->mg x=some (.ref C)
 kit:∀t u q,G.kit t u=some q->kitOne K (tv t) (tv u)=some q∧(∀C,t=.cl C->Isi K C)∧(∀C,t=.xc C->hZ K C)
 fn:∀x key,G.fn x=some key->∃d f fd ps,mg x=some (.ref f)∧Lk K G key none d f fd ps
 ini:∀x C key,G.ini x=some (C,key)->∃d f fd ps,mg x=some (.ref C)∧Mk K C f∧Lk K G key (some C) d f fd ps
 mth:∀C m key,G.mth C m=some key->∃d f fd ps,Meth K C m f∧Cls K C∧Lk K G key none d f fd ps
 fok:∀C f,G.fok C f=true->Cls K C∧bp K C f
 xok:∀C f,G.xok C f=true->b4 K C∧bp K C f
 exc:∀x C fs,G.exc x=some (C,fs)->Xc P w K mg base x C fs
 sub:∀C E b,G.sub C E=some b->mroIn K C (.ref E)=some b∧lJ K E
noncomputable def prR (cl:Str->List D->Option Rs) (key:Str) (ds:List D):Res->Prop
 |.ok d=>∃r,cl key ds=some r∧r.val=some d
 |.xc d=>cl key ds=some (.xc d)
noncomputable def prF (cl:Str->List D->Option Rs) (key:Str) (ds:List D) (c:Ow):Prop:=cl key ds=some (.fr c)
noncomputable def prI (cl:Str->List D->Option Rs) (C:Addr) (key:Str) (ds:List D):lY->Prop
 |.ok fs=>cl key ds=some (.ok (.ins C fs))
 |.xc d=>cl key ds=some (.xc d)
structure Calls (P:Program) (w:World) (K:Frag) (mg:Str->Option Value) (base:Heap) (G:Prg) (k:Nat) (cl:Str->List D->Option Rs):Prop where
 fn:∀key d f fd ps,Lk K G key none d f fd ps->aA P w K mg base (CXA P w) k f fd ps (spR K (prR cl key))
 fr:∀key d f fd ps,Lk K G key none d f fd ps->aA P w K mg base CX0 k f fd ps (jB K (prF cl key))
 ini:∀key C d f fd ps,Lk K G key (some C) d f fd ps->aA P w K mg base (CXA P w) k f fd ps (jz K C (prI cl C key))
 insI:∀key C d f fd ps,Lk K G key (some C) d f fd ps->∀ds r,cl key ds=some r->(∃fs,r=.ok (.ins C fs))∨∃d,r=.xc d
structure XE (ca:Bool) (P:Program) (wd:World) (K:Frag) (mg:Str->Option Value) (base:Heap) (X:Cx) (sc:Scope) (N:List Str) (w k:Nat):Prop where
 p_:X.prog=P
 w_:X.w=wd
 K_:X.K=K
 mg_:X.mg=mg
 fB:X.base=base
 sc_:X.env.scope=sc
 N_:X.N=N
 nd:N.Nodup
 kz:ca=true->X.calm=true
 kD:ca=true->ay k X.A
 units:X.A.units+64<cLine
 nox:∀e s,¬X.xe e s
 fn:∀(i:Nat) (x:Str),i<w->N[i]?=some x->X.fn x=true
section
variable {ca:Bool} {P:Program} {wd:World} {K:Frag} {mg:Str->Option Value} {base:Heap} {X:Cx} {sc:Scope} {N:List Str} {w k:Nat} {G:Prg} {cl:Str->List D->Option Rs} {ρ:Rho} {e:Expr} {ce:CE} {d:D}
theorem XE.calm (x:XE true P wd K mg base X sc N w k):X.calm=true:=x.kz rfl
theorem XE.room (x:XE true P wd K mg base X sc N w k):ay k X.A:=x.kD rfl
theorem XE.gl (x:XE ca P wd K mg base X sc N w k) {n:Str} (h:glB sc n=true):Gl X n:=by
 show X.env.scope.names.lookup n=_
 rw [x.sc_]
 unfold glB at h
 split at h
 ·assumption
 ·cases h
theorem XE.vis (x:XE ca P wd K mg base X sc N w k) {n:Str} (h:iF sc n=true):Vis X.env.scope n:=by
 rw [x.sc_]
 unfold iF at h
 split at h
 ·exact .inl (by assumption)
 ·exact .inr (.inl (by assumption))
 ·exact .inr (.inr (by assumption))
 ·cases h
theorem XE.loc (x:XE ca P wd K mg base X sc N w k) {n:Str} (h:kJ sc n=true):L2.Loc X.env.scope n:=by
 rw [x.sc_]
 unfold kJ at h
 split at h
 ·exact .inl (by assumption)
 ·exact .inr (by assumption)
 ·cases h
theorem XE.at (x:XE ca P wd K mg base X sc N w k) {n:Str} {i:Nat} (h:idx N n=some i):X.N[i]?=some n:=by
 rw [x.N_]
 unfold idx at h
 obtain ⟨hi,h1,_⟩:=List.findIdx?_eq_some_iff_getElem.mp h
 rw [List.getElem?_eq_getElem hi]
 exact congrArg some (by simpa using h1)
theorem dD {n:Str} (h:bJ n=true):(n==("__debug__":Str))=false∧(n==("__classdict__":Str))=false∧n≠"__name__":=by
 unfold bJ at h
 simp only [Bool.and_eq_true,Bool.not_eq_true'] at h
 exact ⟨h.1.1,h.1.2,fun z=>by rw [z] at h;exact absurd h.2 (by decide)⟩
structure OkE (G:Prg) (cl:Str->List D->Option Rs) (X:Cx) (e:Expr) (ce:CE):Prop where
 v:∀{ρ ρ' d},Le ρ ρ'->ev G cl ce ρ=some d->DE X ρ' e d
 t:∀{ρ ρ' b},Le ρ ρ'->evT G cl ce ρ=some b->DT X ρ' e b
 i:∀{ρ ρ' its tg},Le ρ ρ'->fF tg e=true->evI G cl ce ρ=some its->DI X tg ρ' e its
 c:∀{ρ ρ' r},bY e=true->Le ρ ρ'->evV G cl ce ρ=some r->∃c,r=.fr c∧DCx X ρ' e c
 vr:∀i,ce=.var i->∃y q,e=.Name y q∧X.N[i]?=some y∧Vis X.env.scope y∧(y==("__debug__":Str))=false∧(y==("__classdict__":Str))=false
 ro:∀i,ce=.var i->∀ρ c pos,ρ[i]?=some (.owx c)->DS X ρ (.Return (some e) pos) (.rfx c)
 w:∀{ρ ρ' r},Le ρ ρ'->evV G cl ce ρ=some r->(∀d,r.val=some d->DE X ρ' e d)∧(∀c,r=.fr c->DFx X ρ' e c)∧(∀d,r=.xc d->DEX X ρ' e d)
theorem OkE.of (hv:∀{ρ ρ' d},Le ρ ρ'->ev G cl ce ρ=some d->DE X ρ' e d) (ht:∀{ρ ρ' b},Le ρ ρ'->evT G cl ce ρ=some b->DT X ρ' e b)
  (hi:∀{ρ ρ' its tg},Le ρ ρ'->fF tg e=true->evI G cl ce ρ=some its->DI X tg ρ' e its) (hc:bY e=false)
  (hw:∀ρ,evV G cl ce ρ=match ev G cl ce ρ with|some d=>some (.ok d)|none=>none) (hro:∀i,ce=.var i->∀ρ c pos,ρ[i]?=some (.owx c)->DS X ρ (.Return (some e) pos) (.rfx c):=by intro i z;cases z) (hvr:∀i,ce=.var i->∃y q,e=.Name y q∧X.N[i]?=some y∧Vis X.env.scope y∧(y==("__debug__":Str))=false∧(y==("__classdict__":Str))=false:=by intro i z;cases z):OkE G cl X e ce:=by
 refine ⟨hv,ht,hi,fun z=>(by rw [hc] at z;cases z),hvr,hro,fun {ρ ρ' r} le h=>?_⟩
 rw [hw] at h
 split at h
 ·rename_i d0 q
  cases h
  exact ⟨fun d hd=>by cases hd;exact hv le q,(by intro c z;cases z),by intro d z;cases z⟩
 ·cases h
theorem eO {d:D} {its:List D} {tg:Expr} (h:DE X ρ e d) (hi:itD d=some its):DI X tg ρ e its:=by
 cases d<;>first|(cases hi;done)|(cases hi;exact o5 h)|(cases hi;exact pD h)|(cases hi;exact di_dct h)
theorem oV {a b:Expr} {x y:D} {op:Operator} {o:BO} {pos:Pos} (ho:opC op=some o) (ha:DE X ρ a x) (hb:DE X ρ b y) (h:eh o x y=some d):DE X ρ (.BinOp a op b pos) d:=by
 unfold eh at h
 split at h
 ·cases h;cases op<;>first|(cases ho;done)|(cases ho;exact wL ha hb)
 ·split at h
  ·cases h;cases op<;>first|(cases ho;done)|(cases ho;exact vV ha hb (by assumption))
  ·cases h
 ·split at h
  ·cases h;cases op<;>first|(cases ho;done)|(cases ho;exact uP ha hb (by assumption))
  ·cases h
 ·cases h;cases op<;>first|(cases ho;done)|(cases ho;exact y3 ha hb)
 ·split at h
  ·rename_i hm
   cases h
   cases op<;>first|(cases ho;done)|(cases ho;exact (uL hm).elim (fun z=>yr z ha hb) fun z=>vk z ha hb)
  ·cases h
 ·split at h
  ·split at h
   ·rename_i hz
    cases h
    cases op<;>first|(cases ho;done)|(cases ho;exact uX ha hb hz.1 (by omega))
   ·cases h
  ·cases h
 ·split at h
  ·cases h;cases op<;>first|(cases ho;done)|(cases ho;exact w6 (by assumption) ha hb)
  ·cases h
 ·split at h
  ·cases h;cases op<;>first|(cases ho;done)|(cases ho;exact uD (show 0<_∧_<_ by omega) ha hb)
  ·cases h
 ·split at h
  ·rename_i hj
   cases h;cases op<;>first|(cases ho;done)|(cases ho;exact c_ wD (fun x y H S Q rx ry dm k=>⟨_,_,rx.aU,ry.aU,hj,k _ H Ext.refl (.int _)⟩) ha hb)
  ·cases h
 ·cases h
theorem iQ {x y:D} (h:gD x y=true):aZ x=true∧aZ y=true∧min (toPy x).depth (toPy y).depth<=64:=by
 unfold gD at h
 simp only [Bool.and_eq_true,decide_eq_true_eq] at h
 exact ⟨h.1.1,h.1.2,h.2⟩
theorem v_ {a b:Expr} {x y:D} {op:CmpOp} {o:CO} {pos:Pos} {q:Bool} (hns:fC b=true) (hr:X.A.units+64<cLine) (ho:coC op=some o) (ha:DE X ρ a x) (hb:DE X ρ b y) (h:bc o x y=some q):DE X ρ (.Compare a [op] [b] pos) (.bl q):=by
 unfold bc at h
 split at h
 ·cases h;cases op<;>first|(cases ho;done)|(cases ho;exact zT ha hb)
 ·cases h;cases op<;>first|(cases ho;done)|(cases ho;exact zq ha hb)
 ·cases h;cases op<;>first|(cases ho;done)|(cases ho;exact Av ha hb)
 ·cases h;cases op<;>first|(cases ho;done)|(cases ho;exact Ai ha hb)
 ·cases h;cases op<;>first|(cases ho;done)|(cases ho;exact xn ha hb)
 ·cases h;cases op<;>first|(cases ho;done)|(cases ho;exact wu ha hb)
 ·cases h;cases op<;>first|(cases ho;done)|(cases ho;exact v7 ha hb)
 ·cases h;cases op<;>first|(cases ho;done)|(cases ho;exact oQ ha hb)
 ·split at h
  ·rename_i hq
   obtain ⟨h1,h2,h3⟩:=iQ hq
   cases h;cases op<;>first|(cases ho;done)|(cases ho;exact xg hr h1 h2 h3 ha hb)
  ·cases h
 ·split at h
  ·rename_i hq
   obtain ⟨h1,h2,h3⟩:=iQ hq
   cases h;cases op<;>first|(cases ho;done)|(cases ho;exact yH hr h1 h2 h3 ha hb)
  ·cases h
 ·cases h
theorem vI {a b:Expr} {x y:D} {op:CmpOp} {o:CO} {pos:Pos} {q:Bool} (hns:fC b=true) (hr:X.A.units+64<cLine) (ho:coC op=some o) (ha:DE X ρ a x) (hb:DE X ρ b y) (h:bc o x y=some q):DT X ρ (.Compare a [op] [b] pos) q:=by
 unfold bc at h
 split at h
 ·cases h;cases op<;>first|(cases ho;done)|(cases ho;exact Am ha hb)
 ·cases h;cases op<;>first|(cases ho;done)|(cases ho;exact zj ha hb)
 ·cases h;cases op<;>first|(cases ho;done)|(cases ho;exact Ab ha hb)
 ·cases h;cases op<;>first|(cases ho;done)|(cases ho;exact Au ha hb)
 ·cases h;cases op<;>first|(cases ho;done)|(cases ho;exact xY ha hb)
 ·cases h;cases op<;>first|(cases ho;done)|(cases ho;exact wy ha hb)
 ·cases h;cases op<;>first|(cases ho;done)|(cases ho;exact xT ha hb)
 ·cases h;cases op<;>first|(cases ho;done)|(cases ho;exact o6 ha hb)
 ·split at h
  ·rename_i hq
   obtain ⟨h1,h2,h3⟩:=iQ hq
   cases h;cases op<;>first|(cases ho;done)|(cases ho;exact yi hr h1 h2 h3 ha hb)
  ·cases h
 ·split at h
  ·rename_i hq
   obtain ⟨h1,h2,h3⟩:=iQ hq
   cases h;cases op<;>first|(cases ho;done)|(cases ho;exact wB hr h1 h2 h3 ha hb)
  ·cases h
 ·cases h
theorem zW {a b:Expr} {x y:D} {pos:Pos} (hr:X.A.units+64<cLine) (hs:oF b=true) (ha:DE X ρ a x) (hb:DE X ρ b y) (h:ixD x y=some d):DE X ρ (.Subscript a b pos) d:=by
 unfold ixD at h
 split at h
 ·exact wY ha hb h (mC hs)
 ·exact yJ ha hb h (mC hs)
 ·cases h
theorem Ap (R:Row P wd K mg base G) {t u:Tag} {q:Bool} (hd:yD d=some t) (hq:G.kit t u=some q):TyD K d (tv t):=by
 obtain ⟨_,h1,h2⟩:=R.kit t u q hq
 cases d with
 |ins C fs=>cases hd;exact .ins fs (h1 C rfl)
 |exc C fs=>cases hd;exact .exc fs (h2 C rfl)
 |non=>cases hd;exact .non
 |bl b=>cases hd;exact .bl b
 |int i=>cases hd;exact .int i
 |str x=>cases hd;exact .str x
 |tup xs=>cases hd;exact .tup xs
 |lst xs=>cases hd;exact .lst xs
 |dct kvs=>cases hd;exact .dct kvs
 |pdc es=>cases hd;exact .pdc es
 |ty n=>cases hd
 |cl C=>cases hd
theorem wM (R:Row P wd X.K mg base G) {a b:Expr} {p pos:Pos} {c:D} {q:Bool} (hg:Gl X "isinstance") (hm:X.mg "isinstance"=none) (ha:DA X ρ [a,b] [d,c]) (n1:bt a=true) (n2:bt b=true) (h:b_ G d c=some q):DE X ρ (.Call (.Name "isinstance" p) [a,b] [] pos) (.bl q):=by
 have he:=bC (es:=[b]) (env:=X.env) (aL n1)
 have hpl:=dG (es:=[b]) (env:=X.env) (pos:=pos) (fun e he=>by rw [List.mem_singleton.mp he];exact n2)
 unfold b_ at h
 split at h
 ·split at h
  ·rename_i hab
   obtain ⟨rfl,rfl⟩:=hab
   split at h
   ·rename_i n hn
    cases h
    obtain ⟨n',t1,t2⟩:=A_ (K:=X.K) (x:=d) (by rw [hn];exact fun z=>nomatch z)
    exact uH hg hm t1 (.cons (.ty _) (.cons (.ty _) .nil)) t2 ha he hpl
   ·cases h
  ·cases h
 ·split at h
  ·rename_i t u ht hu
   have hk:=(R.kit t u q h).1
   have cl:ClD c (tv u):=by
    cases c<;>first|(cases hu;done)|(cases hu;constructor)
   exact yM hg hm (Ap R ht h) cl hk ha he hpl
  ·cases h
end
end IN
namespace IN
open PySem PySem.Spec PySem.W L2 CT
open PyProof.Rows hiding St
section
variable {X:Cx} {ρ:Rho} {k:Nat} {f C:Addr} {fd:FuncData} {ps:List Str} {x m:Str} {p pos apos:Pos} {e o:Expr} {es:List Expr} {ds:List D} {d:D}
theorem rQ {Pr:List D->Ow->Prop} {cw:Ow} {fs:List (Str×D)} {pl:Sem Bool} (ho:DE X ρ o (.ins C fs)) (hl:fs.lookup m=none) (c:Cls X.K C) (hm:Meth X.K C m f) (F:aA X.prog X.w X.K X.mg X.base CX0 k f fd ps (jB X.K Pr)) (hr:ay k X.A) (hb:Binds X.K fd ps [])
  (ha:DA X ρ (e::es) ds) (hp:Pr (.ins C fs::ds) cw) (hst:starEach (e::es) X.env=(false,eval e X.env)::starEach es X.env) (hpl:(backTo pos (starEach es X.env)).any (·.1)=false)
  (ht:eval (.Call (.Attribute o m apos) (e::es) [] pos) X.env=(do
   let ov←eval o X.env
   standAt apos.atName
   let (f,first)←holding [ov] (getMethod ov m pl)
   callWith pos f first (backTo pos (starEach (e::es) X.env)) (backToKw pos (keywordEach [] X.env)))):
  DFx X ρ (.Call (.Attribute o m apos) (e::es) [] pos) cw:=PE.weak (mU ho c hm F hr hb .nil d3 ha hst hpl ht) fun σ H Q ⟨S,ve,kk⟩=>⟨S,ve,fun v H1 ex1 r1=>by
   obtain ⟨a,dx,gs,rfl,hh,rf⟩:=r1.gc
   exact ⟨a,dx,gs,rfl,hh,rf.none hl,S,ve.ext ex1,fun vs H' ex r=>⟨S,_,cw,((ve.ext ex1).ext ex).dom,.cons (r1.ext (ex.to S)) (e9 r),hp,fun a o H'' ex' hn ha r'=>kk a o H'' (ex1.trans (ex.trans ex')) (ex1.back (ex.back hn)) ha r'⟩⟩⟩
theorem oM {Pr:List D->Ow->Prop} {cw:Ow} {fs:List (Str×D)} {pl:Sem Bool} (ho:DE X ρ o (.ins C fs)) (hl:fs.lookup m=none) (c:Cls X.K C) (hm:Meth X.K C m f) (F:aA X.prog X.w X.K X.mg X.base CX0 k f fd ps (jB X.K Pr)) (hr:ay k X.A) (hb:Binds X.K fd ps [])
  (hp:Pr [.ins C fs] cw)
  (ht:eval (.Call (.Attribute o m apos) [] [] pos) X.env=(do
   let ov←eval o X.env
   standAt apos.atName
   let (f,first)←holding [ov] (getMethod ov m pl)
   callWith pos f first (backTo pos (starEach [] X.env)) (backToKw pos (keywordEach [] X.env)))):
  DFx X ρ (.Call (.Attribute o m apos) [] [] pos) cw:=PE.weak (lD ho c hm F hr hb .nil d3 ht) fun σ H Q ⟨S,ve,kk⟩=>⟨S,ve,fun v H1 ex1 r1=>by
   obtain ⟨a,dx,gs,rfl,hh,rf⟩:=r1.gc
   exact ⟨a,dx,gs,rfl,hh,rf.none hl,S,_,cw,(ve.ext ex1).dom,.cons r1 .nil,hp,fun a us H'' ex' hn ha r'=>kk a us H'' (ex1.trans ex') (ex1.back hn) ha r'⟩⟩
end
noncomputable def nmB:BN->Str
 |.len=>"len"|.sum=>"sum"|.all=>"all"|.any=>"any"|.abs=>"abs"|.int=>"int"|.tuple=>"tuple"|.list=>"list"|.dict=>"dict"|.min=>"min"|.max=>"max"|.isin=>"isinstance"|.range=>"range"|.zip=>"zip"|.enum=>"enumerate"|.str=>"str"|.sorted=>"sorted"
theorem sg {c:Prop} [Decidable c] {α:Type} {a b:α} {o:Option α} (h:(if c then some a else o)=some b):(c∧a=b)∨o=some b:=by
 by_cases hc:c
 ·rw [if_pos hc] at h;exact .inl ⟨hc,Option.some.inj h⟩
 ·rw [if_neg hc] at h;exact .inr h
theorem iC {x:Str} {b:BN} (h:bnC x=some b):x=nmB b:=by
 unfold bnC at h
 repeat (rcases sg h with ⟨hx,hb⟩|h;(subst hb;exact hx))
 cases h
section
variable {P:Program} {wd:World} {K:Frag} {mg:Str->Option Value} {base:Heap} {X:Cx} {sc:Scope} {N:List Str} {w k kc:Nat} {G:Prg} {cl:Str->List D->Option Rs} {ρ:Rho} {e:Expr} {ce:CE} {d:D} {args:List Expr} {ds:List D} {p pos:Pos} {x:Str} {b:BN}
theorem pP (R:Row P wd K mg base G) (xe:XE true P wd K mg base X sc N w k) (hx:bnC x=some b) (hg:glB sc x=true) (ha:DA X ρ args ds) (hl:args.length=ds.length) (hs:∀e∈args,bt e=true) (h:cL G b ds=some d):DE X ρ (.Call (.Name x p) args [] pos) d:=by
 have hm:=R.blt x b hx
 rw [←xe.mg_] at hm
 have g:=xe.gl hg
 have hn:=iC hx
 have hK:=xe.K_
 subst hK
 have one:∀{e:Expr},args=[e]->starEach [e] X.env=(false,eval e X.env)::starEach [] X.env:=fun {e} q=>bC (aL (hs e (by rw [q];simp)))
 cases b with
 |len=>
  dsimp only [nmB] at hn
  subst hn
  match ds,args,hl,h with
  |[d0],[e0],_,h=>
   unfold cL at h
   dsimp only at h
   split at h
   ·rename_i xs hq;cases h;exact ye (bP hq) g hm ha (one rfl) rfl
   ·cases h
  |[],_,_,h=>cases h
  |_::_::_,_,_,h=>cases h
 |sum=>cases h
 |all=>
  dsimp only [nmB] at hn
  subst hn
  match ds,args,hl,h with
  |[d0],[e0],_,h=>
   unfold cL at h
   dsimp only at h
   split at h
   ·rename_i xs hq
    split at h
    ·rename_i bs hb;cases h;exact yZ xe.calm (by rw [←jb hb];exact bP hq) g hm ha (one rfl) rfl
    ·cases h
   ·cases h
  |[],_,_,h=>cases h
  |_::_::_,_,_,h=>cases h
 |any=>cases h
 |abs=>
  dsimp only [nmB] at hn
  subst hn
  match ds,args,hl,h with
  |[.int i],[e0],_,h=>cases h;exact xV g hm ha (one rfl) rfl
 |int=>cases h
 |tuple=>
  dsimp only [nmB] at hn
  subst hn
  match ds,args,hl,h with
  |[d0],[e0],_,h=>
   unfold cL at h
   dsimp only at h
   split at h
   ·rename_i xs hq;cases h;exact qQ (bP hq) g hm ha (one rfl) rfl
   ·cases h
  |[],_,_,h=>cases h
  |_::_::_,_,_,h=>cases h
 |min=>cases h
 |max=>cases h
 |isin=>
  dsimp only [nmB] at hn
  subst hn
  match ds,args,hl,h with
  |[d0,c0],[e0,e1],_,h=>
   unfold cL at h
   dsimp only at h
   split at h
   ·rename_i q hq;cases h;exact wM R g hm ha (hs e0 (by simp)) (hs e1 (by simp)) hq
   ·cases h
  |[],_,_,h=>cases h
  |[_],_,_,h=>cases h
  |_::_::_::_,_,_,h=>cases h
 |list=>cases h
 |dict=>cases h
 |range=>cases h
 |zip=>cases h
 |enum=>cases h
 |str=>cases h
 |sorted=>cases h
theorem mq (R:Row P wd K mg base G) (xe:XE true P wd K mg base X sc N w k) (hx:bnC x=some .list) (hg:glB sc x=true) {e0:Expr} {xs:List D} (ha:DA X ρ [e0] [d]) (hs:bt e0=true) (h:aP d=some xs):DF X ρ (.Call (.Name x p) [e0] [] pos) xs:=by
 have hm:=R.blt x _ hx
 rw [←xe.mg_] at hm
 have hn:=iC hx
 dsimp only [nmB] at hn
 subst hn
 exact vc (bP h) (xe.gl hg) hm ha (bC (aL hs)) rfl
theorem we (R:Row P wd K mg base G) (xe:XE true P wd K mg base X sc N w k) {its:List D} {tg:Expr} (ht:fF tg (.Call (.Name x p) args [] pos)=true) (hx:bnC x=some b) (hg:glB sc x=true) (ha:DA X ρ args ds) (hl:args.length=ds.length) (hs:∀e∈args,bt e=true) (h:cg b ds=some its):
  DI X tg ρ (.Call (.Name x p) args [] pos) its:=by
 have hm:=R.blt x b hx
 rw [←xe.mg_] at hm
 have g:=xe.gl hg
 have hn:=iC hx
 have s1:∀{e:Expr},e∈args->starEach [e] X.env=[(false,eval e X.env)]:=fun {e} q=>bC (es:=[]) (aL (hs e q))
 have s2:∀{e f:Expr},e∈args->f∈args->starEach [e,f] X.env=[(false,eval e X.env),(false,eval f X.env)]:=fun {e f} q r=>by rw [bC (aL (hs e q)),s1 r]
 have s3:∀{e f g:Expr},e∈args->f∈args->g∈args->starEach [e,f,g] X.env=[(false,eval e X.env),(false,eval f X.env),(false,eval g X.env)]:=fun {e f g} q r t=>by rw [bC (aL (hs e q)),s2 r t]
 have tup:(x="zip"∨x="enumerate")->∃elts j tp,tg=.Tuple elts j tp:=fun z=>by
  unfold fF at ht
  dsimp only at ht
  have:(!(x==("zip":Str))&&!(x==("enumerate":Str)))=false:=by rcases z with z|z<;>(subst z;decide)
  rw [this,Bool.false_or] at ht
  cases tg<;>first|(cases ht;done)|exact ⟨_,_,_,rfl⟩
 unfold cg at h
 split at h
 ·dsimp only [nmB] at hn
  subst hn
  split at h
  ·rename_i hj
   cases h
   match args,hl with
   |[e0],_=>exact pY g hm ha (gJ hj).1 (gJ hj).2 (s1 (by simp))
  ·cases h
 ·dsimp only [nmB] at hn
  subst hn
  split at h
  ·rename_i hj
   cases h
   match args,hl with
   |[e0,e1],_=>exact qs g hm ha ⟨(gJ (Bool.and_eq_true_iff.mp hj).1).1,(gJ (Bool.and_eq_true_iff.mp hj).1).2,(gJ (Bool.and_eq_true_iff.mp hj).2).1,(gJ (Bool.and_eq_true_iff.mp hj).2).2⟩ (s2 (by simp) (by simp)) (s1 (by simp))
  ·cases h
 ·dsimp only [nmB] at hn
  subst hn
  obtain ⟨elts,j,tp,rfl⟩:=tup (.inl rfl)
  split at h
  ·rename_i xs ys h1 h2
   cases h
   match args,hl with
   |[e0,e1],_=>exact ui g hm (bP h1) (bP h2) ha (s2 (by simp) (by simp)) (s1 (by simp))
  ·cases h
 ·dsimp only [nmB] at hn
  subst hn
  obtain ⟨elts,j,tp,rfl⟩:=tup (.inl rfl)
  split at h
  ·rename_i xs ys zs h1 h2 h3
   cases h
   match args,hl with
   |[e0,e1,e2],_=>exact uM g hm (bP h1) (bP h2) (bP h3) ha (s3 (by simp) (by simp) (by simp)) (s2 (by simp) (by simp))
  ·cases h
 ·dsimp only [nmB] at hn
  subst hn
  obtain ⟨elts,j,tp,rfl⟩:=tup (.inr rfl)
  split at h
  ·rename_i xs h1
   cases h
   match args,hl with
   |[e0],_=>exact vw g hm (bP h1) ha (s1 (by simp))
  ·cases h
 ·cases h
theorem zg (R:Row P wd K mg base G) (C:Calls P wd K mg base G kc cl) (hk:kc+2<=k) (xe:XE true P wd K mg base X sc N w k) (hn:bJ x=true) (hg:glB sc x=true) (ha:DA X ρ args ds) (hl:args.length=ds.length) (hs:∀e∈args,bt e=true) {r:Rs} (h:fnR G cl x ds=some r):
  (∀d,r.val=some d->DE X ρ (.Call (.Name x p) args [] pos) d)∧(∀c,r=.fr c->DFx X ρ (.Call (.Name x p) args [] pos) c)∧(∀d,r=.xc d->DEX X ρ (.Call (.Name x p) args [] pos) d):=by
 obtain ⟨hd1,hd2,hd3⟩:=dD hn
 have g:=xe.gl hg
 obtain ⟨rfl,rfl,rfl,rfl,rfl⟩:=And.intro xe.p_ (And.intro xe.w_ (And.intro xe.K_ (And.intro xe.mg_ xe.fB)))
 unfold fnR at h
 match ds,args,hl with
 |[],[],_=>
  dsimp only at h
  split at h
  ·rename_i C0 hq
   cases h
   have z:=R.exc x C0 [] hq
   obtain ⟨z1,z2⟩:=z.zero rfl
   refine ⟨fun d hd=>by cases hd;exact zA z1 z2 g z.mg_ hd1,(by intro c hc;cases hc),(by intro d hd;cases hd)⟩
  ·cases h
 |d0::dr,e0::er,hl=>
  have he:=bC (es:=er) (env:=X.env) (aL (hs e0 (by simp)))
  have hpl:=dG (es:=er) (env:=X.env) (pos:=pos) fun e he=>hs e (List.mem_cons_of_mem _ he)
  dsimp only at h
  split at h
  ·rename_i key hq
   obtain ⟨df,f,fd,ps,hm,L⟩:=R.fn x key hq
   have F:=C.fn key df f fd ps L
   have rm:=xe.room.mono (show kc<=k by omega)
   refine ⟨fun d hd=>?_,fun c hc=>?_,fun d hd=>?_⟩
   ·exact vE (CT.aA.okD F) rm g hm L.kp L.bind ha ⟨r,h,hd⟩ hd1 he hpl
   ·subst hc
    exact sk (C.fr key df f fd ps L) rm g hm L.kp L.bind ha h hd1 he hpl
   ·subst hd
    exact sy F rm g hm L.kp L.bind ha h xe.nox hd1 he hpl
  ·split at h
   ·rename_i C0 key hq
    obtain ⟨df,f,fd,ps,hm,M,L⟩:=R.ini x C0 key hq
    have F:=C.ini key C0 df f fd ps L
    have rm:=xe.room.mono (show kc+1<=k by omega)
    rcases C.insI key C0 df f fd ps L _ r h with ⟨fs,rfl⟩|⟨dx,rfl⟩
    ·refine ⟨fun d hd=>?_,(by intro c hc;cases hc),(by intro d hd;cases hd)⟩
     cases hd
     exact u9 M (CT.aA.okI F) rm g hm L.bind ha h hd1 he hpl
    ·refine ⟨(by intro d hd;cases hd),(by intro c hc;cases hc),fun d hd=>?_⟩
     cases hd
     exact sf M F rm g hm L.bind ha h xe.nox hd1 he hpl
   ·split at h
    ·rename_i C0 fs hq
     split at h
     ·rename_i hlen
      cases h
      have z:=R.exc x C0 fs hq
      obtain ⟨f,fd,ps,M,F,B⟩:=z.some (by intro q;subst q;simp at hlen)
      refine ⟨fun d hd=>by cases hd;exact yt M F (xe.room.mono (by omega)) g z.mg_ B ha hlen.1 hlen.2 hd1 he hpl,(by intro c hc;cases hc),(by intro d hd;cases hd)⟩
     ·cases h
    ·cases h
theorem yN (R:Row P wd K mg base G) (C:Calls P wd K mg base G kc cl) (hk:kc+2<=k) (xe:XE true P wd K mg base X sc N w k) {o:Expr} {m:Str} {ap:Pos} (hb:gz o=true) (h30:args.length<30) (hp:(ap.endLine==pos.line)=true) {od:D} (ho:DE X ρ o od) (ha:DA X ρ args ds) (hone:∀e0 d0,args=[e0]->ds=[d0]->DE X ρ e0 d0) (hl:args.length=ds.length)
  (hs:∀e∈args,bt e=true) {r:Rs} (h:bq G cl od m ds=some r):
  (∀d,r.val=some d->DE X ρ (.Call (.Attribute o m ap) args [] pos) d)∧(∀c,r=.fr c->DFx X ρ (.Call (.Attribute o m ap) args [] pos) c)∧(∀d,r=.xc d->DEX X ρ (.Call (.Attribute o m ap) args [] pos) d):=by
 have ht:=qJ (o:=o) (m:=m) (args:=args) (ap:=ap) (cp:=pos) (env:=X.env) hb hs h30 hp
 obtain ⟨rfl,rfl,rfl,rfl,rfl⟩:=And.intro xe.p_ (And.intro xe.w_ (And.intro xe.K_ (And.intro xe.mg_ xe.fB)))
 have rm:=xe.room.mono (show kc<=k by omega)
 unfold bq at h
 split at h
 ·rename_i C0 fs
  split at h
  ·rename_i key h1 h2
   obtain ⟨df,f,fd,ps,M,c,L⟩:=R.mth C0 m key h2
   have F:=C.fn key df f fd ps L
   match ds,args,hl with
   |[],[],_=>
    refine ⟨fun d hd=>?_,fun c hc=>?_,fun d hd=>?_⟩
    ·exact rZ ho h1 c M (CT.aA.okD F) rm L.bind ⟨r,h,hd⟩ ht
    ·subst hc;exact oM ho h1 (by assumption) M (C.fr key df f fd ps L) rm L.bind h ht
    ·subst hd;exact pM ho h1 c M F rm L.bind h xe.nox ht
   |d0::dr,e0::er,hl=>
    have he:=bC (es:=er) (env:=X.env) (aL (hs e0 (by simp)))
    have hpl:=dG (es:=er) (env:=X.env) (pos:=pos) fun e he=>hs e (List.mem_cons_of_mem _ he)
    refine ⟨fun d hd=>?_,fun c hc=>?_,fun d hd=>?_⟩
    ·exact uC ho h1 c M (CT.aA.okD F) rm L.bind ha ⟨r,h,hd⟩ he hpl ht
    ·subst hc;exact rQ ho h1 (by assumption) M (C.fr key df f fd ps L) rm L.bind ha h he hpl ht
    ·subst hd;exact rS ho h1 c M F rm L.bind ha h xe.nox he hpl ht
  ·cases h
 ·cases h
end
end IN
namespace IN
open PySem PySem.Spec PySem.W L2 CT
open PyProof.Rows hiding St
mutual
theorem ir:∀{t:Tg} {d:D} {ρ ρ' ρ1:Rho},Le ρ ρ'->ao t d ρ=some ρ1->∃ρ1',ao t d ρ'=some ρ1'∧Le ρ1 ρ1'
 |.nm k,d,ρ,ρ',ρ1,le,h=>by
  unfold ao at h ⊢
  split at h
  ·rename_i hk
   cases h
   rw [if_pos (by rw [←le.len];exact hk)]
   exact ⟨_,rfl,le.set k _⟩
  ·cases h
 |.tp ts,.tup ds,ρ,ρ',ρ1,le,h=>by
  unfold ao at h ⊢
  exact jI le h
 |.tp _,.non,_,_,_,_,h=>by unfold ao at h;cases h
 |.tp _,.bl _,_,_,_,_,h=>by unfold ao at h;cases h
 |.tp _,.int _,_,_,_,_,h=>by unfold ao at h;cases h
 |.tp _,.str _,_,_,_,_,h=>by unfold ao at h;cases h
 |.tp _,.lst _,_,_,_,_,h=>by unfold ao at h;cases h
 |.tp _,.ins _ _,_,_,_,_,h=>by unfold ao at h;cases h
 |.tp _,.exc _ _,_,_,_,_,h=>by unfold ao at h;cases h
 |.tp _,.ty _,_,_,_,_,h=>by unfold ao at h;cases h
 |.tp _,.cl _,_,_,_,_,h=>by unfold ao at h;cases h
 |.tp _,.dct _,_,_,_,_,h=>by unfold ao at h;cases h
 |.tp _,.pdc _,_,_,_,_,h=>by unfold ao at h;cases h
theorem jI:∀{ts:List Tg} {ds:List D} {ρ ρ' ρ1:Rho},Le ρ ρ'->aO ts ds ρ=some ρ1->∃ρ1',aO ts ds ρ'=some ρ1'∧Le ρ1 ρ1'
 |[],[],ρ,ρ',ρ1,le,h=>by unfold aO at h ⊢;cases h;exact ⟨_,rfl,le⟩
 |t::ts,d::ds,ρ,ρ',ρ1,le,h=>by
  unfold aO at h ⊢
  split at h
  ·rename_i ρ2 h2
   obtain ⟨ρ2',e2,le2⟩:=ir le h2
   rw [e2]
   exact jI le2 h
  ·cases h
 |[],_::_,_,_,_,_,h=>by unfold aO at h;cases h
 |_::_,[],_,_,_,_,h=>by unfold aO at h;cases h
end
theorem vM {es:List Expr} {env:Env}:(assignEach es env).length=es.length:=by
 induction es with
 |nil=>rfl
 |cons e es ih=>cases e<;>(simp only [assignEach,List.length_cons];rw [ih])
theorem hI {e:Expr} {es:List Expr} {env:Env} (h:bt e=true):assignEach (e::es) env=(false,assign e env)::assignEach es env:=by
 cases e<;>first|rfl|cases h
theorem qX {es:List Expr} {env:Env} (h:∀e∈es,bt e=true):(assignEach es env).findIdx? (·.1)=none:=by
 rw [List.findIdx?_eq_none_iff]
 induction es with
 |nil=>intro x hx;cases hx
 |cons e es ih=>
  intro x hx
  rw [hI (h e List.mem_cons_self)] at hx
  rcases List.mem_cons.mp hx with z|z
  ·rw [z]
  ·exact ih (fun e he=>h e (List.mem_cons_of_mem _ he)) x z
section
variable {P:Program} {wd:World} {K:Frag} {mg:Str->Option Value} {base:Heap} {X:Cx} {sc:Scope} {N:List Str} {w k kc:Nat} {G:Prg} {cl:Str->List D->Option Rs}
theorem kx (xe:XE true P wd K mg base X sc N w k):∀n,(∀tg t,cTg sc N n tg=some t->bt tg=true∧∀ρ d ρ1,ao t d ρ=some ρ1->(∀k∈tks t,k<w)->DG X tg ρ d ρ1 (tks t)∧b8 ρ ρ1 (tks t))∧
  (∀tgs ts,eD sc N n tgs=some ts->(∀e∈tgs,bt e=true)∧∀ρ ds ρ1,aO ts ds ρ=some ρ1->(∀k∈dM ts,k<w)->DGs X tgs ρ ds ρ1 (dM ts)∧b8 ρ ρ1 (dM ts)∧ds.length=tgs.length):=by
 intro n
 induction n with
 |zero=>exact ⟨fun tg t h=>(by unfold cTg at h;cases h),fun tg t h=>(by unfold eD at h;cases h)⟩
 |succ n ih=>
  refine ⟨fun tg t h=>?_,fun tgs ts h=>?_⟩
  ·unfold cTg at h
   split at h
   ·rename_i x p
    split at h
    ·rename_i hx
     simp only [Bool.and_eq_true] at hx
     cases hi:idx N x with
     |none=>rw [hi] at h;cases h
     |some i=>
      rw [hi] at h
      cases h
      refine ⟨rfl,fun ρ d ρ1 hb hw=>?_⟩
      unfold ao at hb
      split at hb
      ·cases hb
       have hat:=xe.at hi
       have hN:X.N.Nodup:=by rw [xe.N_];exact xe.nd
       refine ⟨uf hN hat (xe.loc hx.2) (.inl (xe.fn i x (hw i (by simp [tks])) (by rw [←xe.N_];exact hat))),wO⟩
      ·cases hb
    ·cases h
   ·rename_i es j p
    split at h
    ·rename_i hst
     cases hts:eD sc N n es with
     |none=>rw [hts] at h;cases h
     |some ts=>
      rw [hts] at h
      cases h
      obtain ⟨hs,ht⟩:=ih.2 es ts hts
      refine ⟨rfl,fun ρ d ρ1 hb hw=>?_⟩
      cases d with
      |tup ds=>
       unfold ao at hb
       obtain ⟨h1,h2,h3⟩:=ht ρ ds ρ1 hb (fun k hk=>hw k hk)
       exact ⟨wJ xe.calm h1 h3 (by rw [vM]) (qX hs),h2⟩
      |_=>unfold ao at hb;cases hb
    ·cases h
   ·cases h
  ·unfold eD at h
   split at h
   ·cases h
    refine ⟨fun e he=>(nomatch he),fun ρ ds ρ1 hb hw=>?_⟩
    cases ds with
    |nil=>unfold aO at hb;cases hb;exact ⟨uR,xl,rfl⟩
    |cons=>unfold aO at hb;cases hb
   ·rename_i e r
    split at h
    ·rename_i t ts h1 h2
     cases h
     obtain ⟨s1,g1⟩:=ih.1 e t h1
     obtain ⟨s2,g2⟩:=ih.2 r ts h2
     refine ⟨fun e' he=>?_,fun ρ ds ρ1 hb hw=>?_⟩
     ·rcases List.mem_cons.mp he with z|z
      ·rw [z];exact s1
      ·exact s2 e' z
     ·cases ds with
      |nil=>unfold aO at hb;cases hb
      |cons d ds=>
       unfold aO at hb
       split at hb
       ·rename_i ρ2 hb1
        obtain ⟨a1,a2⟩:=g1 ρ d ρ2 hb1 fun k hk=>hw k (by show k∈tks t++dM ts;exact List.mem_append_left _ hk)
        obtain ⟨b1,b2,b3⟩:=g2 ρ2 ds ρ1 hb fun k hk=>hw k (by show k∈tks t++dM ts;exact List.mem_append_right _ hk)
        exact ⟨sI a1 b1 (by rw [hI s1];rfl),a2.trans b2,by simp [b3]⟩
       ·cases hb
    ·cases h
theorem XE.cX (xe:XE true P wd K mg base X sc N w k) {scope:Scope} {own:List Str} {cap:List (Str×Nat)} (cs:CS X scope own cap) {p:List (Addr×Obj)} {s:Shared} {h:Hp} {fp:List Addr}:
  XE true P wd K mg base (CT.cX X scope own cap p s h fp) (ig scope sc) (own++cap.map (·.1)) own.length k where
 p_:=xe.p_
 w_:=xe.w_
 K_:=xe.K_
 mg_:=xe.mg_
 fB:=xe.fB
 sc_:=by rw [←xe.sc_];rfl
 N_:=rfl
 nd:=cs.nN
 kz:=xe.kz
 kD:=xe.kD
 units:=xe.units
 nox:=fun _ _ z=>z
 fn:=fun i x hi hx=>by
  show decide (x∈own)=true
  rw [List.getElem?_append_left hi] at hx
  exact decide_eq_true (List.mem_of_getElem? hx)
theorem su {w:Nat} {cap:List Nat} {ρ:Rho} {i:Nat} (h:i<w):(eS w cap ρ)[i]?=some .nil:=by
 unfold eS
 rw [List.getElem?_append_left (by simpa using h),List.getElem?_replicate,if_pos h]
end
end IN
namespace IN
open PySem PySem.Spec PySem.W L2 CT
open PyProof.Rows hiding St
structure All (P:Program) (wd:World) (K:Frag) (mg:Str->Option Value) (base:Heap) (G:Prg) (cl:Str->List D->Option Rs) (k n:Nat):Prop where
 e:∀X sc N w,XE true P wd K mg base X sc N w k->∀e ce,cE n sc N e=some ce->bt e=true∧ce≠.nop∧OkE G cl X e ce
 a:∀X sc N w,XE true P wd K mg base X sc N w k->∀es ces,cA n sc N es=some ces->(∀e∈es,bt e=true)∧∀ρ ρ' ds,Le ρ ρ'->evA G cl ces ρ=some ds->DA X ρ' es ds∧es.length=ds.length∧(∀e0 d0,es=[e0]->ds=[d0]->DE X ρ' e0 d0)
 b:∀X sc N w,XE true P wd K mg base X sc N w k->∀op es ce,cB n sc N op es=some ce->(∀ρ ρ' d pos,Le ρ ρ'->ev G cl ce ρ=some d->DE X ρ' (.BoolOp op es pos) d)∧∀ρ ρ' b pos,Le ρ ρ'->evT G cl ce ρ=some b->DW X ρ' (.BoolOp op es pos) b
 o:∀X sc N w,XE true P wd K mg base X sc N w k->∀oe ce,cO n sc N oe=some ce->∀ρ ρ' l,Le ρ ρ'->asI ce (ev G cl ce ρ)=some l->DO X ρ' oe l
 f:∀X sc N w,XE true P wd K mg base X sc N w k->∀ifs ce,cIf n sc N ifs=some ce->∀ρ ρ' b,Le ρ ρ'->evT G cl ce ρ=some b->DTs X ρ' ifs b
 g:∀X sc N w,XE true P wd K mg base X sc N w k->∀gens elt ce,cG n sc N gens elt=some ce->∀(full:List Comprehension) (m:Nat),full.drop (m+1)=gens->∀scope pos ρ ρ' out acc,Le ρ ρ'->evB G cl w ce ρ=some out->DB X acc (aS elt full scope pos m (.ref acc) X.env) ρ' out
section
variable {P:Program} {wd:World} {K:Frag} {mg:Str->Option Value} {base:Heap} {G:Prg} {cl:Str->List D->Option Rs} {k kc n:Nat} {X:Cx} {sc:Scope} {N:List Str} {w:Nat}
theorem zl (ih:All P wd K mg base G cl k n) (xe:XE true P wd K mg base X sc N w k) {es:List Expr} {ces:List CE} (h:cA (n+1) sc N es=some ces):
  (∀e∈es,bt e=true)∧∀ρ ρ' ds,Le ρ ρ'->evA G cl ces ρ=some ds->DA X ρ' es ds∧es.length=ds.length∧(∀e0 d0,es=[e0]->ds=[d0]->DE X ρ' e0 d0):=by
 unfold cA at h
 split at h
 ·cases h
  refine ⟨fun e he=>(nomatch he),fun ρ ρ' ds le h=>?_⟩
  unfold evA at h
  cases h
  exact ⟨kT,rfl,fun e0 d0 z=>nomatch z⟩
 ·rename_i e r
  split at h
  ·rename_i x xs h1 h2
   cases h
   obtain ⟨s1,_,o1⟩:=ih.e X sc N w xe e x h1
   obtain ⟨s2,o2⟩:=ih.a X sc N w xe r xs h2
   refine ⟨fun e' he=>?_,fun ρ ρ' ds le h=>?_⟩
   ·rcases List.mem_cons.mp he with z|z
    ·rw [z];exact s1
    ·exact s2 e' z
   ·unfold evA at h
    split at h
    ·rename_i d hd
     split at h
     ·rename_i ds' hds
      cases h
      obtain ⟨a1,a2,_⟩:=o2 ρ ρ' ds' le hds
      refine ⟨fk (o1.v le hd) a1 (bC (aL s1)),by simp [a2],fun e0 d0 z1 z2=>?_⟩
      cases z1;cases z2
      exact o1.v le hd
     ·cases h
    ·cases h
  ·cases h
theorem zR (ih:All P wd K mg base G cl k n) (xe:XE true P wd K mg base X sc N w k) {op:BoolOp} {es:List Expr} {ce:CE} (h:cB (n+1) sc N op es=some ce):
  (∀ρ ρ' d pos,Le ρ ρ'->ev G cl ce ρ=some d->DE X ρ' (.BoolOp op es pos) d)∧∀ρ ρ' b pos,Le ρ ρ'->evT G cl ce ρ=some b->DW X ρ' (.BoolOp op es pos) b:=by
 unfold cB at h
 split at h
 ·cases h
 ·rename_i e
  obtain ⟨_,_,o1⟩:=ih.e X sc N w xe e ce h
  refine ⟨fun ρ ρ' d pos le h=>yz (o1.v le h),fun ρ ρ' b pos le h=>?_⟩
  cases op with
  |And=>exact uw (o1.t le h)
  |Or=>exact wI (o1.t le h)
 ·rename_i e f r
  split at h
  ·rename_i x y h1 h2
   cases h
   obtain ⟨_,_,o1⟩:=ih.e X sc N w xe e x h1
   obtain ⟨o2,o3⟩:=ih.b X sc N w xe .And (f::r) y h2
   refine ⟨fun ρ ρ' d pos le h=>?_,fun ρ ρ' b pos le h=>?_⟩
   ·unfold ev at h
    split at h
    ·rename_i hx
     split at h
     ·rename_i q hq
      cases h
      have:=pF (pos:=pos) (o1.v le hx) fun _=>o2 ρ ρ' _ pos le hq
      rw [Bool.true_and] at this;exact this
     ·cases h
    ·rename_i hx
     cases h
     exact pF (q:=false) (o1.v le hx) fun z=>nomatch z
    ·cases h
   ·unfold evT at h
    split at h
    ·rename_i hx
     have:=pQ (pos:=pos) (o1.t le hx) fun _=>o3 ρ ρ' _ pos le h
     rw [Bool.true_and] at this;exact this
    ·rename_i hx
     cases h
     exact pQ (q:=false) (o1.t le hx) fun z=>nomatch z
    ·cases h
  ·rename_i x y h1 h2
   cases h
   obtain ⟨_,_,o1⟩:=ih.e X sc N w xe e x h1
   obtain ⟨o2,o3⟩:=ih.b X sc N w xe .Or (f::r) y h2
   refine ⟨fun ρ ρ' d pos le h=>?_,fun ρ ρ' b pos le h=>?_⟩
   ·unfold ev at h
    split at h
    ·rename_i hx
     cases h
     exact tZ (q:=false) (o1.v le hx) fun z=>nomatch z
    ·rename_i hx
     split at h
     ·rename_i q hq
      cases h
      have:=tZ (pos:=pos) (o1.v le hx) fun _=>o2 ρ ρ' _ pos le hq
      rw [Bool.false_or] at this;exact this
     ·cases h
    ·cases h
   ·unfold evT at h
    split at h
    ·rename_i hx
     cases h
     exact tR (q:=false) (o1.t le hx) fun z=>nomatch z
    ·rename_i hx
     have:=tR (pos:=pos) (o1.t le hx) fun _=>o3 ρ ρ' _ pos le h
     rw [Bool.false_or] at this;exact this
    ·cases h
  ·cases h
theorem z_ (ih:All P wd K mg base G cl k n) (xe:XE true P wd K mg base X sc N w k) {oe:Option Expr} {ce:CE} (h:cO (n+1) sc N oe=some ce) {ρ ρ':Rho} {l:Option Int} (le:Le ρ ρ') (hl:asI ce (ev G cl ce ρ)=some l):DO X ρ' oe l:=by
 unfold cO at h
 split at h
 ·cases h
  cases hl
  exact uQ
 ·rename_i e
  obtain ⟨_,hn,o1⟩:=ih.e X sc N w xe e ce h
  unfold asI at hl
  split at hl
  ·exact absurd rfl hn
  ·rename_i i hv
   cases hl
   exact vd (o1.v le hv)
  ·cases hl
theorem An (ih:All P wd K mg base G cl k n) (xe:XE true P wd K mg base X sc N w k) {ifs:List Expr} {ce:CE} (h:cIf (n+1) sc N ifs=some ce) {ρ ρ':Rho} {b:Bool} (le:Le ρ ρ') (hl:evT G cl ce ρ=some b):DTs X ρ' ifs b:=by
 unfold cIf at h
 split at h
 ·cases h
  unfold evT at hl
  cases hl
  exact ud
 ·rename_i e
  obtain ⟨_,hn,o1⟩:=ih.e X sc N w xe e ce h
  exact vt (o1.t le hl)
 ·cases h
theorem mP {tgt:Tg} {test body:CE} {d:D} {ρ:Rho} {out:List D} {wb:Nat}
  (h:(match ao tgt d ρ with
     |some ρ'=>match evT G cl test ρ' with
      |some true=>evB G cl wb body ρ'
      |some false=>some []
      |none=>none
     |none=>none)=some out):∃ρ1 b,ao tgt d ρ=some ρ1∧evT G cl test ρ1=some b∧(b=true->evB G cl wb body ρ1=some out)∧(b=false->out=[]):=by
 split at h
 ·rename_i ρ1 h1
  split at h
  ·rename_i h2;exact ⟨ρ1,true,h1,h2,fun _=>h,fun z=>nomatch z⟩
  ·rename_i h2;cases h;exact ⟨ρ1,false,h1,h2,(fun z=>nomatch z),fun _=>rfl⟩
  ·cases h
 ·cases h
theorem zX (ih:All P wd K mg base G cl k n) (xe:XE true P wd K mg base X sc N w k) {gens:List Comprehension} {elt:Expr} {ce:CE} (h:cG (n+1) sc N gens elt=some ce) {full:List Comprehension} {m:Nat} (hf:full.drop (m+1)=gens)
  {scope:Scope} {pos:Pos} {ρ ρ':Rho} {out:List D} {acc:Addr} (le:Le ρ ρ') (ho:evB G cl w ce ρ=some out):DB X acc (aS elt full scope pos m (.ref acc) X.env) ρ' out:=by
 unfold cG at h
 split at h
 ·cases hq:cE n sc N elt with
  |none=>rw [hq] at h;cases h
  |some x=>
   rw [hq] at h
   cases h
   obtain ⟨_,_,o1⟩:=ih.e X sc N w xe elt x hq
   unfold evB at ho
   split at ho
   ·rename_i d hd
    cases ho
    have hn:full[m+1]?=none:=by
     have z:(full.drop (m+1))[0]?=full[m+1]?:=by rw [List.getElem?_drop]
     rw [←z,hf];rfl
    unfold aS
    rw [hn]
    exact ue (o1.v le hd)
   ·cases ho
 ·rename_i tg it ifs r
  split at h
  ·rename_i hit
   split at h
   ·rename_i t i c b h1 h2 h3 h4
    cases h
    have hg:full[m+1]?=some ⟨tg,it,ifs,0⟩:=by
     have z:(full.drop (m+1))[0]?=full[m+1]?:=by rw [List.getElem?_drop]
     rw [←z,hf];rfl
    have hf2:full.drop (m+1+1)=r:=by
     have:full.drop (m+1+1)=(full.drop (m+1)).drop 1:=by rw [List.drop_drop]
     rw [this,hf];rfl
    obtain ⟨_,_,oi⟩:=ih.e X sc N w xe it i h2
    unfold evB at ho
    split at ho
    ·rename_i its hi
     split at ho
     ·rename_i hk
      obtain ⟨outs,l1,l2,l3⟩:=f7 ho
      subst l2
      rw [List.all_eq_true] at hk
      have hk':∀j∈tks t,j<w∧ρ[j]?=some .nil:=fun j hj=>by
       have:=hk j hj
       simp only [Bool.and_eq_true,decide_eq_true_eq] at this
       exact ⟨this.1,oG this.2⟩
      refine vi (ks:=tks t) hg xe.calm (fun e s z=>xe.nox e s z) (oi.i le hit hi).dI0 (fun j hj=>le.nil j (hk' j hj).2) l1 (fun q d o hd ho'=>?_) (ft hit _)
      obtain ⟨ρ1,bb,z1,z2,z3,z4⟩:=mP (l3 q d o hd ho')
      obtain ⟨ρ1',e1,le1⟩:=ir le z1
      obtain ⟨_,tg1⟩:=(kx xe n).1 tg t h1
      obtain ⟨dg,_⟩:=tg1 ρ' d ρ1' e1 fun j hj=>(hk' j hj).1
      exact ⟨ρ1',bb,dg,ih.f X sc N w xe ifs c h3 ρ1 ρ1' bb le1 z2,fun hb=>ih.g X sc N w xe r elt b h4 full (m+1) hf2 scope pos ρ1 ρ1' o acc le1 (z3 hb),z4⟩
     ·cases ho
    ·cases ho
   ·cases h
  ·cases h
 ·cases h
theorem vD (ih:All P wd K mg base G cl k n) (xe:XE true P wd K mg base X sc N w k) {elt tg it:Expr} {ifs:List Expr} {gens:List Comprehension} {scope:Scope} {pos:Pos} {t:Tg} {i c b:CE}
  (hcs:n6 scope (ownOf scope) (bV scope N) sc N=true) (hit:fF tg it=true)
  (h1:cTg (ig scope sc) (ownOf scope++(bV scope N).map (·.1)) n tg=some t) (h2:cE n sc N it=some i) (h3:cIf n (ig scope sc) (ownOf scope++(bV scope N).map (·.1)) ifs=some c)
  (h4:cG n (ig scope sc) (ownOf scope++(bV scope N).map (·.1)) gens elt=some b) {ρ ρ':Rho} {d:D} (le:Le ρ ρ') (h:ev G cl (.comp (ownOf scope).length ((bV scope N).map (·.2)) t i c b) ρ=some d):
  ∃xs,d=.lst xs∧DC X ρ' (.ListComp elt (⟨tg,it,ifs,0⟩::gens) scope pos) xs:=by
 have cs:CS X scope (ownOf scope) (bV scope N):=CS.of sc N xe.sc_ xe.N_ hcs
 obtain ⟨_,_,oi⟩:=ih.e X sc N w xe it i h2
 unfold ev at h
 split at h
 ·rename_i its hi
  split at h
  ·rename_i hk
   split at h
   ·rename_i out hc
    split at h
    ·rename_i hz
     cases h
     obtain ⟨outs,l1,l2,l3⟩:=f7 hc
     subst l2
     rw [List.all_eq_true] at hk
     have hk':∀j∈tks t,j<(ownOf scope).length:=fun j hj=>by simpa using hk j hj
     have lec:=le.cap (ownOf scope) (bV scope N)
     refine ⟨_,rfl,uN (ks:=tks t) cs xe.calm (oi.i le hit hi).dI0 (fun j hj=>lec.nil j (su (hk' j hj))) l1 hz (fun q dd o hd ho'=>?_) (ft hit _)⟩
     obtain ⟨ρ1,bb,z1,z2,z3,z4⟩:=mP (l3 q dd o hd ho')
     obtain ⟨ρ1',e1,le1⟩:=ir lec z1
     refine ⟨ρ1',bb,fun p s H f=>?_,fun p s H f=>?_,fun hb p s H f acc=>?_,z4⟩
     ·obtain ⟨_,tg1⟩:=(kx (xe.cX cs (p:=p) (s:=s) (h:=H) (fp:=f)) n).1 tg t h1
      exact (tg1 _ dd ρ1' e1 hk').1
     ·exact ih.f _ _ _ _ (xe.cX cs) ifs c h3 ρ1 ρ1' bb le1 z2
     ·exact ih.g _ _ _ _ (xe.cX cs) gens elt b h4 (⟨tg,it,ifs,0⟩::gens) 0 rfl scope pos ρ1 ρ1' o acc le1 (z3 hb)
    ·cases h
   ·cases h
  ·cases h
 ·cases h
end
end IN
namespace IN
open PySem PySem.Spec PySem.W L2 CT
open PyProof.Rows hiding St
section
variable {P:Program} {wd:World} {K:Frag} {mg:Str->Option Value} {base:Heap} {G:Prg} {cl:Str->List D->Option Rs} {k kc n:Nat} {X:Cx} {sc:Scope} {N:List Str} {w:Nat} {ce:CE} {pos:Pos}
theorem vy {c:Const} {j:Nat} (h:qi c=some ce):ce≠.nop∧OkE G cl X (.Constant c j pos) ce:=by
 cases c with
 |int i=>
  cases h
  refine ⟨(fun z=>nomatch z),OkE.of (fun le h=>by unfold ev at h;cases h;exact yv) (fun le h=>by unfold evT at h;cases h) (fun le _ h=>by unfold evI at h;cases h) rfl fun ρ=>rfl⟩
 |bool b=>
  cases h
  refine ⟨(fun z=>nomatch z),OkE.of (fun le h=>by unfold ev at h;cases h;exact tU) (fun le h=>by unfold evT at h;cases h;exact gk tU) (fun le _ h=>by unfold evI at h;cases h) rfl fun ρ=>rfl⟩
 |none=>
  cases h
  refine ⟨(fun z=>nomatch z),OkE.of (fun le h=>by unfold ev at h;cases h;exact gE) (fun le h=>by unfold evT at h;cases h) (fun le _ h=>by unfold evI at h;cases h) rfl fun ρ=>rfl⟩
 |str s=>
  cases h
  refine ⟨(fun z=>nomatch z),OkE.of (fun le h=>by unfold ev at h;cases h;exact wx) (fun le h=>by unfold evT at h;cases h) (fun le _ h=>by unfold evI at h;cases h) rfl fun ρ=>rfl⟩
 |float _=>cases h
 |complex _ _=>cases h
 |bytes _=>cases h
 |ellipsis=>cases h
theorem xh {ca:Bool} (R:Row P wd K mg base G) (xe:XE ca P wd K mg base X sc N w k) {x:Str} (h:nF sc N x=some ce):ce≠.nop∧OkE G cl X (.Name x pos) ce:=by
 unfold nF at h
 split at h
 ·rename_i hn
  obtain ⟨h1,h2,_⟩:=dD hn
  split at h
  ·rename_i i hi
   split at h
   ·rename_i hv
    cases h
    have go:∀{ρ ρ':Rho} {d:D},Le ρ ρ'->aQ ρ[i]?=some d->DE X ρ' (.Name x pos) d:=fun le hq=>l0 (xe.at hi) (xe.vis hv) (le.val i _ (rg hq)) h1 h2
    refine ⟨(fun z=>nomatch z),OkE.of (fun le h=>by unfold ev at h;exact go le h) (fun le h=>?_) (fun le _ h=>?_) rfl (fun ρ=>rfl) (fun i' z ρ c pos hr=>(by cases z;exact uU (xe.at hi) (xe.vis hv) hr h1 h2)) fun i' z=>(by cases z;exact ⟨x,pos,rfl,xe.at hi,xe.vis hv,h1,h2⟩)⟩
    ·unfold evT at h
     split at h
     ·rename_i b hb;cases h;exact gk (go le hb)
     ·cases h
    ·unfold evI at h
     split at h
     ·rename_i d hd;exact eO (go le hd) h
     ·cases h
   ·cases h
  ·split at h
   ·rename_i hg
    cases h
    refine ⟨(fun z=>nomatch z),OkE.of (fun le h=>by unfold ev at h;exact R.glob X xe.K_ xe.mg_ x _ h hn (xe.gl hg) _ _) (fun le h=>by unfold evT at h;cases h) (fun le _ h=>by unfold evI at h;cases h) rfl fun ρ=>rfl⟩
   ·cases h
 ·cases h
theorem zx (R:Row P wd K mg base G) (C:Calls P wd K mg base G kc cl) (hk:kc+2<=k) (ih:All P wd K mg base G cl k n) (xe:XE true P wd K mg base X sc N w k) {e:Expr} (h:cE (n+1) sc N e=some ce):bt e=true∧ce≠.nop∧OkE G cl X e ce:=by
 unfold cE at h
 split at h
 ·
  exact ⟨rfl,vy h⟩
 ·
  exact ⟨rfl,xh R xe h⟩
 ·
  rename_i a op b _
  split at h
  ·rename_i o x y h0 h1 h2
   cases h
   obtain ⟨_,_,oa⟩:=ih.e X sc N w xe a x h1
   obtain ⟨_,_,ob⟩:=ih.e X sc N w xe b y h2
   refine ⟨rfl,(fun z=>nomatch z),OkE.of (fun le h=>?_) (fun le h=>by unfold evT at h;cases h) (fun le _ h=>?_) rfl fun ρ=>rfl⟩
   ·unfold ev at h
    split at h
    ·rename_i u hu
     split at h
     ·rename_i v hv;exact oV h0 (oa.v le hu) (ob.v le hv) h
     ·cases h
    ·cases h
   ·unfold evI at h
    split at h
    ·rename_i u hu
     split at h
     ·rename_i v hv
      split at h
      ·rename_i d hd;exact eO (oV h0 (oa.v le hu) (ob.v le hv) hd) h
      ·cases h
     ·cases h
    ·cases h
  ·cases h
 ·
  rename_i a _
  cases hq:cE n sc N a with
  |none=>rw [hq] at h;cases h
  |some x=>
   rw [hq] at h;cases h
   obtain ⟨_,_,oa⟩:=ih.e X sc N w xe a x hq
   refine ⟨rfl,(fun z=>nomatch z),OkE.of (fun le h=>?_) (fun le h=>by unfold evT at h;cases h) (fun le _ h=>by unfold evI at h;cases h) rfl fun ρ=>rfl⟩
   unfold ev at h
   split at h
   ·rename_i i hi;cases h;exact wG (oa.v le hi)
   ·cases h
 ·
  rename_i a _
  cases hq:cE n sc N a with
  |none=>rw [hq] at h;cases h
  |some x=>
   rw [hq] at h;cases h
   obtain ⟨_,_,oa⟩:=ih.e X sc N w xe a x hq
   refine ⟨rfl,(fun z=>nomatch z),OkE.of (fun le h=>?_) (fun le h=>?_) (fun le _ h=>by unfold evI at h;cases h) rfl fun ρ=>rfl⟩
   ·unfold ev at h
    split at h
    ·rename_i i hi;cases h;exact yn (oa.v le hi)
    ·cases h
   ·unfold evT at h
    split at h
    ·rename_i i hi;cases h;exact wC (oa.t le hi)
    ·cases h
 ·
  rename_i op a b r _
  obtain ⟨b1,b2⟩:=ih.b X sc N w xe op (a::b::r) ce h
  have hce:(∃x y,ce=.and x y)∨∃x y,ce=.or x y:=by
   cases n with
   |zero=>unfold cB at h;cases h
   |succ n=>
    unfold cB at h
    dsimp only at h
    split at h
    ·cases h;exact .inl ⟨_,_,rfl⟩
    ·cases h;exact .inr ⟨_,_,rfl⟩
    ·cases h
  refine ⟨rfl,?_,OkE.of (fun le h=>b1 _ _ _ _ le h) (fun le h=>(b2 _ _ _ _ le h).dt) ?_ rfl ?_ ?_ ?_⟩
  ·rcases hce with ⟨_,_,rfl⟩|⟨_,_,rfl⟩<;>exact fun z=>nomatch z
  ·intro ρ ρ' its tg le _ h
   rcases hce with ⟨_,_,rfl⟩|⟨_,_,rfl⟩<;>(unfold evI at h;cases h)
  ·intro ρ
   rcases hce with ⟨_,_,rfl⟩|⟨_,_,rfl⟩<;>rfl
  ·intro i z
   rcases hce with ⟨_,_,rfl⟩|⟨_,_,rfl⟩<;>cases z
  ·intro i z
   rcases hce with ⟨_,_,rfl⟩|⟨_,_,rfl⟩<;>cases z
 ·
  rename_i a op b _
  split at h
  ·rename_i j p'
   cases hq:cE n sc N a with
   |none=>rw [hq] at h;cases h
   |some x=>
    rw [hq] at h;cases h
    obtain ⟨_,_,oa⟩:=ih.e X sc N w xe a x hq
    refine ⟨rfl,(fun z=>nomatch z),OkE.of (fun le h=>?_) (fun le h=>?_) (fun le _ h=>by unfold evI at h;cases h) rfl fun ρ=>rfl⟩
    ·unfold ev at h
     split at h
     ·rename_i d hd;cases h;exact xC (oa.v le hd)
     ·cases h
    ·unfold evT at h
     split at h
     ·rename_i d hd;cases h;exact yb (oa.v le hd)
     ·cases h
  ·rename_i j p'
   cases hq:cE n sc N a with
   |none=>rw [hq] at h;cases h
   |some x=>
    rw [hq] at h;cases h
    obtain ⟨_,_,oa⟩:=ih.e X sc N w xe a x hq
    refine ⟨rfl,(fun z=>nomatch z),OkE.of (fun le h=>?_) (fun le h=>?_) (fun le _ h=>by unfold evI at h;cases h) rfl fun ρ=>rfl⟩
    ·unfold ev at h
     split at h
     ·rename_i d hd;cases h;exact uj (oa.v le hd)
     ·cases h
    ·unfold evT at h
     split at h
     ·rename_i d hd;cases h;exact uu (oa.v le hd)
     ·cases h
  ·split at h
   ·rename_i o x y h0 h1 h2
    split at h
    ·rename_i hns
     cases h
     obtain ⟨_,_,oa⟩:=ih.e X sc N w xe a x h1
     obtain ⟨_,_,ob⟩:=ih.e X sc N w xe b y h2
     refine ⟨rfl,(fun z=>nomatch z),OkE.of (fun le h=>?_) (fun le h=>?_) (fun le _ h=>by unfold evI at h;cases h) rfl fun ρ=>rfl⟩
     ·unfold ev at h
      split at h
      ·rename_i u hu
       split at h
       ·rename_i v hv
        split at h
        ·rename_i q hq;cases h;exact v_ hns xe.units h0 (oa.v le hu) (ob.v le hv) hq
        ·cases h
       ·cases h
      ·cases h
     ·unfold evT at h
      split at h
      ·rename_i u hu
       split at h
       ·rename_i v hv;exact vI hns xe.units h0 (oa.v le hu) (ob.v le hv) h
       ·cases h
      ·cases h
    ·cases h
   ·cases h
 ·
  rename_i a b c _
  split at h
  ·rename_i x y z h1 h2 h3
   split at h
   ·rename_i hs
    simp only [Bool.and_eq_true] at hs
    cases h
    obtain ⟨_,_,oa⟩:=ih.e X sc N w xe a x h1
    obtain ⟨_,_,ob⟩:=ih.e X sc N w xe b y h2
    obtain ⟨_,_,oc⟩:=ih.e X sc N w xe c z h3
    refine ⟨rfl,(fun z=>nomatch z),OkE.of (fun le h=>?_) (fun le h=>by unfold evT at h;cases h) (fun le _ h=>by unfold evI at h;cases h) rfl fun ρ=>rfl⟩
    unfold ev at h
    split at h
    ·rename_i i hi
     split at h
     ·rename_i j hj
      split at h
      ·rename_i l hl;cases h;exact rW (oa.v le hi) (ob.v le hj) (oc.v le hl) (rq hs.2)
      ·cases h
     ·cases h
    ·cases h
   ·cases h
  ·cases h
 ·
  rename_i c a b _
  split at h
  ·rename_i z x y h0 h1 h2
   cases h
   obtain ⟨_,_,oc⟩:=ih.e X sc N w xe c z h0
   obtain ⟨_,_,oa⟩:=ih.e X sc N w xe a x h1
   obtain ⟨_,_,ob⟩:=ih.e X sc N w xe b y h2
   refine ⟨rfl,(fun z=>nomatch z),OkE.of (fun le h=>?_) (fun le h=>by unfold evT at h;cases h) (fun le _ h=>by unfold evI at h;cases h) rfl fun ρ=>rfl⟩
   unfold ev at h
   split at h
   ·rename_i hq;exact tH (oc.t le hq) (fun _=>oa.v le h) fun z=>nomatch z
   ·rename_i hq;exact tH (oc.t le hq) (fun z=>nomatch z) fun _=>ob.v le h
   ·cases h
  ·cases h
 ·
  rename_i es j _
  cases hq:cA n sc N es with
  |none=>rw [hq] at h;cases h
  |some ces=>
   rw [hq] at h;cases h
   obtain ⟨_,oa⟩:=ih.a X sc N w xe es ces hq
   refine ⟨rfl,(fun z=>nomatch z),OkE.of (fun le h=>?_) (fun le h=>by unfold evT at h;cases h) (fun le _ h=>?_) rfl fun ρ=>rfl⟩
   ·unfold ev at h
    split at h
    ·rename_i ds hd
     split at h
     ·rename_i hl;cases h;exact pN (oa _ _ ds le hd).1 hl
     ·cases h
    ·cases h
   ·unfold evI at h
    split at h
    ·rename_i ds hd
     split at h
     ·rename_i hl;cases h;exact pD (pN (oa _ _ _ le hd).1 hl)
     ·cases h
    ·cases h
 ·
  rename_i es _
  cases hq:cA n sc N es with
  |none=>rw [hq] at h;cases h
  |some ces=>
   rw [hq] at h;cases h
   obtain ⟨_,oa⟩:=ih.a X sc N w xe es ces hq
   refine ⟨rfl,(fun z=>nomatch z),⟨fun le h=>?_,fun le h=>(by unfold evT at h;cases h),fun le _ h=>?_,fun z=>(nomatch z),fun i z=>(nomatch z),fun i z=>(nomatch z),fun le h=>?_⟩⟩
   ·unfold ev at h
    split at h
    ·rename_i ds hd
     split at h
     ·rename_i hl;cases h;exact qf (oa _ _ ds le hd).1 hl
     ·cases h
    ·cases h
   ·unfold evI at h
    split at h
    ·rename_i ds hd
     split at h
     ·rename_i hl;cases h;exact o5 (qf (oa _ _ _ le hd).1 hl)
     ·cases h
    ·cases h
   ·unfold evV at h
    dsimp only at h
    split at h
    ·rename_i ds hd
     split at h
     ·rename_i hl
      cases h
      have:=yj (pos:=‹Pos›) (oa _ _ ds le hd).1 hl
      exact ⟨fun d hd=>by cases hd;exact this.de,fun c hc=>by cases hc;exact this.x,by intro d z;cases z⟩
     ·cases h
    ·cases h
 ·
  cases h
  refine ⟨rfl,(fun z=>nomatch z),⟨fun le h=>?_,fun le h=>(by unfold evT at h;cases h),fun le _ h=>(by unfold evI at h;cases h),fun z=>(nomatch z),fun i z=>(nomatch z),fun i z=>(nomatch z),fun le h=>?_⟩⟩
  ·unfold ev at h;cases h;exact jd.de
  ·unfold evV at h
   cases h
   exact ⟨fun d hd=>by cases hd;exact jd.de,fun c hc=>by cases hc;exact jd,by intro d z;cases z⟩
 ·
  rename_i a lo hi _ _
  split at h
  ·rename_i x y z h1 h2 h3
   cases h
   obtain ⟨_,_,oa⟩:=ih.e X sc N w xe a x h1
   refine ⟨rfl,(fun z=>nomatch z),OkE.of (fun le h=>?_) (fun le h=>by unfold evT at h;cases h) (fun le _ h=>?_) rfl fun ρ=>rfl⟩
   ·unfold ev at h
    split at h
    ·rename_i u hu
     split at h
     ·rename_i l hl
      split at h
      ·rename_i v hv
       have d1:=ih.o X sc N w xe lo y h2 _ _ l le hl
       have d2:=ih.o X sc N w xe hi z h3 _ _ v le hv
       unfold slD at h
       split at h
       ·cases h;exact pS (oa.v le hu) d1 d2
       ·cases h;exact qd (oa.v le hu) d1 d2
       ·cases h
      ·cases h
     ·cases h
    ·cases h
   ·unfold evI at h
    split at h
    ·rename_i u hu
     split at h
     ·rename_i l hl
      split at h
      ·rename_i v hv
       have d1:=ih.o X sc N w xe lo y h2 _ _ l le hl
       have d2:=ih.o X sc N w xe hi z h3 _ _ v le hv
       split at h
       ·rename_i d hd
        unfold slD at hd
        split at hd
        ·cases hd;exact eO (pS (oa.v le hu) d1 d2) h
        ·cases hd;exact eO (qd (oa.v le hu) d1 d2) h
        ·cases hd
       ·cases h
      ·cases h
     ·cases h
    ·cases h
  ·cases h
 ·
  rename_i a b _ _
  split at h
  ·rename_i x y h1 h2
   split at h
   ·rename_i hs
    cases h
    obtain ⟨_,_,oa⟩:=ih.e X sc N w xe a x h1
    obtain ⟨_,_,ob⟩:=ih.e X sc N w xe b y h2
    have go:∀{ρ ρ':Rho} {u v d:D},Le ρ ρ'->ev G cl x ρ=some u->ev G cl y ρ=some v->ixD u v=some d->DE X ρ' (.Subscript a b ‹Pos›) d:=fun le hu hv hd=>zW xe.units hs (oa.v le hu) (ob.v le hv) hd
    refine ⟨rfl,(fun z=>nomatch z),OkE.of (fun le h=>?_) (fun le h=>by unfold evT at h;cases h) (fun le _ h=>?_) rfl fun ρ=>rfl⟩
    ·unfold ev at h
     split at h
     ·rename_i u hu
      split at h
      ·rename_i v hv;exact go le hu hv h
      ·cases h
     ·cases h
    ·unfold evI at h
     split at h
     ·rename_i u hu
      split at h
      ·rename_i v hv
       split at h
       ·rename_i d hd;exact eO (go le hu hv hd) h
       ·cases h
      ·cases h
     ·cases h
   ·cases h
  ·cases h
 ·
  rename_i a f _
  split at h
  ·rename_i hb
   cases hq:cE n sc N a with
   |none=>rw [hq] at h;cases h
   |some x=>
    rw [hq] at h;cases h
    obtain ⟨_,_,oa⟩:=ih.e X sc N w xe a x hq
    have go:∀{ρ ρ':Rho} {u d:D},Le ρ ρ'->ev G cl x ρ=some u->cI G u f=some d->DE X ρ' (.Attribute a f ‹Pos›) d:=fun {ρ ρ' u d} le hu hd=>by
     have hK:=xe.K_
     subst hK
     unfold cI at hd
     split at hd
     ·split at hd
      ·rename_i hf;exact wH (oa.v le hu) (R.fok _ _ hf).1 (R.fok _ _ hf).2 hd (ji hb)
      ·cases hd
     ·split at hd
      ·rename_i hf;exact vU (oa.v le hu) (R.xok _ _ hf).1 (R.xok _ _ hf).2 hd (ji hb)
      ·cases hd
     ·cases hd
    refine ⟨rfl,(fun z=>nomatch z),OkE.of (fun le h=>?_) (fun le h=>by unfold evT at h;cases h) (fun le _ h=>?_) rfl fun ρ=>rfl⟩
    ·unfold ev at h
     split at h
     ·rename_i u hu;exact go le hu h
     ·cases h
    ·unfold evI at h
     split at h
     ·rename_i u hu
      split at h
      ·rename_i d hd;exact eO (go le hu hd) h
      ·cases h
     ·cases h
  ·cases h
 ·
  rename_i x p' args _
  split at h
  ·rename_i hn
   simp only [Bool.and_eq_true] at hn
   obtain ⟨⟨hn1,hg⟩,_⟩:=hn
   split at h
   ·rename_i ces hq
    obtain ⟨ss,oa⟩:=ih.a X sc N w xe args ces hq
    split at h
    ·rename_i b hb
     cases h
     have vb:∀{ρ ρ':Rho} {d:D},Le ρ ρ'->ev G cl (.blt b ces) ρ=some d->DE X ρ' (.Call (.Name x p') args [] ‹Pos›) d:=by
      intro ρ ρ' d le h
      unfold ev at h
      split at h
      ·rename_i ds hd
       obtain ⟨a1,a2,a3⟩:=oa _ _ ds le hd
       split at h
       ·split at h
        ·split at h
         ·rename_i d0 xs hs
          cases h
          match args,a2,a1,ss with
          |[e0],_,a1,ss=>exact (mq R xe hb hg a1 (ss e0 (by simp)) hs).de
         ·cases h
        ·cases h
       ·cases h
       ·exact pP R xe hb hg a1 a2 ss h
      ·cases h
     refine ⟨rfl,(fun z=>nomatch z),⟨vb,fun le h=>?_,fun le ht h=>?_,fun z=>(nomatch z),fun i z=>(nomatch z),fun i z=>(nomatch z),fun {ρ ρ' r} le h=>?_⟩⟩
     ·unfold evT at h
      split at h
      ·rename_i ds hd
       split at h
       ·rename_i q hq
        cases h
        obtain ⟨a1,a2,a3⟩:=oa _ _ ds le hd
        exact gk (pP R xe hb hg a1 a2 ss hq)
       ·cases h
      ·cases h
     ·unfold evI at h
      split at h
      ·rename_i ds hd
       split at h
       ·rename_i its hi
        cases h
        obtain ⟨a1,a2,a3⟩:=oa _ _ ds le hd
        exact we R xe ht hb hg a1 a2 ss hi
       ·cases h
      ·cases h
     ·have dflt:(evV G cl (.blt b ces) ρ=match ev G cl (.blt b ces) ρ with|some d=>some (.ok d)|none=>none)->(∀d,r.val=some d->DE X ρ' (.Call (.Name x p') args [] ‹Pos›) d)∧(∀c,r=.fr c->DFx X ρ' (.Call (.Name x p') args [] ‹Pos›) c)∧(∀d,r=.xc d->DEX X ρ' (.Call (.Name x p') args [] ‹Pos›) d):=by
       intro q
       rw [q] at h
       split at h
       ·rename_i d hd;cases h;exact ⟨fun d' hd'=>by cases hd';exact vb le hd,(by intro c z;cases z),by intro d z;cases z⟩
       ·cases h
      cases b with
      |list=>
       unfold evV at h
       dsimp only at h
       split at h
       ·rename_i xs hx
        cases h
        refine ⟨fun d' hd'=>by cases hd';exact vb le hx,fun c hc=>?_,by intro d z;cases z⟩
        cases hc
        unfold ev at hx
        split at hx
        ·rename_i ds hd
         obtain ⟨a1,a2,a3⟩:=oa _ _ ds le hd
         dsimp only at hx
         split at hx
         ·split at hx
          ·rename_i d0 ys hs
           cases hx
           match args,a2,a1,ss with
           |[e0],_,a1,ss=>exact (mq R xe hb hg a1 (ss e0 (by simp)) hs).x
          ·cases hx
         ·cases hx
        ·cases hx
       ·cases h
      |dict=>
       unfold evV ev at h
       dsimp only at h
       split at h
       ·rename_i xs hx
        split at hx<;>cases hx
       ·cases h
      |len=>exact dflt rfl
      |sum=>exact dflt rfl
      |all=>exact dflt rfl
      |any=>exact dflt rfl
      |abs=>exact dflt rfl
      |int=>exact dflt rfl
      |tuple=>exact dflt rfl
      |min=>exact dflt rfl
      |max=>exact dflt rfl
      |isin=>exact dflt rfl
      |range=>exact dflt rfl
      |zip=>exact dflt rfl
      |enum=>exact dflt rfl
      |str=>exact dflt rfl
      |sorted=>exact dflt rfl
    ·cases h
     have go:∀{ρ ρ':Rho} {ds:List D} {r:Rs},Le ρ ρ'->evA G cl ces ρ=some ds->fnR G cl x ds=some r->(∀d,r.val=some d->DE X ρ' (.Call (.Name x p') args [] ‹Pos›) d)∧(∀c,r=.fr c->DFx X ρ' (.Call (.Name x p') args [] ‹Pos›) c)∧(∀d,r=.xc d->DEX X ρ' (.Call (.Name x p') args [] ‹Pos›) d):=fun le hd hr=>by
      obtain ⟨a1,a2,a3⟩:=oa _ _ _ le hd
      exact zg R C hk xe hn1 hg a1 a2 ss hr
     refine ⟨rfl,(fun z=>nomatch z),⟨fun le h=>?_,fun le h=>?_,fun le ht h=>?_,fun z=>(nomatch z),fun i z=>(nomatch z),fun i z=>(nomatch z),fun {ρ ρ' r} le h=>?_⟩⟩
     ·unfold ev at h
      split at h
      ·rename_i ds hd
       split at h
       ·rename_i r hr;exact (go le hd hr).1 _ h
       ·cases h
      ·cases h
     ·unfold evT at h
      split at h
      ·rename_i ds hd
       split at h
       ·rename_i q hr;cases h;exact gk ((go le hd hr).1 _ rfl)
       ·cases h
      ·cases h
     ·unfold evI at h
      split at h
      ·rename_i ds hd
       split at h
       ·rename_i r hr
        split at h
        ·rename_i d hv;exact eO ((go le hd hr).1 _ hv) h
        ·cases h
       ·cases h
      ·cases h
     ·unfold evV at h
      dsimp only at h
      split at h
      ·rename_i ds hd;exact go le hd h
      ·cases h
   ·cases h
  ·cases h
 ·
  rename_i o m ap args _
  split at h
  ·rename_i hn
   simp only [Bool.and_eq_true,decide_eq_true_eq] at hn
   obtain ⟨⟨hb,h30⟩,hp⟩:=hn
   split at h
   ·rename_i x ces h1 h2
    cases h
    obtain ⟨_,_,oo⟩:=ih.e X sc N w xe o x h1
    obtain ⟨ss,oa⟩:=ih.a X sc N w xe args ces h2
    have go:∀{ρ ρ':Rho} {u:D} {ds:List D} {r:Rs},Le ρ ρ'->ev G cl x ρ=some u->evA G cl ces ρ=some ds->bq G cl u m ds=some r->(∀d,r.val=some d->DE X ρ' (.Call (.Attribute o m ap) args [] ‹Pos›) d)∧(∀c,r=.fr c->DFx X ρ' (.Call (.Attribute o m ap) args [] ‹Pos›) c)∧(∀d,r=.xc d->DEX X ρ' (.Call (.Attribute o m ap) args [] ‹Pos›) d):=fun le hu hd hr=>by
     obtain ⟨a1,a2,a3⟩:=oa _ _ _ le hd
     exact yN R C hk xe hb h30 hp (oo.v le hu) a1 a3 a2 ss hr
    refine ⟨rfl,(fun z=>nomatch z),⟨fun le h=>?_,fun le h=>?_,fun le ht h=>?_,fun z=>(nomatch z),fun i z=>(nomatch z),fun i z=>(nomatch z),fun {ρ ρ' r} le h=>?_⟩⟩
    ·unfold ev at h
     split at h
     ·rename_i u hu
      split at h
      ·rename_i ds hd
       split at h
       ·rename_i r hr;exact (go le hu hd hr).1 _ h
       ·cases h
      ·cases h
     ·cases h
    ·unfold evT at h
     split at h
     ·rename_i u hu
      split at h
      ·rename_i ds hd
       split at h
       ·rename_i q hr;cases h;exact gk ((go le hu hd hr).1 _ rfl)
       ·cases h
      ·cases h
     ·cases h
    ·unfold evI at h
     split at h
     ·rename_i u hu
      split at h
      ·rename_i ds hd
       split at h
       ·rename_i r hr
        split at h
        ·rename_i d hv;exact eO ((go le hu hd hr).1 _ hv) h
        ·cases h
       ·cases h
      ·cases h
     ·cases h
    ·unfold evV at h
     dsimp only at h
     split at h
     ·rename_i u hu
      split at h
      ·rename_i ds hd;exact go le hu hd h
      ·cases h
     ·cases h
   ·cases h
  ·cases h
 ·
  split at h
  ·rename_i elt tg it ifs gens scope _ hn
   simp only [Bool.and_eq_true] at hn
   split at h
   ·rename_i t i c b h1 h2 h3 h4
    cases h
    have go:=fun {ρ ρ':Rho} {d:D} (le:Le ρ ρ') (h:ev G cl (.comp (ownOf scope).length ((bV scope N).map (·.2)) t i c b) ρ=some d)=>vD (pos:=‹Pos›) ih xe hn.1 hn.2 h1 h2 h3 h4 le h
    have hcx:∀{ρ ρ':Rho} {r:Rs},Le ρ ρ'->evV G cl (.comp (ownOf scope).length ((bV scope N).map (·.2)) t i c b) ρ=some r->∃c,r=.fr c∧DCx X ρ' (.ListComp elt (⟨tg,it,ifs,0⟩::gens) scope ‹Pos›) c:=fun {ρ ρ' r} le h=>by
     unfold evV at h
     dsimp only at h
     split at h
     ·rename_i xs hx
      cases h
      obtain ⟨ys,e,dc⟩:=go le hx
      cases e
      exact ⟨_,rfl,dc.cx⟩
     ·cases h
    refine ⟨rfl,(fun z=>nomatch z),⟨fun le h=>?_,fun le h=>(by unfold evT at h;cases h),fun le ht h=>(by unfold evI at h;cases h),fun _ le h=>hcx le h,fun i z=>(nomatch z),fun i z=>(nomatch z),fun {ρ ρ' r} le h=>?_⟩⟩
    ·obtain ⟨xs,rfl,dc⟩:=go le h
     exact dc.de
    ·obtain ⟨c',rfl,dc⟩:=hcx le h
     exact ⟨fun d hd=>by cases hd;exact dc.pe.de,fun c hc=>by cases hc;exact dc.pe,by intro d z;cases z⟩
   ·cases h
  ·cases h
 ·cases h
theorem yT (R:Row P wd K mg base G) (C:Calls P wd K mg base G kc cl) (hk:kc+2<=k):∀n,All P wd K mg base G cl k n:=by
 intro n
 induction n with
 |zero=>exact ⟨fun X sc N w xe e ce h=>(by unfold cE at h;cases h),fun X sc N w xe es ces h=>(by unfold cA at h;cases h),fun X sc N w xe op es ce h=>(by unfold cB at h;cases h),fun X sc N w xe oe ce h=>(by unfold cO at h;cases h),fun X sc N w xe ifs ce h=>(by unfold cIf at h;cases h),fun X sc N w xe gens elt ce h=>(by unfold cG at h;cases h)⟩
 |succ n ih=>
  exact ⟨fun X sc N w xe e ce h=>zx R C hk ih xe h,fun X sc N w xe es ces h=>zl ih xe h,fun X sc N w xe op es ce h=>zR ih xe h,fun X sc N w xe oe ce h ρ ρ' l le hl=>z_ ih xe h le hl,fun X sc N w xe ifs ce h ρ ρ' b le hl=>An ih xe h le hl,
   fun X sc N w xe gens elt ce h full m hf scope pos ρ ρ' out acc le ho=>zX ih xe h hf le ho⟩
end
end IN
namespace IN
open PySem PySem.Spec PySem.W L2 CT
open PyProof.Rows hiding St
noncomputable def tr (z dx:Addr):Sl->Sl
 |.new C _ _ fs=>.new C z dx fs
 |s=>s
noncomputable abbrev trR (z dx:Addr) (ρ:Rho):Rho:=ρ.map (tr z dx)
section
variable {z dx:Addr} {ρ:Rho}
theorem lK {i:Nat} {d:D} (h:ρ[i]?=some (.val d)):(trR z dx ρ)[i]?=some (.val d):=by rw [List.getElem?_map,h];rfl
theorem cD {i:Nat} {c:Ow} (h:ρ[i]?=some (.owx c)):(trR z dx ρ)[i]?=some (.owx c):=by rw [List.getElem?_map,h];rfl
theorem bH:Le ρ (trR z dx ρ):=⟨by simp,fun i d h=>lK h,fun i h=>by rw [List.getElem?_map,h];rfl⟩
theorem br {i:Nat} {s:Sl}:trR z dx (ρ.set i s)=(trR z dx ρ).set i (tr z dx s):=by unfold trR;rw [List.map_set]
theorem d7 {i:Nat}:trR z dx (ρ.modify i aM)=trR z dx ρ∨∃c,ρ[i]?=some (.owx c)∧trR z dx (ρ.modify i aM)=(trR z dx ρ).set i (.val c.D):=by
 cases h:ρ[i]? with
 |none=>
  left
  rw [List.modify_eq_self (by simpa using h)]
 |some s=>
  have hi:=(List.getElem?_eq_some_iff.mp h).1
  have e:ρ.modify i aM=ρ.set i (aM s):=by
   refine List.ext_getElem? fun j=>?_
   rw [List.getElem?_modify]
   by_cases hj:i=j
   ·subst hj;rw [List.getElem?_set_self hi,h];simp
   ·rw [List.getElem?_set_ne hj];simp [hj]
  cases s with
  |owx c=>right;exact ⟨c,rfl,by rw [e,br];rfl⟩
  |_=>
   left
   rw [e]
   congr 1
   refine List.ext_getElem? fun j=>?_
   by_cases hj:i=j
   ·subst hj;rw [List.getElem?_set_self hi,h];rfl
   ·rw [List.getElem?_set_ne hj]
end
section
variable {X:Cx} {ρ:Rho} {e:Expr} {d:D} {i:Nat} {c c':Ow} {xs:List D} {st:Stmt} {o:Out}
theorem bD.cP {K:Frag} {H:Hp} {S:Ad} {a:Addr} {ob:HO} (cc:fL a ob) (ha:H a=some ob):∀(es:List (CT.PK×D)) {kvs:List (CT.PK×Addr×V)},(es.all fun p=>aq p.2)=true->bD K H S es kvs->bD K H (S.and a) es kvs
 |[],_,_,r=>by cases r;exact .nil
 |(k,d)::es,_,h,r=>by
  have h':aq d=true∧(es.all fun p=>aq p.2)=true:=by simpa using h
  have nk:∀k:CT.PK,aq (CT.PK.d k)=true:=by
   intro k
   exact CT.PK.rec (motive_1:=fun k=>aq (CT.PK.d k)=true) (motive_2:=fun l=>bx (CT.PK.dL l)=true) (fun n=>rfl) (fun l ih=>ih) rfl (fun k l h1 h2=>by show (aq (CT.PK.d k)&&bx (CT.PK.dL l))=true;rw [h1,h2];rfl) k
  cases r with
  |cons hd kk r t=>exact .cons hd (Rds.cP cc ha _ (nk k) kk) (Rds.cP cc ha d h'.1 r) (bD.cP cc ha es h'.2 t)
theorem i8 {K:Frag} {σ:L2.St} {H:Hp} {Q:VK} (hr:ρ[i]?=some (.owx c)) (hf:bI c'=true):ow K ρ c' σ H Q->ow K (ρ.set i (.val c.D)) c' σ H Q:=fun ⟨S,ve,k⟩=>by
 obtain ⟨S',a,us,ha,cc,hS,ve'⟩:=ve.ub hr
 refine ⟨S',ve',fun a' ob H' ex hn ha' r=>k a' ob H' ex hn ha' ?_⟩
 have hb:∀b,(S.and a') b->((S'.and a').and a) b:=fun b hb=>by
  rcases hb with hb|hb
  ·rcases hS b hb with z|z
   ·exact .inl (.inl z)
   ·exact .inr z
  ·exact .inl (.inr hb)
 have ha2:=ex _ _ (fun z=>z) ha
 cases c' with
 |l xs=>obtain ⟨vs,q,r⟩:=r;exact ⟨vs,q,(ae.cP cc ha2 xs hf r).av fun b h=>.inl (hb b h)⟩
 |d es=>obtain ⟨ep,vs,q,r⟩:=r;exact ⟨ep,vs,q,(bD.cP cc ha2 es hf r).av fun b h=>.inl (hb b h)⟩
theorem kd (hr:ρ[i]?=some (.owx c)) (hf:bI c'=true) (h:DFx X (ρ.set i (.val c.D)) e c'):DFx X ρ e c':=PE.weak h fun σ H Q=>i8 hr hf
theorem qE (hr:ρ[i]?=some (.owx c)) (hf:bI c'=true) (h:DCx X (ρ.set i (.val c.D)) e c'):DCx X ρ e c':=
 ⟨kd hr hf h.pe,fun j x pos' spos hN hix hx hl hsw=>PS.weak (h.ps j x pos' spos hN hix hx hl hsw) fun D σ H q=>i8 (Q:=fun x H1=>fK j x σ H1 D.nx) hr hf q⟩
theorem ux (hr:ρ[i]?=some (.owx c)) (h:DS X (ρ.set i (.val c.D)) st o):DS X ρ st o:=PS.weak h fun E σ H ⟨H₀,S₀,S,f,k⟩=>by
 obtain ⟨S',_,f'⟩:=f.give hr
 exact ⟨H₀,S₀,S',f',k⟩
variable {z dx:Addr}
theorem aT:∀{L:List Nat} {ρ:Rho},DS X (trR z dx (ah L ρ)) st o->DS X (trR z dx ρ) st o
 |[],_,h=>h
 |i::L,ρ,h=>by
  have h':=aT (L:=L) (ρ:=ρ.modify i aM) h
  rcases d7 (z:=z) (dx:=dx) (ρ:=ρ) (i:=i) with e|⟨c,hc,e⟩
  ·rw [e] at h';exact h'
  ·rw [e] at h';exact ux (cD hc) h'
theorem cU {ρ':Rho}:∀{L:List Nat} {ρ:Rho},DSX X (trR z dx (ah L ρ)) st ρ' d->DSX X (trR z dx ρ) st ρ' d
 |[],_,h=>h
 |i::L,ρ,h=>by
  have h':=cU (L:=L) (ρ:=ρ.modify i aM) h
  rcases d7 (z:=z) (dx:=dx) (ρ:=ρ) (i:=i) with e|⟨c,hc,e⟩
  ·rw [e] at h';exact h'
  ·rw [e] at h';exact qK (cD hc) h'
theorem cN (hn:aq d=true):∀{L:List Nat} {ρ:Rho},DE X (trR z dx (ah L ρ)) e d->DE X (trR z dx ρ) e d
 |[],_,h=>h
 |i::L,ρ,h=>by
  have h':=cN hn (L:=L) (ρ:=ρ.modify i aM) h
  rcases d7 (z:=z) (dx:=dx) (ρ:=ρ) (i:=i) with e|⟨c,hc,e⟩
  ·rw [e] at h';exact h'
  ·rw [e] at h';exact r_ (cD hc) hn h'
theorem gr (hn:bI c'=true):∀{L:List Nat} {ρ:Rho},DFx X (trR z dx (ah L ρ)) e c'->DFx X (trR z dx ρ) e c'
 |[],_,h=>h
 |i::L,ρ,h=>by
  have h':=gr hn (L:=L) (ρ:=ρ.modify i aM) h
  rcases d7 (z:=z) (dx:=dx) (ρ:=ρ) (i:=i) with e|⟨c,hc,e⟩
  ·rw [e] at h';exact h'
  ·rw [e] at h';exact kd (cD hc) hn h'
theorem jV (hn:bI c'=true):∀{L:List Nat} {ρ:Rho},DCx X (trR z dx (ah L ρ)) e c'->DCx X (trR z dx ρ) e c'
 |[],_,h=>h
 |i::L,ρ,h=>by
  have h':=jV hn (L:=L) (ρ:=ρ.modify i aM) h
  rcases d7 (z:=z) (dx:=dx) (ρ:=ρ) (i:=i) with e|⟨c,hc,e⟩
  ·rw [e] at h';exact h'
  ·rw [e] at h';exact qE (cD hc) hn h'
theorem fI {q:Bool}:∀{L:List Nat} {ρ:Rho},DT X (trR z dx (ah L ρ)) e q->DT X (trR z dx ρ) e q
 |[],_,h=>h
 |i::L,ρ,h=>by
  have h':=fI (L:=L) (ρ:=ρ.modify i aM) h
  rcases d7 (z:=z) (dx:=dx) (ρ:=ρ) (i:=i) with e|⟨c,hc,e⟩
  ·rw [e] at h';exact h'
  ·rw [e] at h';exact vm (cD hc) h'
theorem j3 {C a b:Addr} {fs:List (Str×D)}:∀{L:List Nat} {ρ:Rho} {j:Nat},ρ[j]?=some (.new C a b fs)->(ah L ρ)[j]?=some (.new C a b fs)
 |[],_,_,h=>h
 |i::L,ρ,j,h=>by
  refine j3 (L:=L) (ρ:=ρ.modify i aM) ?_
  rw [List.getElem?_modify,h]
  split<;>rfl
end
end IN
namespace IN
open PySem PySem.Spec PySem.W L2 CT
open PyProof.Rows hiding St
section
variable {X:Cx} {ρ ρ':Rho} {e tg:Expr} {d:D} {pos:Pos} {ks:List Nat}
theorem my (he:DE X ρ e d) (hg:DG X tg ρ d ρ' ks) (ht:b8 ρ ρ' ks) (hs:swapsWithSole [tg] e pos.line X.env=pure false) (hw:swappedStores [tg] e X.env=pure none) (h1:(assignEach [tg] X.env).map (·.2)=[assign tg X.env]):
  DS X ρ (.Assign [tg] e pos) (.nx ρ'):=PS.weak (pJ he hg hs hw h1) fun E σ H ⟨H₀,S₀,S,f,k⟩=>⟨S,f.ve,fun v H' ex r=>⟨S,(f.grow ex).ve,r,fun σ' ve' c=>k σ' H' S ((f.grow ex).tgt ve' c ht)⟩⟩
theorem oR {i j:Nat} {x y:Str} {a b:Expr} {da db:D} {px py pt:Pos} {kt k2 pt2} (hc:X.calm=true) (hN:X.N.Nodup) (hi:X.N[i]?=some x) (hj:X.N[j]?=some y) (hij:i≠j)
  (hx:X.env.scope.names.lookup x=some .local) (hy:X.env.scope.names.lookup y=some .local) (ha:DA X ρ [a,b] [da,db])
  (hw:swappedStores [.Tuple [.Name x px,.Name y py] kt pt] (.Tuple [a,b] k2 pt2) X.env=pure (some [x,y])):
  DS X ρ (.Assign [.Tuple [.Name x px,.Name y py] kt pt] (.Tuple [a,b] k2 pt2) pos) (.nx ((ρ.set i (.val da)).set j (.val db))):=
 PS.weak (xP hc hN hi hj hij hx hy ha hw) fun E σ H ⟨H₀,S₀,S,f,k⟩=>⟨S,f.ve,fun vs H' ex rs=>by
  obtain ⟨v,u,rfl,r1,r2⟩:=rs.two
  exact ⟨v,u,rfl,k _ H' S (((f.grow ex).set r1).set r2)⟩⟩
theorem Fm.move {K:Frag} {H₀ H:Hp} {S₀ S:Ad} {σ:L2.St} {i j:Nat} {c:Ow} {a:Addr} (f:Fm K H₀ S₀ H S ρ σ) (hij:i≠j) (hr:ρ[i]?=some (.owx c)) (hs:σ[i]?=some (some (.ref a))):Fm K H₀ S₀ H S ((ρ.set i .any).set j (.owx c)) (σ.set j (some (.ref a))):=by
 have key:∀(m:Nat) (x:Sl),((ρ.set i .any).set j (.owx c))[m]?=some x->(j=m∧x=.owx c∧j<ρ.length)∨(j≠m∧i=m∧x=.any)∨(j≠m∧i≠m∧ρ[m]?=some x):=fun m x h=>by
  by_cases hm:j=m
  ·subst hm
   have hj:j<ρ.length:=by have:=(List.getElem?_eq_some_iff.mp h).1;simpa using this
   rw [List.getElem?_set_self (by simpa using hj)] at h
   exact .inl ⟨rfl,(Option.some.inj h).symm,hj⟩
  ·rw [List.getElem?_set_ne hm] at h
   by_cases hi:i=m
   ·subst hi
    have hi':i<ρ.length:=(List.getElem?_eq_some_iff.mp hr).1
    rw [List.getElem?_set_self hi'] at h
    exact .inr (.inl ⟨hm,rfl,(Option.some.inj h).symm⟩)
   ·rw [List.getElem?_set_ne hi] at h
    exact .inr (.inr ⟨hm,hi,h⟩)
 obtain ⟨v,q1,q2⟩:=f.ve.rel i _ hr
 refine ⟨⟨by simpa using f.ve.len,fun m x h=>?_,fun m k x y b hmk h1 h2 o1 o2 h3 h4=>?_,f.ve.dom⟩,f.ext,f.sub,f.new,f.dm,fun m x b h o h2=>?_⟩
 ·rcases key m x h with ⟨rfl,rfl,hj⟩|⟨hm,rfl,rfl⟩|⟨hm,hi,h'⟩
  ·rw [hs] at q1;cases q1
   exact ⟨_,List.getElem?_set_self (f.ve.len▸hj),q2⟩
  ·rw [List.getElem?_set_ne hm];exact ⟨_,hs,trivial⟩
  ·rw [List.getElem?_set_ne hm];exact f.ve.rel m x h'
 ·rcases key m x h1 with ⟨rfl,rfl,hj⟩|⟨hm,rfl,rfl⟩|⟨hm,hi,h1'⟩
  ·rw [List.getElem?_set_self (f.ve.len▸hj)] at h3
   cases h3
   rcases key k y h2 with ⟨rfl,_,_⟩|⟨hk,rfl,rfl⟩|⟨hk,hi,h2'⟩
   ·exact hmk rfl
   ·exact o2
   ·rw [List.getElem?_set_ne hk] at h4
    exact f.ve.dist i k _ y a hi hr h2' trivial o2 hs h4
  ·exact o1
  ·rw [List.getElem?_set_ne hm] at h3
   rcases key k y h2 with ⟨rfl,rfl,hj⟩|⟨hk,rfl,rfl⟩|⟨hk,hi2,h2'⟩
   ·rw [List.getElem?_set_self (f.ve.len▸hj)] at h4
    cases h4
    exact f.ve.dist m i x _ a (Ne.symm hi) h1' hr o1 trivial h3 hs
   ·exact o2
   ·rw [List.getElem?_set_ne hk] at h4
    exact f.ve.dist m k x y b hmk h1' h2' o1 o2 h3 h4
 ·rcases key m x h with ⟨rfl,rfl,hj⟩|⟨hm,rfl,rfl⟩|⟨hm,hi,h'⟩
  ·rw [List.getElem?_set_self (f.ve.len▸hj)] at h2
   cases h2
   exact f.own i _ a hr trivial hs
  ·exact o.elim
  ·rw [List.getElem?_set_ne hm] at h2
   exact f.own m x b h' o h2
theorem vG {i j:Nat} {x y:Str} {p q:Pos} {c:Ow} (hN:X.N.Nodup) (hi:X.N[i]?=some y) (hj:X.N[j]?=some x) (hij:i≠j) (hv:Vis X.env.scope y) (hx:L2.Loc X.env.scope x) (hf:X.fn x=true∨X.env.scope.names.lookup x=some .local) (hr:ρ[i]?=some (.owx c))
  (hd:(y==("__debug__":Str))=false) (hcd:(y==("__classdict__":Str))=false):DS X ρ (.Assign [.Name x p] (.Name y q) pos) (.nx ((ρ.set i .any).set j (.owx c))):=
 PS.weak (kL hN hj hx (gy hi hv hd hcd) rfl hf) fun E σ H ⟨H₀,S₀,S,f,k⟩=>by
  obtain ⟨v,h1,a,o,rfl,sa,ha,r⟩:=f.ve.rel i _ hr
  exact ⟨_,h1,k _ H S (Fm.move f hij hr h1)⟩
theorem dB {t:Option Expr} {l:Nat} {env:Env} (h:bY e=false):swapsWith e t l env=pure false:=by
 cases e<;>first|rfl|cases h
theorem A5 {env:Env} (h:bt tg=true):(assignEach [tg] env).map (·.2)=[assign tg env]:=by rw [hI h];rfl
theorem xM {sc:Scope} {env:Env} (hsc:env.scope=sc) (h:gK sc tg e=true):swappedStores [tg] e env=pure none:=by
 unfold gK at h
 split at h
 ·rename_i ts _ _ vs _ _
  have h1:=(Bool.and_eq_true_iff.mp (Bool.and_eq_true_iff.mp (Bool.and_eq_true_iff.mp h).1).1).1
  unfold swappedStores
  dsimp only
  split
  ·rfl
  ·split
   ·rfl
   ·have e:∀id:Str,env.kindOf id=sc.names.lookup id:=fun id=>by rw [←hsc];rfl
    simp only [e]
    rw [if_pos]
    exact Bool.or_eq_true_iff.mpr (.inl h1)
 ·rename_i ts _ _ hne
  unfold swappedStores
  cases e<;>first|rfl|exact absurd rfl (hne _ _ _)
 ·unfold swappedStores
  cases e<;>rfl
 ·cases h
end
mutual
theorem fG {z dx:Addr}:∀{t:Tg} {d:D} {ρ ρ1:Rho},ao t d ρ=some ρ1->ao t d (trR z dx ρ)=some (trR z dx ρ1)
 |.nm k,d,ρ,ρ1,h=>by
  unfold ao at h ⊢
  split at h
  ·rename_i hk
   cases h
   rw [if_pos (by simpa using hk),br];rfl
  ·cases h
 |.tp ts,.tup ds,ρ,ρ1,h=>by
  unfold ao at h ⊢
  exact jJ h
 |.tp _,.non,_,_,h=>by unfold ao at h;cases h
 |.tp _,.bl _,_,_,h=>by unfold ao at h;cases h
 |.tp _,.int _,_,_,h=>by unfold ao at h;cases h
 |.tp _,.str _,_,_,h=>by unfold ao at h;cases h
 |.tp _,.lst _,_,_,h=>by unfold ao at h;cases h
 |.tp _,.ins _ _,_,_,h=>by unfold ao at h;cases h
 |.tp _,.exc _ _,_,_,h=>by unfold ao at h;cases h
 |.tp _,.ty _,_,_,h=>by unfold ao at h;cases h
 |.tp _,.cl _,_,_,h=>by unfold ao at h;cases h
 |.tp _,.dct _,_,_,h=>by unfold ao at h;cases h
 |.tp _,.pdc _,_,_,h=>by unfold ao at h;cases h
theorem jJ {z dx:Addr}:∀{ts:List Tg} {ds:List D} {ρ ρ1:Rho},aO ts ds ρ=some ρ1->aO ts ds (trR z dx ρ)=some (trR z dx ρ1)
 |[],[],ρ,ρ1,h=>by unfold aO at h ⊢;cases h;rfl
 |t::ts,d::ds,ρ,ρ1,h=>by
  unfold aO at h ⊢
  split at h
  ·rename_i ρ2 h2
   rw [fG h2]
   exact jJ h
  ·cases h
 |[],_::_,_,_,h=>by unfold aO at h;cases h
 |_::_,[],_,_,h=>by unfold aO at h;cases h
end
end IN
namespace IN
open PySem PySem.Spec PySem.W L2 CT
open PyProof.Rows hiding St
noncomputable def S1 (X:Cx) (z dx:Addr) (st:Stmt) (ρ:Rho):Oc->Prop
 |.nx ρ'=>DS X (trR z dx ρ) st (.nx (trR z dx ρ'))
 |.rt d=>DS X (trR z dx ρ) st (.rt d)
 |.fr c=>DS X (trR z dx ρ) st (.rfx c)
 |.xc ρ' d=>DSX X (trR z dx ρ) st (trR z dx ρ') d
noncomputable def SS (X:Cx) (z dx:Addr) (sts:List Stmt) (ρ:Rho):Oc->Prop
 |.nx ρ'=>DSs X (trR z dx ρ) sts (.nx (trR z dx ρ'))
 |.rt d=>DSs X (trR z dx ρ) sts (.rt d)
 |.fr c=>DSs X (trR z dx ρ) sts (.rfx c)
 |.xc ρ' d=>bT X (trR z dx ρ) sts (trR z dx ρ') d
section
variable {X:Cx} {z dx:Addr} {st:Stmt} {sts:List Stmt} {ρ ρ1:Rho} {o:Oc} {L:List Nat}
theorem S1.cons (hx:∀e s,¬X.xe e s) (h1:S1 X z dx st ρ (.nx ρ1)) (h2:SS X z dx sts ρ1 o):SS X z dx (st::sts) ρ o:=by
 cases o with
 |nx ρ'=>exact fU h1 h2
 |rt d=>exact fU h1 h2
 |fr c=>exact fU h1 h2
 |xc ρ' d=>exact pG h1 h2 hx
theorem S1.last (h1:S1 X z dx st ρ o) (hn:∀ρ',o≠.nx ρ'):SS X z dx (st::sts) ρ o:=by
 cases o with
 |nx ρ'=>exact absurd rfl (hn ρ')
 |rt d=>exact mT h1 trivial
 |fr c=>exact mT h1 trivial
 |xc ρ' d=>exact pB h1
theorem S1.give (h:S1 X z dx st (ah L ρ) o):S1 X z dx st ρ o:=by
 cases o with
 |nx ρ'=>exact aT h
 |rt d=>exact aT h
 |fr c=>exact aT h
 |xc ρ' d=>exact cU h
end
section
variable {ca:Bool} {P:Program} {wd:World} {K:Frag} {mg:Str->Option Value} {base:Heap} {G:Prg} {cl:Str->List D->Option Rs} {k kc n:Nat} {X:Cx} {sc:Scope} {N:List Str} {w:Nat} {ce:CE} {z dx:Addr} {ρ:Rho} {pos:Pos}
theorem kU {tg:Expr} {i:Nat} (h:cTg sc N n tg=some (.nm i)):∃x p,tg=.Name x p∧idx N x=some i∧bJ x=true∧kJ sc x=true:=by
 cases n with
 |zero=>unfold cTg at h;cases h
 |succ n=>
  unfold cTg at h
  split at h
  ·rename_i x p
   split at h
   ·rename_i hx
    simp only [Bool.and_eq_true] at hx
    cases hi:idx N x with
    |none=>rw [hi] at h;cases h
    |some j=>rw [hi] at h;cases h;exact ⟨x,p,rfl,hi,hx.1,hx.2⟩
   ·cases h
  ·split at h
   ·cases hq:eD sc N n ‹_› with
    |none=>rw [hq] at h;cases h
    |some ts=>rw [hq] at h;cases h
   ·cases h
  ·cases h
theorem XE.lt (xe:XE ca P wd K mg base X sc N w k) {x:Str} {i:Nat} (h:idx N x=some i):i<N.length:=by
 have:=xe.at h
 rw [xe.N_] at this
 exact (List.getElem?_eq_some_iff.mp this).1
theorem XE.fnx (xe:XE ca P wd K mg base X sc N N.length k) {x:Str} {i:Nat} (h:idx N x=some i):X.fn x=true:=by
 have:=xe.at h
 rw [xe.N_] at this
 exact xe.fn i x (xe.lt h) this
theorem XE.ndX (xe:XE ca P wd K mg base X sc N w k):X.N.Nodup:=by rw [xe.N_];exact xe.nd
mutual
theorem lO:∀{n:Nat} {tg:Expr} {t:Tg},(∀x i,idx N x=some i->i<N.length)->cTg sc N n tg=some t->∀j∈tks t,j<N.length
 |0,_,_,_,h=>by unfold cTg at h;cases h
 |n+1,tg,t,lt,h=>by
  unfold cTg at h
  split at h
  ·rename_i x p
   split at h
   ·cases hi:idx N x with
    |none=>rw [hi] at h;cases h
    |some i=>rw [hi] at h;cases h;intro j hj;rw [List.mem_singleton.mp (show j∈[i] from hj)];exact lt x i hi
   ·cases h
  ·rename_i es _ _
   split at h
   ·cases hq:eD sc N n es with
    |none=>rw [hq] at h;cases h
    |some ts=>rw [hq] at h;cases h;exact fun j hj=>mF lt hq j hj
   ·cases h
  ·cases h
theorem mF:∀{n:Nat} {tgs:List Expr} {ts:List Tg},(∀x i,idx N x=some i->i<N.length)->eD sc N n tgs=some ts->∀j∈dM ts,j<N.length
 |0,_,_,_,h=>by unfold eD at h;cases h
 |n+1,tgs,ts,lt,h=>by
  unfold eD at h
  split at h
  ·cases h;intro j hj;cases hj
  ·split at h
   ·rename_i t ts' h1 h2
    cases h
    intro j hj
    rcases List.mem_append.mp (show j∈tks t++dM ts' from hj) with q|q
    ·exact lO lt h1 j q
    ·exact mF lt h2 j q
   ·cases h
end
theorem wq (xe:XE true P wd K mg base X sc N N.length k) {tg e:Expr} {t:Tg} {L:List Nat} (hm:∃n,cTg sc N n tg=some t) (oe:OkE G cl X e ce) (hsw:gK sc tg e=true) (hcm:(!bY e||!qg tg)=true) {o:Oc} (h:af G cl (.asg t ce L) ρ=some o):
  S1 X z dx (.Assign [tg] e pos) ρ o:=by
 obtain ⟨m,hm⟩:=hm
 obtain ⟨ns,tok⟩:=(kx xe m).1 tg t hm
 have lt:=lO (N:=N) (fun x i h=>xe.lt h) hm
 have hw:=xM xe.sc_ hsw
 have h1:=A5 (env:=X.env) ns
 unfold af at h
 cases hv:evV G cl ce (ah L ρ) with
 |none=>rw [hv] at h;cases h
 |some r=>
  rw [hv] at h
  obtain ⟨w1,w2,w3⟩:=oe.w (ρ':=trR z dx (ah L ρ)) bH hv
  cases hc:bY e with
  |false=>
   have hs:swapsWithSole [tg] e pos.line X.env=pure false:=dB hc
   cases r with
   |ok d=>
    dsimp only at h
    split at h
    ·rename_i ρ' hb
     cases h
     cases hn:aq d with
     |true=>
      rw [hn] at hb
      obtain ⟨g1,g2⟩:=tok _ d _ (fG (z:=z) (dx:=dx) hb) lt
      exact my (cN hn (w1 d rfl)) g1 g2 hs hw h1
     |false=>
      rw [hn] at hb
      obtain ⟨g1,g2⟩:=tok _ d _ (fG (z:=z) (dx:=dx) hb) lt
      exact aT (my (w1 d rfl) g1 g2 hs hw h1)
    ·cases h
   |fr c=>
    dsimp only at h
    split at h
    ·rename_i i
     split at h
     ·cases h
      obtain ⟨x,p,rfl,hi,hok,hl⟩:=kU hm
      show DS X _ _ (.nx (trR z dx _))
      rw [br]
      cases hn:bI c with
      |true=>exact ib xe.ndX (xe.at hi) (xe.loc hl) (gr hn (w2 c rfl)) (dB hc) (.inl (xe.fnx hi))
      |false=>exact aT (ib xe.ndX (xe.at hi) (xe.loc hl) (w2 c rfl) (dB hc) (.inl (xe.fnx hi)))
     ·cases h
    ·cases h
   |xc d=>
    cases h
    exact cU (sC (w3 d rfl) hs hw h1)
  |true=>
   obtain ⟨c,rfl,dc⟩:=oe.c (ρ':=trR z dx (ah L ρ)) hc bH hv
   dsimp only at h
   split at h
   ·rename_i i
    split at h
    ·cases h
     obtain ⟨x,p,rfl,hi,hok,hl⟩:=kU hm
     show DS X _ _ (.nx (trR z dx _))
     rw [br]
     obtain ⟨bb,hbb⟩:∃bb,swapsWith e (some (.Name x p)) pos.line X.env=pure bb:=by
      cases e<;>first|(cases hc;done)|exact ⟨_,rfl⟩
     have key:∀{ρ0:Rho},DCx X (trR z dx ρ0) e c->DS X (trR z dx ρ0) (.Assign [.Name x p] e pos) (.nx ((trR z dx ρ0).set i (.owx c))):=fun {ρ0} dc=>by
      cases bb with
      |true=>exact rF xe.ndX (xe.at hi) (xe.loc hl) dc hbb (.inl (xe.fnx hi))
      |false=>exact ib xe.ndX (xe.at hi) (xe.loc hl) dc.pe hbb (.inl (xe.fnx hi))
     cases hn:bI c with
     |true=>exact key (jV hn dc)
     |false=>exact aT (key dc)
    ·cases h
   ·cases h
end
end IN
namespace IN
open PySem PySem.Spec PySem.W L2 CT
open PyProof.Rows hiding St
structure XF (P:Program) (wd:World) (K:Frag) (mg:Str->Option Value) (base:Heap) (X:Cx) (sc:Scope) (N:List Str) (k:Nat):Prop where
 xe:XE true P wd K mg base X sc N N.length k
 pass:PassesOwn (model X.prog X.w) X.A X.env X.xe
 hst:X.stack=X.env::X.outer
 hfr:X.env.frame=some X.env.locals
 blk:X.env.blockKind=.function
noncomputable def Ag:CS'->Bool
 |.asg _ _ _=>false|.ife _ _ _ _=>false|.for _ _ _ _=>false|.whl _ _ _=>false|.try _ _ _ _=>false
 |_=>true
theorem bw {s s':CS'} (h:s'=er1 s) (hf:Ag s'=true):s=s':=by
 subst h
 cases s<;>first|(unfold er1;rfl)|(unfold er1 at hf;cases hf)
theorem yc {s:CS'} {t e L} (h:CS'.asg t e L=er1 s):s=.asg t e L∨∃j i,s=.mov j i∧t=.nm j∧e=.var i:=by
 cases s<;>first|(unfold er1 at h;cases h;done)|(unfold er1 at h;cases h;exact .inl rfl)|(unfold er1 at h;cases h;exact .inr ⟨_,_,rfl,rfl,rfl⟩)
theorem zt {s:CS'} {c L a b} (h:CS'.ife c L a b=er1 s):∃a' b',s=.ife c L a' b'∧erL a'=a∧erL b'=b:=by
 cases s<;>first|(unfold er1 at h;cases h;done)|(unfold er1 at h;cases h;exact ⟨_,_,rfl,rfl,rfl⟩)
theorem xU {s:CS'} {t it L b} (h:CS'.for t it L b=er1 s):∃b',s=.for t it L b'∧erL b'=b:=by
 cases s<;>first|(unfold er1 at h;cases h;done)|(unfold er1 at h;cases h;exact ⟨_,rfl,rfl⟩)
theorem yR {s:CS'} {c L b} (h:CS'.whl c L b=er1 s):∃b',s=.whl c L b'∧erL b'=b:=by
 cases s<;>first|(unfold er1 at h;cases h;done)|(unfold er1 at h;cases h;exact ⟨_,rfl,rfl⟩)
theorem yK {s:CS'} {b x i hh} (h:CS'.try b x i hh=er1 s):∃b',s=.try b' x i hh∧erL b'=b:=by
 cases s<;>first|(unfold er1 at h;cases h;done)|(unfold er1 at h;cases h;exact ⟨_,rfl,rfl⟩)
structure yF (G:Prg) (cl:Str->List D->Option Rs) (X:Cx) (sc:Scope) (N:List Str) (z dx:Addr) (n:Nat):Prop where
 s:∀st s,cS1 n sc N st=some (er1 s)->∀ρ o,af G cl s ρ=some o->S1 X z dx st ρ o
 b:∀sts b,cS n sc N sts=some (erL b)->∀ρ o,run G cl b ρ=some o->SS X z dx sts ρ o
section
variable {ca:Bool} {P:Program} {wd:World} {K:Frag} {mg:Str->Option Value} {base:Heap} {G:Prg} {cl:Str->List D->Option Rs} {k kc n:Nat} {X:Cx} {sc:Scope} {N:List Str} {w:Nat} {ce:CE} {z dx:Addr} {ρ:Rho} {pos:Pos}
theorem rJ {s:CS'} {r:List CS'} {o:Oc} (h:run G cl (s::r) ρ=some o):(∃ρ1,af G cl s ρ=some (.nx ρ1)∧run G cl r ρ1=some o)∨(af G cl s ρ=some o∧∀ρ',o≠.nx ρ'):=by
 unfold run at h
 split at h
 ·rename_i ρ1 h1;exact .inl ⟨ρ1,h1,h⟩
 ·rename_i hne
  exact .inr ⟨h,fun ρ' q=>by subst q;exact hne ρ' h⟩
theorem zw (hx:∀e s,¬X.xe e s) {st:Stmt} {sts:List Stmt} {s:CS'} {r:List CS'} (h1:∀ρ o,af G cl s ρ=some o->S1 X z dx st ρ o) (h2:∀ρ o,run G cl r ρ=some o->SS X z dx sts ρ o) {o:Oc} (h:run G cl (s::r) ρ=some o):SS X z dx (st::sts) ρ o:=by
 rcases rJ h with ⟨ρ1,a,b⟩|⟨a,b⟩
 ·exact S1.cons hx (h1 _ _ a) (h2 _ _ b)
 ·exact S1.last (h1 _ _ a) b
theorem S1.if (hx:∀e s,¬X.xe e s) {c:Expr} {q:Bool} {a b:List Stmt} {o:Oc} (hc:DT X (trR z dx ρ) c q) (ha:q=true->SS X z dx a ρ o) (hb:q=false->SS X z dx b ρ o):S1 X z dx (.If c a b pos) ρ o:=by
 cases o with
 |nx ρ'=>exact nX hc ha hb
 |rt d=>exact nX hc ha hb
 |fr c=>exact nX hc ha hb
 |xc ρ' d=>exact wV hc ha hb hx
theorem q_ {e:CE} {L:List Nat} {o:Oc} (h:af G cl (.ret e L) ρ=some o):(∃i c,e=.var i∧ρ[i]?=some (.owx c)∧o=.fr c)∨∃r,evV G cl e (ah L ρ)=some r∧o=(match r with|.ok d=>.rt d|.fr c=>.fr c|.xc d=>.xc (ah L ρ) d):=by
 unfold af at h
 split at h
 ·rename_i c hc
  cases h
  split at hc
  ·rename_i i
   split at hc
   ·rename_i c' hq;cases hc;exact .inl ⟨i,_,rfl,hq,rfl⟩
   ·cases hc
  ·cases hc
 ·right
  split at h
  ·rename_i d hd;cases h;exact ⟨_,hd,rfl⟩
  ·rename_i d hd;cases h;exact ⟨_,hd,rfl⟩
  ·rename_i d hd;cases h;exact ⟨_,hd,rfl⟩
  ·cases h
theorem lN {X:Cx} {ρ:Rho} {e:Expr} {c:Ow} {pos:Pos} (h:DFx X ρ e c) (hs:swapsWith e none pos.line X.env=pure false):DS X ρ (.Expr e pos) (.nx ρ):=PS.weak (gM h hs) fun E σ H ⟨H₀,S₀,S,f,k⟩=>⟨S,f.ve,fun a o H' ex hn ha r=>k σ H' S (f.grow ex)⟩
theorem qe {e:Expr} {L:List Nat} (oe:OkE G cl X e ce) (hc:bY e=false) {o:Oc} (hr:af G cl (.exp ce L) ρ=some o):S1 X z dx (.Expr e pos) ρ o:=by
 unfold af at hr
 cases hv:evV G cl ce (ah L ρ) with
 |none=>rw [hv] at hr;cases hr
 |some r=>
  rw [hv] at hr
  obtain ⟨w1,w2,w3⟩:=oe.w (ρ':=trR z dx (ah L ρ)) bH hv
  cases r with
  |ok d=>
   cases hr
   cases hn:aq d with
   |true=>exact mw (cN hn (w1 d rfl)) (dB hc)
   |false=>exact aT (mw (w1 d rfl) (dB hc))
  |fr c=>
   cases hr
   cases hn:bI c with
   |true=>exact lN (gr hn (w2 c rfl)) (dB hc)
   |false=>exact aT (lN (w2 c rfl) (dB hc))
  |xc d=>
   cases hr
   exact cU (sJ (w3 d rfl) (dB hc))
noncomputable def tJ (z dx:Addr):Oc->Out
 |.nx ρ=>.nx (trR z dx ρ)|.rt d=>.rt d|.fr c=>.rfx c|.xc _ _=>.rt .non
theorem oI {tg:Expr} {t:Tg} {body:List Stmt} {b:List CS'} (tok:∀ρ d ρ1,ao t d ρ=some ρ1->DG X tg ρ d ρ1 (tks t)∧b8 ρ ρ1 (tks t)) (hb:∀ρ o,run G cl b ρ=some o->SS X z dx body ρ o):
  ∀(its:List D) (ρ:Rho) (o:Oc),forL t (run G cl b) its ρ=some o->((∀ρ' d,o≠.xc ρ' d)->iG X tg body its (trR z dx ρ) (tJ z dx o))∧∀ρe d,o=.xc ρe d->jv X tg body (trR z dx ρe) d its (trR z dx ρ)
 |[],ρ,o,h=>by
  unfold forL at h
  cases h
  exact ⟨fun _=>.nil _,fun _ _ z=>nomatch z⟩
 |d::ds,ρ,o,h=>by
  unfold forL at h
  split at h
  ·rename_i ρ1 h1
   obtain ⟨g1,g2⟩:=tok _ d _ (fG (z:=z) (dx:=dx) h1)
   split at h
   ·rename_i ρ2 h2
    obtain ⟨r1,r2⟩:=oI tok hb ds ρ2 o h
    have s1:DSs X (trR z dx ρ1) body (.nx (trR z dx ρ2)):=hb _ _ h2
    exact ⟨fun hx=>.cons g1 g2 s1 (r1 hx),fun ρe d' z=>.cons g1 g2 s1 (r2 ρe d' z)⟩
   ·rename_i hne
    have s1:=hb _ _ h
    cases o with
    |nx ρ'=>exact absurd h (hne ρ')
    |rt d'=>exact ⟨fun _=>.ret g1 g2 s1 trivial,fun _ _ z=>nomatch z⟩
    |fr c=>exact ⟨fun _=>.ret g1 g2 s1 trivial,fun _ _ z=>nomatch z⟩
    |xc ρe d'=>exact ⟨fun hx=>absurd rfl (hx ρe d'),fun ρe' d'' z=>by cases z;exact .here g1 g2 s1⟩
  ·cases h
theorem qA {c:Expr} {body:List Stmt} {b:List CS'} {L:List Nat} (hc:∀ρ q,evT G cl ce (ah L ρ)=some q->DT X (trR z dx ρ) c q) (hb:∀ρ o,run G cl b ρ=some o->SS X z dx body ρ o):
  ∀(m:Nat) (ρ:Rho) (o:Oc),fV (fun ρ=>evT G cl ce (ah L ρ)) (run G cl b) m ρ=some o->(∀ρ' d,o≠.xc ρ' d)∧WhO X c body m (trR z dx ρ) (tJ z dx o)
 |0,_,_,h=>by unfold fV at h;cases h
 |m+1,ρ,o,h=>by
  unfold fV at h
  split at h
  ·rename_i hq
   split at h
   ·rename_i ρ2 h2
    obtain ⟨n1,w1⟩:=qA hc hb m ρ2 o h
    exact ⟨n1,.turn (hc _ _ hq) (hb _ _ h2) w1⟩
   ·cases h
   ·rename_i hne hnx
    have s1:=hb _ _ h
    cases o with
    |nx ρ'=>exact absurd h (hne ρ')
    |rt d'=>exact ⟨(fun _ _ z=>nomatch z),.ret (hc _ _ hq) s1 trivial⟩
    |fr c=>exact ⟨(fun _ _ z=>nomatch z),.ret (hc _ _ hq) s1 trivial⟩
    |xc ρe d'=>exact absurd h (hnx ρe d')
  ·rename_i hq
   cases h
   exact ⟨(fun _ _ z=>nomatch z),.stop (hc _ _ hq)⟩
  ·cases h
theorem xq (xe:XE ca P wd K mg base X sc N N.length k) {tg e:Expr} {i j:Nat} (h1:cTg sc N n tg=some (.nm j)) (hv:∀i',CE.var i=.var i'->∃y q,e=.Name y q∧X.N[i']?=some y∧Vis X.env.scope y∧(y==("__debug__":Str))=false∧(y==("__classdict__":Str))=false) {o:Oc} (hr:af G cl (.mov j i) ρ=some o):S1 X z dx (.Assign [tg] e pos) ρ o:=by
 obtain ⟨y,q,rfl,hy,hvis,d1,d2⟩:=hv i rfl
 obtain ⟨x,p,rfl,hi,hok,hl⟩:=kU h1
 unfold af at hr
 split at hr
 ·rename_i c hc
  split at hr
  ·rename_i hij
   cases hr
   show DS X _ _ (.nx (trR z dx _))
   rw [br,br]
   exact vG xe.ndX hy (xe.at hi) hij.1 hvis (xe.loc hl) (.inl (xe.fnx hi)) (cD hc) d1 d2
  ·cases hr
 ·rename_i d hd
  split at hr
  ·cases hr
   show DS X _ _ (.nx (trR z dx _))
   rw [br]
   exact o9 xe.ndX (xe.at hi) (xe.loc hl) (l0 hy hvis (lK hd) d1 d2) rfl (.inl (xe.fnx hi))
  ·cases hr
 ·cases hr
theorem uF {i j:Nat} {d:D} {o:Oc} (hi:ρ[i]?=some (.val d)) (h:run G cl [.asg (.nm j) (.var i) [i]] ρ=some o):o=.nx (ρ.set j (.val d)):=by
 have e:ah [i] ρ=ρ:=by
  show ρ.modify i aM=ρ
  apply List.ext_getElem?
  intro m
  rw [List.getElem?_modify]
  split
  ·rename_i q;subst q;rw [hi];rfl
  ·simp
 unfold run af at h
 simp only [e,evV,ev.eq_1,hi,aQ,kp,ite_self,ao] at h
 by_cases hj:j<ρ.length
 ·simp only [if_pos hj] at h
  unfold run at h;cases h;rfl
 ·simp only [if_neg hj] at h
  cases h
theorem yV (R:Row P wd K mg base G) (C:Calls P wd K mg base G kc cl) (hk:kc+2<=k) (xf:XF P wd K mg base X sc N k) (ih:yF G cl X sc N z dx n) {st:Stmt} {s:CS'} (h:cS1 (n+1) sc N st=some (er1 s)) {o:Oc} (hr:af G cl s ρ=some o):S1 X z dx st ρ o:=by
 have xe:=xf.xe
 have A:=yT (cl:=cl) R C hk n
 have getE:∀{e:Expr} {ce:CE},cE n sc N e=some ce->OkE G cl X e ce:=fun he=>(A.e X sc N N.length xe _ _ he).2.2
 unfold cS1 at h
 split at h
 ·
  obtain rfl:=bw (Option.some.inj h) rfl;unfold af at hr;cases hr;exact uc
 ·
  obtain rfl:=bw (Option.some.inj h) rfl;unfold af at hr;cases hr;exact uh
 ·
  rename_i e _
  cases hq:cE n sc N e with
  |none=>rw [hq] at h;cases h
  |some x=>
   rw [hq] at h;obtain rfl:=bw (Option.some.inj h) rfl
   have oe:=getE hq
   rcases q_ hr with ⟨i,c,rfl,hi,rfl⟩|⟨r,hv,rfl⟩
   ·exact oe.ro i rfl _ c _ (cD hi)
   ·obtain ⟨w1,w2,w3⟩:=oe.w (ρ':=trR z dx (ah (fvU x) ρ)) bH hv
    cases r with
    |ok d=>exact aT (wa (w1 d rfl))
    |fr c=>exact aT (rH (w2 c rfl))
    |xc d=>exact cU (vH (w3 d rfl))
 ·
  unfold wo at h
  split at h
  ·
   rename_i x px y py _ _ a b _ _
   split at h
   ·rename_i i j ca cb h1 h2 h3 h4
    split at h
    ·rename_i hc
     obtain rfl:=bw (Option.some.inj h) rfl
     have oa:=getE h3
     have ob:=getE h4
     unfold af at hr
     split at hr
     ·rename_i u hu
      split at hr
      ·rename_i v hv
       split at hr
       ·rename_i hij
        cases hr
        simp only [Bool.and_eq_true,beq_iff_eq,Bool.not_eq_true'] at hc
        obtain ⟨⟨⟨⟨⟨⟨o1,o2⟩,lx⟩,ly⟩,hl⟩,hf⟩,hca⟩:=hc
        have na:=(A.e X sc N N.length xe _ _ h3).1
        have nb:=(A.e X sc N N.length xe _ _ h4).1
        have hxy:x≠y:=fun q=>hij.1 (by rw [q,h2] at h1;exact (Option.some.inj h1).symm)
        have lx':X.env.scope.names.lookup x=some .local:=by rw [xe.sc_];exact lx
        have ly':X.env.scope.names.lookup y=some .local:=by rw [xe.sc_];exact ly
        have hw:∀kt pt k2 pt2,swappedStores [.Tuple [.Name x px,.Name y py] kt pt] (.Tuple [a,b] k2 pt2) X.env=pure (some [x,y]):=by
         intro kt pt k2 pt2
         have k1:X.env.kindOf x=some .local:=lx'
         have k2:X.env.kindOf y=some .local:=ly'
         have ed:([x,y]:List Str).eraseDups=[x,y]:=by
          simp [List.eraseDups_cons,Ne.symm hxy]
         have e1:(px.line==px.line)=true:=beq_self_eq_true _
         have e2:(py.line==px.line)=true:=by rw [hl];exact beq_self_eq_true _
         unfold swappedStores
         dsimp only
         rw [if_neg (by rw [xf.blk];simp)]
         rw [if_neg (by
          intro q
          simp only [List.any_cons,List.any_nil,Bool.or_false] at q
          rcases Bool.or_eq_true_iff.mp q with q|q
          ·cases a<;>first|(cases q;done)|(cases na;done)
          ·cases b<;>first|(cases q;done)|(cases nb;done))]
         simp only [List.filterMap_cons,List.filterMap_nil,List.head?_cons,Option.map_some,Option.getD_some,(show ∀(x:Str) (p:Pos),Expr.pos (.Name x p)=p from fun _ _=>rfl),k1,k2,e1,e2,beq_self_eq_true,Bool.and_true,if_true,ed]
         rw [if_neg (by simp),if_neg (by rw [hf];decide),if_neg (by rw [hca];decide)]
        have da:DA X (trR z dx (ah (uniq (fvE ca++fvE cb)) ρ)) [a,b] [u,v]:=fk (oa.v bH hu) (fk (ob.v bH hv) kT (bC (aL nb))) (bC (aL na))
        show DS X _ _ (.nx (trR z dx _))
        rw [br,br]
        cases hn:aq u&&aq v with
        |true=>
         simp only [Bool.and_eq_true] at hn
         have da':DA X (trR z dx ρ) [a,b] [u,v]:=fk (cN hn.1 (oa.v bH hu)) (fk (cN hn.2 (ob.v bH hv)) kT (bC (aL nb))) (bC (aL na))
         exact oR xe.calm xe.ndX (xe.at h1) (xe.at h2) hij.1 lx' ly' da' (hw _ _ _ _)
        |false=>exact aT (oR xe.calm xe.ndX (xe.at h1) (xe.at h2) hij.1 lx' ly' da (hw _ _ _ _))
       ·cases hr
      ·cases hr
     ·cases hr
    ·cases h
   ·cases h
  ·
   split at h
   ·split at h
    ·obtain rfl:=bw (Option.some.inj h) rfl;unfold af at hr;cases hr
    ·cases h
   ·cases h
  ·
   rename_i x _ f _
   split at h
   ·rename_i ce h1 h3
    split at h
    ·rename_i hc
     simp only [Bool.and_eq_true,Bool.not_eq_true'] at hc
     obtain ⟨⟨o1,hv⟩,hcm⟩:=hc
     obtain rfl:=bw (Option.some.inj h) rfl
     obtain ⟨d1,d2,_⟩:=dD o1
     have oe:=getE h3
     unfold af at hr
     split at hr
     ·rename_i d hd
      split at hr
      ·rename_i C0 a0 b0 fs h0
       split at hr
       ·rename_i hf
        cases hr
        have de:=oe.v (ρ':=trR z dx (ah (fvU ce) ρ)) bH hd
        have hK:=xe.K_
        subst hK
        obtain ⟨c1,c2⟩:=R.fok C0 f hf.2
        show DS X _ _ (.nx (trR z dx _))
        rw [br]
        have t0:∀{ρ0:Rho},ρ0[0]?=some (.new C0 a0 b0 fs)->(trR z dx ρ0)[0]?=some (.new C0 z dx fs):=fun h=>by rw [List.getElem?_map,h];rfl
        cases hn:aq d with
        |true=>exact oU (i:=0) (xe.at h1) (xe.vis hv) (t0 h0) c1 c2 hf.1 (cN hn de) (dB hcm) d1 d2
        |false=>exact aT (oU (i:=0) (xe.at h1) (xe.vis hv) (t0 (j3 h0)) c1 c2 hf.1 de (dB hcm) d1 d2)
       ·cases hr
      ·cases hr
     ·cases hr
    ·cases h
   ·cases h
  ·
   rename_i tg e _ _ _
   split at h
   ·rename_i t ce h1 h2
    split at h
    ·rename_i hc
     simp only [Bool.and_eq_true] at hc
     rcases yc (Option.some.inj h) with rfl|⟨j,i,rfl,rfl,rfl⟩
     ·exact wq xe ⟨n,h1⟩ (getE h2) hc.1 hc.2 hr
     ·exact xq xe h1 (getE h2).vr hr
    ·cases h
   ·cases h
  ·cases h
 ·
  unfold cExp at h
  split at h
  ·
   obtain rfl:=bw (Option.some.inj h) rfl;unfold af at hr;cases hr
   exact PS.weak yk fun E σ H ⟨H₀,S₀,S,f,k⟩=>k σ H S f
  ·
   rename_i x xp m ap args cp
   split at h
   ·rename_i hm
    subst hm
    split at h
    ·rename_i i a h1
     split at h
     ·rename_i hc
      simp only [Bool.and_eq_true] at hc
      obtain ⟨⟨o1,hv⟩,hl⟩:=hc
      cases hq:cE n sc N a with
      |none=>rw [hq] at h;cases h
      |some x'=>
       rw [hq] at h;obtain rfl:=bw (Option.some.inj h) rfl
       obtain ⟨d1,d2,_⟩:=dD o1
       have oe:=getE hq
       have na:=(A.e X sc N N.length xe _ _ hq).1
       have s0:=bC (es:=[]) (env:=X.env) (aL na)
       unfold af at hr
       split at hr
       ·rename_i v hve
        split at hr
        ·rename_i xs hs
         split at hr
         ·rename_i hz
          cases hr
          have de:=oe.v (ρ':=trR z dx (ah (fvU x') ρ)) bH hve
          show DS X _ _ (.nx (trR z dx _))
          rw [br]
          have few:((backTo cp (starEach [a] X.env)).all (fun x=>!x.1)&&(backToKw cp (keywordEach [] X.env)).all (fun x=>x.1.isSome)&&decide (([a]:List Expr).length+([]:List Keyword).length+(if ([]:List Keyword).isEmpty then 0 else 1)<30))=true:=by
           rw [jT (fun e he=>by rw [List.mem_singleton.mp he];exact na)];rfl
          cases hn:aq v with
          |true=>
           rw [hn] at hs
           exact j9 (xe.at h1) (xe.vis hv) (cD hs) (cN hn de) hz d1 d2 rfl rfl few hl s0 rfl
          |false=>
           rw [hn] at hs
           exact aT (j9 (xe.at h1) (xe.vis hv) (cD hs) de hz d1 d2 rfl rfl few hl s0 rfl)
         ·cases hr
        ·cases hr
       ·cases hr
     ·cases h
    ·cases h
   ·split at h
    ·rename_i hm
     subst hm
     split at h
     ·rename_i i h1
      split at h
      ·rename_i hc
       simp only [Bool.and_eq_true] at hc
       obtain ⟨⟨o1,hv⟩,hl⟩:=hc
       obtain rfl:=bw (Option.some.inj h) rfl
       obtain ⟨d1,d2,_⟩:=dD o1
       unfold af at hr
       cases hr
      ·cases h
     ·cases h
    ·cases hq:cE n sc N (.Call (.Attribute (.Name x xp) m ap) args [] cp) with
     |none=>rw [hq] at h;cases h
     |some ce=>
      rw [hq] at h;obtain rfl:=bw (Option.some.inj h) rfl
      exact qe (getE hq) rfl hr
  ·
   rename_i e _ _ _ _
   split at h
   ·rename_i hc
    have hc:bY e=false:=by simpa using hc
    cases hq:cE n sc N e with
    |none=>rw [hq] at h;cases h
    |some ce=>
     rw [hq] at h;obtain rfl:=bw (Option.some.inj h) rfl
     exact qe (getE hq) hc hr
   ·cases h
 ·
  rename_i c a b _
  split at h
  ·rename_i x y zz h1 h2 h3
   obtain ⟨y',zz',rfl,rfl,rfl⟩:=zt (Option.some.inj h)
   have oc:=getE h1
   unfold af at hr
   split at hr
   ·rename_i hq;exact S1.if xe.nox (fI (oc.t bH hq)) (fun _=>ih.b a y' h2 _ _ hr) fun z=>nomatch z
   ·rename_i hq;exact S1.if xe.nox (fI (oc.t bH hq)) (fun z=>nomatch z) fun _=>ih.b b zz' h3 _ _ hr
   ·cases hr
  ·cases h
 ·
  rename_i tg it b _
  split at h
  ·rename_i hit
   split at h
   ·rename_i t x y h1 h2 h3
    obtain ⟨y',rfl,rfl⟩:=xU (Option.some.inj h)
    have oi:=getE h2
    unfold af at hr
    split at hr
    ·rename_i its hi
     have lt:=lO (N:=N) (fun x i h=>xe.lt h) h1
     obtain ⟨f1,f2⟩:=oI (z:=z) (dx:=dx) (fun ρ d ρ1 hb=>((kx xe n).1 tg t h1).2 ρ d ρ1 hb lt) (fun ρ o h=>ih.b b y' h3 ρ o h) its _ o hr
     have di:=oi.i (ρ':=trR z dx (ah (fvU x) ρ)) (tg:=tg) bH hit hi
     refine S1.give (L:=fvU x) ?_
     cases o with
     |nx ρ'=>exact kK xf.pass xe.calm di (f1 fun _ _ z=>nomatch z) (ft hit _)
     |rt d=>exact kK xf.pass xe.calm di (f1 fun _ _ z=>nomatch z) (ft hit _)
     |fr c=>exact kK xf.pass xe.calm di (f1 fun _ _ z=>nomatch z) (ft hit _)
     |xc ρe d=>exact uv xf.hst xf.hfr xe.calm di (f2 ρe d rfl) xe.nox (ft hit _)
    ·cases hr
   ·cases h
  ·cases h
 ·
  rename_i c b _
  split at h
  ·rename_i x y h1 h2
   obtain ⟨y',rfl,rfl⟩:=yR (Option.some.inj h)
   have oc:=getE h1
   unfold af at hr
   obtain ⟨n1,w1⟩:=qA (z:=z) (dx:=dx) (fun ρ q hq=>fI (oc.t bH hq)) (fun ρ o h=>ih.b b y' h2 ρ o h) _ ρ o hr
   have:=rT (pos:=‹Pos›) xf.pass w1
   cases o with
   |nx ρ'=>exact this
   |rt d=>exact this
   |fr c=>exact this
   |xc ρe d=>exact absurd rfl (n1 ρe d)
  ·cases h
 ·
  rename_i x _ args _ _
  split at h
  ·rename_i hc
   simp only [Bool.and_eq_true] at hc
   obtain ⟨⟨o1,hg⟩,_⟩:=hc
   cases hq:cA n sc N args with
   |none=>rw [hq] at h;cases h
   |some ces=>
    rw [hq] at h;obtain rfl:=bw (Option.some.inj h) rfl
    obtain ⟨ss,oa⟩:=A.a X sc N N.length xe args ces hq
    obtain ⟨d1,d2,_⟩:=dD o1
    unfold af at hr
    split at hr
    ·rename_i ds hd
     split at hr
     ·rename_i C0 fs hx
      split at hr
      ·rename_i hl
       cases hr
       obtain ⟨a1,a2,_⟩:=oa _ (trR z dx (ah (uniq (fvA ces)) ρ)) ds bH hd
       obtain ⟨rfl,rfl,rfl,rfl,rfl⟩:=And.intro xe.p_ (And.intro xe.w_ (And.intro xe.K_ (And.intro xe.mg_ xe.fB)))
       have xc:=R.exc x C0 fs hx
       refine cU (L:=uniq (fvA ces)) ?_
       match args,ds,a2,a1,ss with
       |[],[],_,_,_=>
        have:fs=[]:=List.length_eq_zero_iff.mp hl.1.symm
        subst this
        obtain ⟨z1,z2⟩:=xc.zero rfl
        exact m4 z1 z2 (xe.gl hg) xc.mg_ xc.cl xc.ty xe.room.hd d1
       |e0::er,d0::dr,_,a1,ss=>
        obtain ⟨f,fd,ps,M,F,B⟩:=xc.some (by intro q;subst q;have:=hl.1;simp at this)
        exact pb M F (xe.room.mono (by omega)) (xe.gl hg) xc.mg_ B a1 hl.1 hl.2 xc.cl xc.ty xe.nox d1 (bC (aL (ss e0 (by simp)))) (dG fun e he=>ss e (List.mem_cons_of_mem _ he))
      ·cases hr
     ·cases hr
    ·cases hr
  ·cases h
 ·
  rename_i b c _ x y _ x' _ _ _ _
  split at h
  ·rename_i cb i j h1 h2 h3
   split at h
   ·rename_i hc
    simp only [Bool.and_eq_true,beq_iff_eq] at hc
    obtain ⟨⟨⟨⟨⟨⟨⟨o1,hg⟩,_⟩,hl⟩,rfl⟩,ox⟩,oy⟩,ly⟩:=hc
    obtain ⟨cb',rfl,rfl⟩:=yK (Option.some.inj h)
    obtain ⟨d1,d2,_⟩:=dD o1
    obtain ⟨e1,e2,_⟩:=dD ox
    unfold af at hr
    split at hr
    ·rename_i ρ1 C0 fs hb
     have sb:bT X _ b _ _:=ih.b b cb' h1 _ _ hb
     split at hr
     ·rename_i CE hgl
      split at hr
      ·rename_i hsub
       obtain ⟨rfl,rfl,rfl,rfl,rfl⟩:=And.intro xe.p_ (And.intro xe.w_ (And.intro xe.K_ (And.intro xe.mg_ xe.fB)))
       obtain ⟨m1,m2⟩:=R.sub C0 CE true hsub.1
       have hv:(ρ1.set i (.val (.exc C0 fs)))[i]?=some (.val (.exc C0 fs)):=List.getElem?_set_self hsub.2
       have hlx:X.env.scope.names.lookup x'=some .local:=by rw [xe.sc_];exact hl
       cases hh:run G cl [.asg (.nm j) (.var i) [i]] (ρ1.set i (.val (.exc C0 fs))) with
       |none=>rw [hh] at hr;cases hr
       |some o'=>
        rw [hh] at hr
        obtain rfl:=uF hv hh
        cases hr
        show DS X _ _ (.nx (trR z dx _))
        rw [br]
        refine qT (o:=.nx _) xf.hst xf.hfr sb (xe.gl hg) (R.tE c CE hgl) m2 m1 xe.ndX (xe.at h2) hlx (fun a=>?_) xe.nox d1
        have e:(trR z dx ρ1).set i (.val (.exc C0 fs))=trR z dx (ρ1.set i (.val (.exc C0 fs))):=by rw [br];rfl
        have e3:trR z dx ((ρ1.set i (.val (.exc C0 fs))).set j (.val (.exc C0 fs)))=(trR z dx (ρ1.set i (.val (.exc C0 fs)))).set j (.val (.exc C0 fs)):=by rw [br];rfl
        rw [e,e3]
        exact fU (o9 (X:=X.inH a) xe.ndX (xe.at h3) (xe.loc ly) (l0 (X:=X.inH a) (xe.at h2) (.inl hlx) (lK hv) e1 e2) rfl (.inl (xe.fnx h3))) mx
      ·cases hr
     ·cases hr
    ·cases hr
    ·rename_i hn1 hn2
     have sb:=ih.b b cb' h1 _ _ hr
     cases o with
     |nx ρ'=>exact hV sb xe.nox
     |rt d=>exact hV sb xe.nox
     |fr c=>exact hV sb xe.nox
     |xc ρ' d=>exact absurd hr (hn2 ρ' d)
   ·cases h
  ·cases h
 ·cases h
end
end IN
namespace IN
open PySem PySem.Spec PySem.W L2 CT
open PyProof.Rows hiding St
section
variable {ca:Bool} {P:Program} {wd:World} {K:Frag} {mg:Str->Option Value} {base:Heap} {G:Prg} {cl:Str->List D->Option Rs} {k kc n:Nat} {X:Cx} {sc:Scope} {N:List Str} {w:Nat} {ce:CE} {z dx:Addr} {ρ:Rho} {pos:Pos}
theorem Wk.Bp:∀{ρ:Rho} {i:Nat},Wk ρ (ρ.set i .any):=fun {ρ i}=>⟨by simp,fun j x h=>by
 by_cases hj:i=j
 ·subst hj
  have hi:i<ρ.length:=by have:=(List.getElem?_eq_some_iff.mp h).1;simpa using this
  rw [List.getElem?_set_self hi] at h
  exact .inl (Option.some.inj h).symm
 ·rw [List.getElem?_set_ne hj] at h;exact .inr h⟩
theorem SS.fgt {sts:List Stmt} {o:Oc}:∀{L:List Nat} {ρ:Rho},SS X z dx sts (gu L ρ) o->SS X z dx sts ρ o
 |[],_,h=>h
 |i::L,ρ,h=>by
  have h':=SS.fgt (L:=L) (ρ:=ρ.set i .any) h
  have w:Wk (trR z dx ρ) (trR z dx (ρ.set i .any)):=by rw [br];exact Wk.Bp
  cases o with
  |nx ρ'=>exact ju w h'
  |rt d=>exact ju w h'
  |fr c=>exact ju w h'
  |xc ρ' d=>exact rV w h'
theorem uI {L:List Nat} {r:List CS'} {o:Oc} (h:run G cl (.fgt L::r) ρ=some o):run G cl r (gu L ρ)=some o:=by
 unfold run at h
 have e:af G cl (.fgt L) ρ=some (.nx (gu L ρ)):=by unfold af;rfl
 rw [e] at h
 exact h
theorem p6 {b:List CS'} {l:List CS'} (h:l=erL b):(∃L r,b=.fgt L::r∧l=erL r)∨(b=[]∧l=[])∨∃s r,b=s::r∧l=er1 s::erL r:=by
 cases b with
 |nil=>exact .inr (.inl ⟨rfl,by rw [h];rfl⟩)
 |cons s r=>
  cases s with
  |fgt L=>exact .inl ⟨L,r,rfl,by rw [h,erL]⟩
  |_=>exact .inr (.inr ⟨_,r,rfl,by rw [h,erL];intro L z;cases z⟩)
theorem eZ (R:Row P wd K mg base G) (C:Calls P wd K mg base G kc cl) (hk:kc+2<=k) (xf:XF P wd K mg base X sc N k):∀n,yF G cl X sc N z dx n:=by
 intro n
 induction n with
 |zero=>exact ⟨fun st s h=>(by unfold cS1 at h;cases h),fun sts b h=>(by unfold cS at h;cases h)⟩
 |succ n ih=>
  refine ⟨fun st s h ρ o hr=>yV R C hk xf ih h hr,fun sts b=>?_⟩
  induction b generalizing sts with
  |nil=>
   intro h ρ o hr
   unfold run at hr;cases hr
   unfold cS at h
   split at h
   ·exact mx
   ·split at h
    ·cases h
    ·cases h
  |cons s0 r0 ihb=>
   intro h ρ o hr
   rcases p6 (b:=s0::r0) rfl with ⟨L,r,eb,el⟩|⟨eb,el⟩|⟨s,r,eb,el⟩
   ·cases eb
    rw [el] at h
    exact SS.fgt (ihb sts h _ _ (uI hr))
   ·cases eb
   ·cases eb
    rw [el] at h
    unfold cS at h
    split at h
    ·cases h
    ·split at h
     ·rename_i s0' r0' h1 h2
      cases h
      exact zw xf.xe.nox (fun ρ o h=>ih.s _ _ h1 ρ o h) (fun ρ o h=>ih.b _ _ h2 ρ o h) hr
     ·cases h
end
theorem iR {CX:CXT} {P:Program} {wd:World} {K:Frag} {mg:Str->Option Value} {base:Heap} {N ps:List Str} {qual:Str} {st:Stmt} {f:Addr} {cd:Value} {A:Around} {outer:List PySem.Env} {s:Shared} {H:Hp} {E:XK} {k:Nat}
  (S:bO N ps (ai st)) (hr:ay k (A.deeper (envOfC qual (ai st) s.heap.objs.size f cd))):XF P wd K mg base (bQ CX P wd K mg base N qual (ai st) f cd A outer s H E).nox (ai st) N k where
 xe:={p_:=rfl,w_:=rfl,K_:=rfl,mg_:=rfl,fB:=rfl,sc_:=rfl,N_:=rfl,nd:=S.nd,kz:=fun _=>rfl,kD:=fun _=>hr,units:=hr.units,nox:=fun _ _ z=>z,fn:=fun _ _ _ _=>rfl}
 pass:=PassesOwn.never
 hst:=rfl
 hfr:=rfl
 blk:=by
  show (if (ai st).kind.isAnnotationScope then _ else (ai st).kind)=_
  rw [S.kind];rfl
section
variable {P:Program} {wd:World} {K:Frag} {mg:Str->Option Value} {base:Heap} {G:Prg}
theorem iL {z dx:Addr} {ds:List D} {n:Nat}:trR z dx (ds.map .val++List.replicate n .nil)=ds.map .val++List.replicate n .nil:=by
 unfold trR
 rw [List.map_append,List.map_map,List.map_replicate]
 congr 1
theorem kg {key:Str} {C:Addr} {d:Def} {N ps:List Str} {n:Nat} (df:G.defs key=some (some C,d)) (h1:d.slots=N.length) (h2:d.aw=ps.length) (ds:List D) (r:Rs) (h:kal G (n+1) key ds=some r):
  ds.length+1=ps.length∧((∃ρ' a b fs,run G (kal G n) d.body (.new C 0 0 []::(ds.map .val++List.replicate (N.length - (ds.length+1)) .nil))=some (.nx ρ')∧ρ'[0]?=some (.new C a b fs)∧r=.ok (.ins C fs))∨
   ∃ρ' x,run G (kal G n) d.body (.new C 0 0 []::(ds.map .val++List.replicate (N.length - (ds.length+1)) .nil))=some (.xc ρ' x)∧r=.xc x):=by
 unfold kal at h
 rw [df] at h
 unfold cY at h
 dsimp only at h
 split at h
 ·rename_i hl
  rw [h1] at h
  refine ⟨by rw [←h2];exact hl.1,?_⟩
  split at h
  ·rename_i ρ' q
   split at h
   ·rename_i C' a b fs h0
    split at h
    ·rename_i hC;subst hC;cases h;exact .inl ⟨ρ',a,b,fs,q,h0,rfl⟩
    ·cases h
   ·cases h
  ·rename_i ρ' x' q;cases h;exact .inr ⟨ρ',x',q,rfl⟩
  ·cases h
 ·cases h
theorem sD (R:Row P wd K mg base G):∀n,Calls P wd K mg base G (3*n+3) (kal G n):=by
 intro n
 induction n with
 |zero=>
  refine ⟨fun key d f fd ps L=>?_,fun key d f fd ps L=>?_,fun key C d f fd ps L=>?_,fun key C d f fd ps L ds r h=>?_⟩
  ·have no:∀vs H Q E,¬spR K (prR (kal G 0) key) vs H Q E:=fun vs H Q E ⟨S,ds,r,_,_,p,_⟩=>by
    cases r with
    |ok d=>obtain ⟨r,h,_⟩:=p;unfold kal at h;cases h
    |xc d=>have h:kal G 0 key ds=some (.xc d):=p;unfold kal at h;cases h
   exact ⟨fun vs H Q E h=>(no _ _ _ _ h).elim,fun A outer s H args us vs Q E hr he hb hv hs=>(no _ _ _ _ hs).elim⟩
  ·have no:∀vs H Q E,¬jB K (prF (kal G 0) key) vs H Q E:=fun vs H Q E ⟨S,ds,c,_,_,p,_⟩=>by
    have h:kal G 0 key ds=some (.fr c):=p
    unfold kal at h;cases h
   exact ⟨fun vs H Q E h=>(no _ _ _ _ h).elim,fun A outer s H args us vs Q E hr he hb hv hs=>(no _ _ _ _ hs).elim⟩
  ·have no:∀vs H Q E,¬jz K C (prI (kal G 0) C key) vs H Q E:=fun vs H Q E ⟨S,x,dx,us,ds,r,_,_,_,_,_,p,_⟩=>by
    cases r with
    |ok fs=>have h:kal G 0 key ds=some (.ok (.ins C fs)):=p;unfold kal at h;cases h
    |xc d=>have h:kal G 0 key ds=some (.xc d):=p;unfold kal at h;cases h
   exact ⟨fun vs H Q E h=>(no _ _ _ _ h).elim,fun A outer s H args us vs Q E hr he hb hv hs=>(no _ _ _ _ hs).elim⟩
  ·unfold kal at h;cases h
 |succ n ih=>
  have hk:3*(n+1)+3=(3*n+5)+1:=by omega
  refine ⟨fun key d f fd ps L=>?_,fun key d f fd ps L=>?_,fun key C d f fd ps L=>?_,fun key C d f fd ps L ds r h=>?_⟩
  ·obtain ⟨x,qual,st,N,F,S,hc,h1,h2⟩:=L.ex
   rw [hk]
   have shape:∀ds r,kal G (n+1) key ds=some r->ds.length=ps.length∧∃o,run G (kal G n) d.body (aI N ds)=some o∧r=(match o with|.nx _=>.ok .non|.rt x=>.ok x|.fr c=>.fr c|.xc _ x=>.xc x):=fun ds r h=>by
    unfold kal at h
    rw [L.df] at h
    unfold cY at h
    dsimp only at h
    split at h
    ·rename_i hl
     rw [h1] at h
     refine ⟨by rw [←h2];exact hl.1,?_⟩
     split at h
     ·rename_i ρ' q;cases h;exact ⟨_,q,rfl⟩
     ·rename_i x' q;cases h;exact ⟨_,q,rfl⟩
     ·rename_i c q;cases h;exact ⟨_,q,rfl⟩
     ·rename_i ρ' x' q;cases h;exact ⟨_,q,rfl⟩
     ·cases h
    ·cases h
   refine AJ F S (fun ds r p=>?_) (fun cdv A outer s H E ds d' hr p=>?_) (fun cdv A outer s H E ds d' hr p=>?_)
   ·cases r with
    |ok d'=>obtain ⟨r,h,_⟩:=p;exact (shape ds r h).1
    |xc d'=>exact (shape ds _ p).1
   ·obtain ⟨r,h,hv⟩:=p
    obtain ⟨_,o,ho,e⟩:=shape ds r h
    have B:=(eZ (z:=0) (dx:=0) R ih (by omega) (iR (CX:=CXA P wd) (P:=P) (wd:=wd) (K:=K) (mg:=mg) (base:=base) (outer:=outer) (H:=H) (E:=E) S hr) 60).b _ _ hc _ o ho
    have e0:trR 0 0 (aI N ds)=aI N ds:=iL
    cases o with
    |nx ρ'=>subst e;cases hv;refine ⟨.nx (trR 0 0 ρ'),rfl,?_⟩;have B':DSs _ _ _ _:=B;rw [e0] at B';exact B'
    |rt x'=>subst e;cases hv;refine ⟨.rt _,rfl,?_⟩;have B':DSs _ _ _ _:=B;rw [e0] at B';exact B'
    |fr c=>subst e;cases hv;refine ⟨.rfx c,rfl,?_⟩;have B':DSs _ _ _ _:=B;rw [e0] at B';exact B'
    |xc ρ' x'=>subst e;cases hv
   ·obtain ⟨_,o,ho,e⟩:=shape ds _ p
    have B:=(eZ (z:=0) (dx:=0) R ih (by omega) (iR (CX:=CXA P wd) (P:=P) (wd:=wd) (K:=K) (mg:=mg) (base:=base) (outer:=outer) (H:=H) (E:=E) S hr) 60).b _ _ hc _ o ho
    have e0:trR 0 0 (aI N ds)=aI N ds:=iL
    cases o with
    |nx ρ'=>cases e
    |rt x'=>cases e
    |fr c=>cases e
    |xc ρ' x'=>cases e;refine ⟨trR 0 0 ρ',?_⟩;have B':bT _ _ _ _ _:=B;rw [e0] at B';exact B'
  ·obtain ⟨x,qual,st,N,F,S,hc,h1,h2⟩:=L.ex
   rw [hk]
   have shape:∀ds c,kal G (n+1) key ds=some (.fr c)->ds.length=ps.length∧run G (kal G n) d.body (aI N ds)=some (.fr c):=fun ds r h=>by
    unfold kal at h
    rw [L.df] at h
    unfold cY at h
    dsimp only at h
    split at h
    ·rename_i hl
     rw [h1] at h
     refine ⟨by rw [←h2];exact hl.1,?_⟩
     split at h
     ·cases h
     ·cases h
     ·rename_i c q;cases h;exact q
     ·cases h
     ·cases h
    ·cases h
   refine zy F S (fun ds c p=>(shape ds c p).1) (fun cdv A outer s H E ds c hr p=>?_)
   have B:=(eZ (z:=0) (dx:=0) R ih (by omega) (iR (CX:=CX0) (P:=P) (wd:=wd) (K:=K) (mg:=mg) (base:=base) (outer:=outer) (H:=H) (E:=E) S hr) 60).b _ _ hc _ _ (shape ds c p).2
   have e0:trR 0 0 (aI N ds)=aI N ds:=iL
   have B':DSs _ _ _ _:=B
   rw [e0] at B'
   exact B'
  ·obtain ⟨x,qual,st,N,F,S,hc,h1,h2⟩:=L.ex
   rw [hk]
   have shape:=kg (C:=C) (n:=n) L.df h1 h2
   have e0:∀z dx:Addr,∀ds:List D,trR z dx (.new C 0 0 []::(ds.map .val++List.replicate (N.length - (ds.length+1)) .nil))=.new C z dx []::(aI N (.non::ds)).tail:=fun z dx ds=>by
    show Sl.new C z dx []::trR z dx (ds.map .val++List.replicate (N.length - (ds.length+1)) .nil)=_
    rw [iL];rfl
   refine z8 F S (fun ds r p=>?_) (fun cdv A outer s H E ds fs z dx hr p=>?_) (fun cdv A outer s H E ds d' z dx hr p=>?_)
   ·cases r with
    |ok fs=>exact (shape ds _ p).1
    |xc d'=>exact (shape ds _ p).1
   ·obtain ⟨_,h⟩:=shape ds _ p
    rcases h with ⟨ρ',a,b,fs',ho,h0,e⟩|⟨ρ',x',ho,e⟩
    ·cases e
     have B:=(eZ (z:=z) (dx:=dx) R ih (by omega) (iR (CX:=CXA P wd) (P:=P) (wd:=wd) (K:=K) (mg:=mg) (base:=base) (outer:=outer) (H:=H) (E:=E) S hr) 60).b _ _ hc _ _ ho
     have B':DSs _ _ _ _:=B
     rw [e0] at B'
     exact ⟨_,by rw [List.getElem?_map,h0];rfl,B'⟩
    ·cases e
   ·obtain ⟨_,h⟩:=shape ds _ p
    rcases h with ⟨ρ',a,b,fs',ho,h0,e⟩|⟨ρ',x',ho,e⟩
    ·cases e
    ·cases e
     have B:=(eZ (z:=z) (dx:=dx) R ih (by omega) (iR (CX:=CXA P wd) (P:=P) (wd:=wd) (K:=K) (mg:=mg) (base:=base) (outer:=outer) (H:=H) (E:=E) S hr) 60).b _ _ hc _ _ ho
     have B':bT _ _ _ _ _:=B
     rw [e0] at B'
     exact ⟨_,B'⟩
  ·obtain ⟨x,qual,st,N,F,S,hc,h1,h2⟩:=L.ex
   obtain ⟨_,h⟩:=kg (C:=C) (n:=n) L.df h1 h2 ds r h
   rcases h with ⟨ρ',a,b,fs',ho,h0,e⟩|⟨ρ',x',ho,e⟩
   ·exact .inl ⟨fs',e⟩
   ·exact .inr ⟨x',e⟩
end
end IN
namespace IN
open PySem PySem.Spec PySem.W L2 CT
open PyProof.Rows hiding St
noncomputable def asc {α β:Type} [DecidableEq α]:List (α×β)->α->Option β
 |[],_=>none
 |(a,b)::l,x=>if a=x then some b else asc l x
theorem cj {α β:Type} [DecidableEq α] {l:List (α×β)} {x:α} {y:β} (h:asc l x=some y):(x,y)∈l:=by
 induction l with
 |nil=>cases h
 |cons p l ih=>
  obtain ⟨a,b⟩:=p
  unfold asc at h
  split at h
  ·rename_i e;cases h;rw [e];exact List.mem_cons_self
  ·exact List.mem_cons_of_mem _ (ih h)
noncomputable def dZ (n c:String):Bool:=n==c||(n=="bool"&&c=="int")
noncomputable def iN:List String:=["NoneType","bool","int","str","tuple","list","dict"]
noncomputable def i9:List String:=["int","bool","list","tuple","str","dict"]
structure Src where
 gl:List (Str×D):=[]
 fn:List Str:=[]
 ini:List (Str×(Addr×Str)):=[]
 exc:List (Str×(Addr×List Str)):=[]
 mth:List ((Addr×Str)×Str):=[]
 fok:List (Addr×Str):=[]
 xok:List (Addr×Str):=[]
 rM:List ((Addr×Addr)×Bool):=[]
 se:List ((Addr×Addr)×Bool):=[]
 sL:List (Addr×Bool):=[]
 sub:List ((Addr×Addr)×Bool):=[]
 defs:List (Str×(Option Addr×Def)):=[]
noncomputable def Src.kit (s:Src):Tag->Tag->Option Bool
 |.ty n,.ty c=>if n∈iN∧c∈i9 then some (dZ n c) else none
 |.cl C,.cl E=>asc s.rM (C,E)
 |.xc C,.cl E=>asc s.se (C,E)
 |.xc C,.ty c=>if c="ValueError" then asc s.sL C else none
 |_,_=>none
noncomputable def Src.prg (s:Src):Prg where
 glob:=asc s.gl
 fn:=fun x=>if x∈s.fn then some x else none
 ini:=asc s.ini
 exc:=asc s.exc
 mth:=fun C m=>asc s.mth (C,m)
 fok:=fun C f=>decide ((C,f)∈s.fok)
 xok:=fun C f=>decide ((C,f)∈s.xok)
 kit:=s.kit
 sub:=fun C E=>asc s.sub (C,E)
 defs:=asc s.defs
noncomputable def Az (mg:Str->Option Value) (x:Str):D->Prop
 |.ty n=>mg x=none∧bootBuiltins x=some (.type n)
 |.cl C=>mg x=some (.ref C)
 |.int i=>∃t,mg x=some (.int i t)
 |_=>False
noncomputable def lL (K:Frag) (C:Addr):Bool:=plainGet K C Str.empty&&hasDictIn K C&&plainOver K C&&findIn K (.ref C) "__setattr__"==some (some (.builtin "object.__setattr__"))&&findIn K (.ref C) "__class__"==some (some (.builtin "object.__class__"))&&
 specialIn K (.builtin "object.__class__") "__get__"==some (some (.builtin "getset_descriptor.__get__"))&&takesIn K (.builtin "object.__class__")==some true&&mroIn K C (.type "object")==some true
theorem fq {K:Frag} {C:Addr} (h:lL K C=true):Isi K C:=by
 unfold lL at h
 simp only [Bool.and_eq_true,beq_iff_eq] at h
 obtain ⟨⟨⟨⟨⟨⟨⟨h1,h2⟩,h3⟩,h4⟩,h5⟩,h6⟩,h7⟩,h8⟩:=h
 exact ⟨⟨h1,h2,h3,h4⟩,h5,h6,h7,h8⟩
noncomputable def wW (K:Frag):Bool:=iN.all fun n=>i9.all fun c=>kitOne K (.type n) (.type c)==some (dZ n c)
noncomputable def kO:List Str:=["len","sum","all","any","abs","int","tuple","list","dict","min","max","isinstance","range","zip","enumerate"]
theorem yP {x:Str} {b:BN} (h:bnC x=some b):x∈kO:=by
 refine Classical.byContradiction fun hn=>?_
 unfold kO at hn
 simp only [List.mem_cons,List.not_mem_nil,or_false,not_or] at hn
 unfold bnC at h
 simp only [hn,if_false] at h
 cases h
noncomputable def GF (K:Frag) (q:Str) (st:Stmt):Prop:=∃f,nsIn K mainGlobals q=some (some (.ref f))∧∃fd,Fun K q q st f fd
noncomputable def MF (K:Frag) (C:Addr) (m q:Str) (st:Stmt):Prop:=∃f,findIn K (.ref C) m=some (some (.ref f))∧isFn K (.ref f)=true∧∃fd,Fun K m q st f fd
theorem zZ {K:Frag} {q:Str} {st:Stmt} {f:Addr} {oc:Value} {od an:Option Addr} {osl:Array (Option Value)} {kV doc pm cdv ct:Value} (a:nsIn K mainGlobals q=some (some (.ref f))) (l:K.lookup f=some ⟨oc,od,.func (fnOf q q (dk st) (aV st) (ai st) .none kV doc pm an cdv ct),osl⟩) (c:codeIn K cdv q=true) (k:keepIn K (.ref f)=true):GF K q st:=⟨f,a,_,oX l c k⟩
theorem zp {K:Frag} {C:Addr} {m q:Str} {st:Stmt} {f:Addr} {oc:Value} {od an:Option Addr} {osl:Array (Option Value)} {kV doc pm cdv ct:Value} (a:findIn K (.ref C) m=some (some (.ref f))) (i:isFn K (.ref f)=true) (l:K.lookup f=some ⟨oc,od,.func (fnOf m q (dk st) (aV st) (ai st) .none kV doc pm an cdv ct),osl⟩) (c:codeIn K cdv q=true) (k:keepIn K (.ref f)=true):MF K C m q st:=⟨f,a,i,_,oX l c k⟩
structure DT (G:Prg) (key:Str) (C:Option Addr) (d:Def) (x q:Str) (st:Stmt) (ps:List Str):Prop where
 N:∃N,bO N ps (ai st)∧cS 60 (ai st) N (aV st)=some (erL d.body)∧d.slots=N.length
 bd:∀(kV doc pm:Value) (an:Option Addr) (cdv ct:Value) (us:List Value),us.length=ps.length->bindArgs (fnOf x q (dk st) (aV st) (ai st) .none kV doc pm an cdv ct) ⟨us,[]⟩=pure (ps.zip us)
 df:G.defs key=some (C,d)
 aw:d.aw=ps.length
 ini:d.init=C.isSome
theorem DT.lk {K:Frag} {G:Prg} {key x q:Str} {C:Option Addr} {d:Def} {st:Stmt} {ps:List Str} {f:Addr} {fd:FuncData} (t:DT G key C d x q st ps) (F:Fun K x q st f fd):Lk K G key C d f fd ps:=by
 obtain ⟨N,h1,h2,h3⟩:=t.N
 exact ⟨t.df,F.binds t.bd,F.kp,⟨x,q,st,N,F,h1,h2,h3,t.aw⟩,t.ini⟩
theorem eV {P:List Value->Prop} (h:∀a0,P [a0]):∀us:List Value,us.length=1->P us
 |[a0],_=>h a0
theorem dN {P:List Value->Prop} (h:∀a0 a1,P [a0,a1]):∀us:List Value,us.length=2->P us
 |[a0,a1],_=>h a0 a1
theorem fP {P:List Value->Prop} (h:∀a0 a1 a2,P [a0,a1,a2]):∀us:List Value,us.length=3->P us
 |[a0,a1,a2],_=>h a0 a1 a2
theorem Bd {P:List Value->Prop} (h:∀a0 a1 a2 a3,P [a0,a1,a2,a3]):∀us:List Value,us.length=4->P us
 |[a0,a1,a2,a3],_=>h a0 a1 a2 a3
section
variable {K:Frag} {h:Heap} {mg:Str->Option Value} {G:Prg} {q m key:Str} {st:Stmt} {d:Def} {ps:List Str} {C:Addr}
theorem GF.row (X:K.In h) (GG:h.Ns mainGlobals mg) (t:DT G q none d q q st ps) (e:GF K q st):∃d f fd ps,mg q=some (.ref f)∧Lk K G q none d f fd ps:=by
 obtain ⟨f,a,fd,F⟩:=e
 exact ⟨d,f,fd,ps,mg_of X GG a,t.lk F⟩
theorem MF.row (o:lL K C=true) (t:DT G key none d m key st ps) (e:MF K C m key st):∃d f fd ps,Meth K C m f∧Cls K C∧Lk K G key none d f fd ps:=by
 obtain ⟨f,a,i,fd,F⟩:=e
 exact ⟨d,f,fd,ps,⟨a,i,F.kp⟩,(fq o).cl,t.lk F⟩
theorem MF.ini (X:K.In h) (GG:h.Ns mainGlobals mg) (b:nsIn K mainGlobals q=some (some (.ref C))) (mk:makesIn K C=true) (kc:keepIn K (.ref C)=true) (t:DT G key (some C) d "__init__" key st ps) (e:MF K C "__init__" key st):∃d f fd ps,mg q=some (.ref C)∧Mk K C f∧Lk K G key (some C) d f fd ps:=by
 obtain ⟨f,a,i,fd,F⟩:=e
 exact ⟨d,f,fd,ps,mg_of X GG b,⟨mk,a,i,kc⟩,t.lk F⟩
end
section
variable {P:Program} {w:World} {K:Frag} {mg:Str->Option Value} {base:Heap} {s:Src}
theorem xE (hblt:∀x∈kO,mg x=none) (hgl:∀p∈s.gl,Az mg p.1 p.2) (hty:wW K=true)
  (hcl:∀p∈s.rM,kitOne K (.ref p.1.1) (.ref p.1.2)=some p.2∧Isi K p.1.1) (hxc:∀p∈s.se,kitOne K (.ref p.1.1) (.ref p.1.2)=some p.2∧hZ K p.1.1) (hxv:∀p∈s.sL,kitOne K (.ref p.1) (.type "ValueError")=some p.2∧hZ K p.1)
  (hfn:∀x∈s.fn,∃d f fd ps,mg x=some (.ref f)∧Lk K s.prg x none d f fd ps)
  (hini:∀p∈s.ini,∃d f fd ps,mg p.1=some (.ref p.2.1)∧Mk K p.2.1 f∧Lk K s.prg p.2.2 (some p.2.1) d f fd ps)
  (hmth:∀p∈s.mth,∃d f fd ps,Meth K p.1.1 p.1.2 f∧Cls K p.1.1∧Lk K s.prg p.2 none d f fd ps)
  (hfok:∀p∈s.fok,Cls K p.1∧bp K p.1 p.2) (hxok:∀p∈s.xok,b4 K p.1∧bp K p.1 p.2)
  (hexc:∀p∈s.exc,Xc P w K mg base p.1 p.2.1 p.2.2) (hsub:∀p∈s.sub,mroIn K p.1.1 (.ref p.1.2)=some p.2∧lJ K p.1.2):Row P w K mg base s.prg where
 blt:=fun x b h=>hblt x (yP h)
 glob:=fun X hK hmg x d h ok g ρ pos=>by
  have:=hgl _ (cj h)
  rw [←hmg] at this
  unfold bJ at ok
  simp only [Bool.and_eq_true,Bool.not_eq_true'] at ok
  obtain ⟨⟨o1,o2⟩,o3⟩:=ok
  have o3':x≠"__name__":=fun z=>by rw [z] at o3;revert o3;decide
  cases d with
  |ty n=>exact zC g this.1 this.2 o3' o1
  |cl C=>exact zE g this o1
  |int i=>obtain ⟨t,ht⟩:=this;exact r9 g ht o1
  |_=>exact this.elim
 tE:=fun x C h=>hgl _ (cj h)
 kit:=fun t u q h=>by
  change s.kit t u=some q at h
  cases t with
  |ty n=>
   cases u with
   |ty c=>
    unfold Src.kit at h
    dsimp only at h
    split at h
    ·rename_i hm
     cases h
     have:=List.all_eq_true.mp (List.all_eq_true.mp hty n hm.1) c hm.2
     exact ⟨beq_iff_eq.mp this,fun _ z=>(nomatch z),fun _ z=>(nomatch z)⟩
    ·cases h
   |cl C=>cases h
   |xc C=>cases h
  |cl C=>
   cases u with
   |ty c=>cases h
   |cl E=>have:=hcl _ (cj h);exact ⟨this.1,fun _ z=>by cases z;exact this.2,fun _ z=>(nomatch z)⟩
   |xc E=>cases h
  |xc C=>
   cases u with
   |ty c=>
    unfold Src.kit at h
    dsimp only at h
    split at h
    ·rename_i e;subst e;have:=hxv _ (cj h);exact ⟨this.1,fun _ z=>(nomatch z),fun _ z=>by cases z;exact this.2⟩
    ·cases h
   |cl E=>have:=hxc _ (cj h);exact ⟨this.1,fun _ z=>(nomatch z),fun _ z=>by cases z;exact this.2⟩
   |xc E=>cases h
 fn:=fun x key h=>by
  change (if x∈s.fn then some x else none)=some key at h
  split at h
  ·rename_i hm;cases h;exact hfn x hm
  ·cases h
 ini:=fun x C key h=>hini _ (cj h)
 mth:=fun C m key h=>hmth _ (cj h)
 fok:=fun C f h=>hfok _ (of_decide_eq_true h)
 xok:=fun C f h=>hxok _ (of_decide_eq_true h)
 exc:=fun x C fs h=>hexc _ (cj h)
 sub:=fun C E b h=>hsub _ (cj h)
end
theorem ia {K:Frag} {H:Hp} {S:CT.Ad}:∀ns:List Int,ae K H S (ns.map .int) (ns.map V.int)
 |[]=>.nil
 |n::ns=>.cons (.int n) (ia ns)
noncomputable def lE (G:Prg) (n:Nat) (ds:List D) (d:D):Prop:=prR (kal G n) "law" ds (.ok d)
theorem xu {K:Frag} {G:Prg} {n:Nat} {H:Hp} {a:Addr} {ns:List Int} (hG:kal G n "law" [.lst (ns.map .int)]=some (.ok (.bl true))) (h:SqL K H a (ns.map V.int)):spD K (lE G n) [.ref a] H (fun v _=>v=.bl true) fun _ _ _=>False:=by
 refine ⟨no,[.lst (ns.map .int)],.bl true,fun _ z=>z.elim,.cons ?_ .nil,⟨_,hG,rfl⟩,fun v H' _ r=>r.blV⟩
 rcases h with h|h
 ·exact .lst h (fun z=>z) (ia ns)
 ·exact .lstK h (ia ns)
theorem uS {K:Frag} {C:Addr} (h:lQ K C=true) (ty:typeIn K (.ref C)=some (.type "type")):lJ K C:=by
 have c:=(aW h).cl
 obtain ⟨cd,hc,_⟩:=any_some c.ov
 exact ⟨⟨cd,hc⟩,ty,c.mro (by decide)⟩
theorem xK {P:Program} {w:World} {K:Frag} {h:Heap} {mg:Str->Option Value} {G:Prg} {n:Nat} {st:Stmt} {d:Def} {x:Str} {fa:Addr} (X:K.In h) (GG:h.Ns mainGlobals mg) (hfa:mg "law"=some (.ref fa)) (R:∀base,Row P w K mg base G) (t:DT G "law" none d "law" "law" st [x]) (e:GF K "law" st):
  ∃fd:FuncData,(∀(s:Shared) (v:Value),BindsTo s fd ⟨[v],[]⟩ [(x,v)])∧∀base:Heap,K.In base->base.Ns mainGlobals mg->aA P w K mg base CX0 (3*n+3) fa fd [x] (spD K (lE G n)):=by
 obtain ⟨f,a,fd,F⟩:=e
 have e1:=hfa.symm.trans (mg_of X GG a)
 cases e1
 refine ⟨fd,?_,fun base _ _=>CT.aA.okD ((sD (R base) n).fn _ _ _ _ _ (t.lk F))⟩
 intro s v
 obtain ⟨oc,od,kV,doc,pm,an,cdv,ct,osl,rfl,lk,hcd⟩:=F.ex
 exact .of_eq (t.bd kV doc pm an cdv ct [v] rfl)
end IN
namespace PL
open PySem PySem.Spec L2 CT IN
open PyProof.Rows hiding St
section
variable {G:Prg} {cl:Str->List D->Option Rs} {ρ ρ':Rho} {s:CS'} {r:List CS'} {o:Option Oc} {n:Nat} {k:Str} {d:Def} {ds:List D} {x:D}
theorem st (h1:IN.af G cl s ρ=some (.nx ρ')) (h2:IN.run G cl r ρ'=o):IN.run G cl (s::r) ρ=o:=by rw [IN.run,h1];exact h2
theorem a9 (h1:IN.af G cl s ρ=some (.rt x)):IN.run G cl (s::r) ρ=some (.rt x):=by rw [IN.run,h1]
theorem Aa {c:Ow} (h1:IN.af G cl s ρ=some (.fr c)):IN.run G cl (s::r) ρ=some (.fr c):=by rw [IN.run,h1]
theorem zm (h1:IN.af G cl s ρ=some (.xc ρ' x)):IN.run G cl (s::r) ρ=some (.xc ρ' x):=by rw [IN.run,h1]
theorem cm:IN.run G cl [] ρ=some (.nx ρ):=by rw [IN.run]
theorem aK (hd:G.defs k=some (none,d)) (hl:ds.length=d.aw∧d.init=false) {ρ0:Rho} (h0:ds.map .val++List.replicate (d.slots - ds.length) .nil=ρ0) (h:IN.run G (kal G n) d.body ρ0=some (.rt x)):kal G (n+1) k ds=some (.ok x):=by
 rw [kal,hd];dsimp only;rw [cY,if_pos hl,h0,h]
theorem lP (hd:G.defs k=some (none,d)) (hl:ds.length=d.aw∧d.init=false) {ρ0:Rho} (h0:ds.map .val++List.replicate (d.slots - ds.length) .nil=ρ0) (h:IN.run G (kal G n) d.body ρ0=some (.nx ρ)):kal G (n+1) k ds=some (.ok .non):=by
 rw [kal,hd];dsimp only;rw [cY,if_pos hl,h0,h]
theorem xJ {c:Ow} (hd:G.defs k=some (none,d)) (hl:ds.length=d.aw∧d.init=false) {ρ0:Rho} (h0:ds.map .val++List.replicate (d.slots - ds.length) .nil=ρ0) (h:IN.run G (kal G n) d.body ρ0=some (.fr c)):kal G (n+1) k ds=some (.fr c):=by
 rw [kal,hd];dsimp only;rw [cY,if_pos hl,h0,h]
theorem qo (hd:G.defs k=some (none,d)) (hl:ds.length=d.aw∧d.init=false) {ρ0:Rho} (h0:ds.map .val++List.replicate (d.slots - ds.length) .nil=ρ0) (h:IN.run G (kal G n) d.body ρ0=some (.xc ρ x)):kal G (n+1) k ds=some (.xc x):=by
 rw [kal,hd];dsimp only;rw [cY,if_pos hl,h0,h]
theorem mM {C a b:Addr} {fs:List (Str×D)} (hd:G.defs k=some (some C,d)) (hl:ds.length+1=d.aw∧d.init=true) {ρ0:Rho} (h0:ds.map .val++List.replicate (d.slots - (ds.length+1)) .nil=ρ0) (h:IN.run G (kal G n) d.body (.new C 0 0 []::ρ0)=some (.nx (.new C a b fs::ρ))):kal G (n+1) k ds=some (.ok (.ins C fs)):=by
 rw [kal,hd];dsimp only;rw [cY,if_pos hl,h0,h];dsimp only [List.getElem?_cons_zero];rw [if_pos rfl]
variable {α β:Type} {t:Tg} {b:List CS'} {g:α->D} {it:CE} {L:List Nat}
theorem sM {bb:Rho->Option Oc} (R:List α->Rho) (all:List α) (h:∀(done:List α) (a:α) (rest:List α),all=done++a::rest->∃ρ1,ao t (g a) (R done)=some ρ1∧bb ρ1=some (.nx (R (done++[a])))):
  forL t bb (all.map g) (R [])=some (.nx (R all)):=by
 have go:∀(l done:List α),all=done++l->forL t bb (l.map g) (R done)=some (.nx (R (done++l))):=by
  intro l
  induction l with
  |nil=>intro done _;rw [List.append_nil];rfl
  |cons a l ih=>
   intro done e
   obtain ⟨ρ1,h1,h2⟩:=h done a l e
   rw [List.map_cons,forL,h1]
   dsimp only
   rw [h2]
   dsimp only
   rw [ih (done++[a]) (by rw [e,List.append_assoc];rfl),List.append_assoc]
   rfl
 exact go all [] rfl
theorem eL (R:List α->Rho) (all:List α) (hi:evI G cl it (ah L ρ)=some (all.map g)) (h0:ah L ρ=R [])
  (h:∀(done:List α) (a:α) (rest:List α),all=done++a::rest->∃ρ1,ao t (g a) (R done)=some ρ1∧IN.run G cl b ρ1=some (.nx (R (done++[a])))):IN.af G cl (.for t it L b) ρ=some (.nx (R all)):=by
 rw [IN.af,hi]
 dsimp only
 rw [h0]
 exact sM R all h
theorem k9 {f:D->Option (List D)} {u:α->List D}:∀{l:List α},(∀a∈l,f (g a)=some (u a))->hW f (l.map g)=some (l.flatMap u)
 |[],_=>rfl
 |a::l,h=>by
  rw [List.map_cons,hW,h a List.mem_cons_self]
  dsimp only
  rw [k9 fun b hb=>h b (List.mem_cons_of_mem _ hb)]
  rfl
theorem l9 {u:α->D} {l:List α}:(l.flatMap fun a=>[u a])=l.map u:=by
 induction l with
 |nil=>rfl
 |cons a l ih=>rw [List.flatMap_cons,ih];rfl
theorem bB {w:Nat} {cap:List Nat} {it e:CE} {l:List α} {u:α->D} (hi:evI G cl it ρ=some (l.map g)) (hw:((tks t).all fun k=>k<w)=true) (hz:l.length<=sizeLine)
  (h:∀a∈l,∃ρ1,ao t (g a) (eS w cap ρ)=some ρ1∧ev G cl e ρ1=some (u a)):ev G cl (.comp w cap t it (.lit (.bl true)) (.emit e)) ρ=some (.lst (l.map u)):=by
 rw [ev,hi]
 dsimp only
 rw [if_pos hw]
 rw [k9 (g:=g) (u:=fun a=>[u a]) (l:=l),l9]
 ·dsimp only
  rw [if_pos (by rw [List.length_map];exact hz)]
 ·intro a ha
  obtain ⟨ρ1,h1,h2⟩:=h a ha
  rw [h1]
  dsimp only
  rw [evT]
  dsimp only
  rw [evB,h2]
end
theorem m_ {G:Prg} {i:Int} {c:String}:b_ G (.int i) (.ty c)=G.kit (.ty "int") (.ty c):=rfl
theorem oq {G:Prg} {i:Bool} {c:String}:b_ G (.bl i) (.ty c)=G.kit (.ty "bool") (.ty c):=rfl
theorem n5 {G:Prg} {c:String}:b_ G .non (.ty c)=G.kit (.ty "NoneType") (.ty c):=rfl
theorem nc {G:Prg} {x:Str} {c:String}:b_ G (.str x) (.ty c)=G.kit (.ty "str") (.ty c):=rfl
theorem ky {G:Prg} {xs:List D} {c:String}:b_ G (.tup xs) (.ty c)=G.kit (.ty "tuple") (.ty c):=rfl
theorem nW {G:Prg} {xs:List D} {c:String}:b_ G (.lst xs) (.ty c)=G.kit (.ty "list") (.ty c):=rfl
theorem m9 {G:Prg} {xs:List (PK×D)} {c:String}:b_ G (.pdc xs) (.ty c)=G.kit (.ty "dict") (.ty c):=rfl
theorem nB {G:Prg} {C E:Addr} {fs:List (Str×D)}:b_ G (.ins C fs) (.cl E)=G.kit (.cl C) (.cl E):=rfl
theorem nC {G:Prg} {C E:Addr} {fs:List (Str×D)}:b_ G (.exc C fs) (.cl E)=G.kit (.xc C) (.cl E):=rfl
theorem kM {G:Prg} {C:Addr} {c:String} {fs:List (Str×D)}:b_ G (.exc C fs) (.ty c)=G.kit (.xc C) (.ty c):=rfl
theorem lC {G:Prg} {C:Addr} {c:String} {fs:List (Str×D)}:b_ G (.ins C fs) (.ty c)=G.kit (.cl C) (.ty c):=rfl
theorem xb {j:Int} (h: -(2^62)<=j∧j<2^62):fD j=true:=by unfold fD;rw [decide_eq_true (by omega),decide_eq_true (by omega)];rfl
theorem qp {j:Int} (h: -(2^62)<=j∧j<2^62):cg .range [.int j]=some ((bj j).map D.int):=if_pos (xb h)
theorem xF {n:Nat} (h:n<=1000000):cg .range [.int (n:Int)]=some ((bj n).map D.int):=qp (by omega)
theorem iU {x y:D} {xs ys:List D} (h1:aP x=some xs) (h2:aP y=some ys):cg .zip [x,y]=some (bo xs ys):=by show (match aP x,aP y with|some xs,some ys=>some (bo xs ys)|_,_=>none)=_;rw [h1,h2]
theorem fS {xs:List D}:aP (.lst xs)=some xs:=rfl
theorem iJ {xs:List D}:aP (.tup xs)=some xs:=rfl
theorem qM {xs:List D}:itD (.lst xs)=some xs:=rfl
theorem nE {xs:List D}:itD (.tup xs)=some xs:=rfl
theorem ri {xs:List D}:itD (.tup xs)=some xs:=rfl
theorem i6 {xs:List D} {i:Int}:ixD (.lst xs) (.int i)=atI xs i:=rfl
theorem oh {xs:List D} {i:Int}:ixD (.tup xs) (.int i)=atI xs i:=rfl
theorem e_ {i j:Int} (h:j.natAbs<2^64):bE i j=true:=by unfold bE;rw [decide_eq_true h];simp
theorem gH {i j:Int} (h:i.natAbs<2^64):bE i j=true:=by unfold bE;rw [decide_eq_true h];simp
theorem dv:∀ns:List Bool,boolsOf (ns.map .bl)=some ns
 |[]=>rfl
 |n::ns=>by rw [List.map_cons,boolsOf,dv ns]
noncomputable def prod:List Int->Int:=List.foldl (·*·) 1
theorem pX (l:List Int) (a:Int):prod (l++[a])=prod l*a:=by
 show List.foldl (·*·) 1 (l++[a])=_
 rw [List.foldl_append];rfl
noncomputable def Sm (ns:List Int):Prop:=∀n∈ns, -(2^64)<n∧n<2^64
noncomputable def Big (ns:List Int):Prop:=∀n∈ns,2<=n∧n<2^64
theorem Big.sm {ns:List Int} (b:Big ns):Sm ns:=fun n h=>⟨by have:=(b n h).1;omega,(b n h).2⟩
noncomputable abbrev rf (ns:List Int):List (Str×D):=[(("rounds":Str),tupI ns)]
noncomputable def grp (C:Addr) (ns:List Int):D:=.ins C (rf ns)
structure Good (ns:List Int):Prop where
 ge:∀n∈ns,2<=n
 le:prod ns<=144
 lt:∀n∈ns,n<=144
 len:ns.length<=7
theorem Good.big {ns:List Int} (g:Good ns):Big ns:=fun n h=>⟨g.ge n h,by have:=g.lt n h;omega⟩
theorem Good.bA {ns:List Int} (g:Good ns):ns.length<=1000:=Nat.le_trans g.len (by decide)
noncomputable def hasB (ns ks:List Int):Bool:=(ks.zip ns).all fun p=>decide (0<=p.1)&&decide (p.1<p.2)
noncomputable def at0 (ns:List Int) (k:Int):Int:=ns.getD (k%(ns.length:Int)).toNat 0
theorem zb {ns:List Int} {k:Int} (h:0<ns.length):atI (s_ ns) (k%(ns.length:Int))=some (.int (at0 ns k)):=by
 have h1:0<=k%(ns.length:Int):=Int.emod_nonneg _ (by omega)
 have h2:k%(ns.length:Int)<ns.length:=Int.emod_lt_of_pos _ (by omega)
 have e:k%(ns.length:Int)=(((k%(ns.length:Int)).toNat:Nat):Int):=by omega
 rw [e]
 refine je ?_
 have h3:(k%(ns.length:Int)).toNat<ns.length:=by omega
 simp [s_,at0,h3]
theorem gY:∀ks:List Int,b6 (ks.map .int)=true
 |[]=>rfl
 |k::ks=>by show (true&&b6 (ks.map .int))=true;rw [gY ks];rfl
theorem iY (ks:List Int):aZ (tupI ks)=true:=gY ks
theorem iS:∀ks:List Int,PyData.depthAll (d4 (ks.map .int))=0
 |[]=>rfl
 |k::ks=>by
  show max (PyData.depth (.int k)) (PyData.depthAll (d4 (ks.map .int)))=0
  rw [iS ks];rfl
theorem iK (ks:List Int):(toPy (tupI ks)).depth=1:=by
 show PyData.depthAll (d4 (ks.map .int))+1=1
 rw [iS]
noncomputable def step (found:List (List Int)) (n:Int):List (List Int):=found.flatMap fun b=>(bj n).map fun k=>b++[k]
noncomputable def mem (ns:List Int):List (List Int):=ns.foldl step [[]]
noncomputable def az (ns x y:List Int):List Int:=(x.zip (y.zip ns)).map fun p=>(p.1+p.2.1)%p.2.2
noncomputable def aE (ns:List Int) (m:Int) (x:List Int):List Int:=(x.zip ns).map fun p=>m*p.1%p.2
structure El (ns ks:List Int):Prop where
 len:ks.length=ns.length
 has:hasB ns ks=true
theorem jM {n k:Int} {ns ks:List Int}:hasB (n::ns) (k::ks)=((decide (0<=k)&&decide (k<n))&&hasB ns ks):=by simp [hasB]
theorem El.nil:El [] []:=⟨rfl,rfl⟩
theorem El.cons {n k:Int} {ns ks:List Int} (h1:0<=k) (h2:k<n) (e:El ns ks):El (n::ns) (k::ks):=⟨by simp [e.len],by rw [jM,e.has];simp [h1,h2]⟩
theorem El.inv {n:Int} {ns ks:List Int} (e:El (n::ns) ks):∃k r,ks=k::r∧0<=k∧k<n∧El ns r:=by
 cases ks with
 |nil=>have:=e.len;simp at this
 |cons k r=>
  have h:=e.has
  rw [jM] at h
  simp only [Bool.and_eq_true,decide_eq_true_eq] at h
  exact ⟨k,r,rfl,h.1.1,h.1.2,⟨by have:=e.len;simpa using this,h.2⟩⟩
noncomputable def Ge2 (ns:List Int):Prop:=∀n∈ns,2<=n
theorem Ge2.tail {n:Int} {ns:List Int} (g:Ge2 (n::ns)):Ge2 ns:=fun k hk=>g k (List.mem_cons_of_mem _ hk)
theorem Ge2.head {n:Int} {ns:List Int} (g:Ge2 (n::ns)):2<=n:=g n List.mem_cons_self
theorem aD {n a b:Int} {ns x y:List Int}:az (n::ns) (a::x) (b::y)=(a+b)%n::az ns x y:=rfl
theorem aB {n a m:Int} {ns x:List Int}:aE (n::ns) m (a::x)=m*a%n::aE ns m x:=rfl
theorem fx {a n:Int} (h:2<=n):0<=a%n∧a%n<n:=⟨Int.emod_nonneg _ (by omega),Int.emod_lt_of_pos _ (by omega)⟩
theorem El.add:∀{ns x y:List Int},Ge2 ns->El ns x->El ns y->El ns (az ns x y)
 |[],x,y,_,h1,h2=>by
  have e:x=[]:=List.length_eq_zero_iff.mp h1.len
  subst e;exact El.nil
 |n::ns,x,y,g,h1,h2=>by
  obtain ⟨a,x',rfl,_,_,hx⟩:=h1.inv
  obtain ⟨b,y',rfl,_,_,hy⟩:=h2.inv
  rw [aD]
  exact El.cons (fx g.head).1 (fx g.head).2 (El.add g.tail hx hy)
theorem El.mul {m:Int}:∀{ns x:List Int},Ge2 ns->El ns x->El ns (aE ns m x)
 |[],x,_,h1=>by
  have e:x=[]:=List.length_eq_zero_iff.mp h1.len
  subst e;exact El.nil
 |n::ns,x,g,h1=>by
  obtain ⟨a,x',rfl,_,_,hx⟩:=h1.inv
  rw [aB]
  exact El.cons (fx g.head).1 (fx g.head).2 (El.mul g.tail hx)
theorem f_:∀{ns x:List Int},El ns x->aE ns 0 x=List.replicate ns.length 0
 |[],x,h1=>by
  have e:x=[]:=List.length_eq_zero_iff.mp h1.len
  subst e;rfl
 |n::ns,x,h1=>by
  obtain ⟨a,x',rfl,h2,h3,hx⟩:=h1.inv
  rw [aB,f_ hx,Int.zero_mul,Int.zero_emod];rfl
theorem add_mul {a b:Int}:∀{ns x:List Int},El ns x->az ns (aE ns a x) (aE ns b x)=aE ns (a+b) x
 |[],x,h1=>by
  have e:x=[]:=List.length_eq_zero_iff.mp h1.len
  subst e;rfl
 |n::ns,x,h1=>by
  obtain ⟨k,x',rfl,h2,h3,hx⟩:=h1.inv
  rw [aB,aB,aB,aD,add_mul hx,Int.add_mul,←Int.add_emod]
theorem El.zero:∀{ns:List Int},Ge2 ns->El ns (List.replicate ns.length 0)
 |[],_=>El.nil
 |n::ns,g=>by
  show El (n::ns) (0::List.replicate ns.length 0)
  exact El.cons (Int.le_refl 0) (by have:=g.head;omega) (El.zero g.tail)
theorem f9:∀{x y ns:List Int},a8 (x.map .int) (y.map .int) (ns.map .int)=(x.zip (y.zip ns)).map fun p=>D.tup [.int p.1,.int p.2.1,.int p.2.2]
 |[],_,_=>by simp [a8]
 |_::_,[],_=>by simp [a8]
 |_::_,_::_,[]=>by simp [a8]
 |a::x,b::y,n::ns=>by simp [a8,f9]
theorem lA {x y ns:List Int} {p:Int×Int×Int} (h:p∈x.zip (y.zip ns)):p.2.2∈ns:=(List.of_mem_zip (List.of_mem_zip h).2).2
theorem Good.g2 {ns:List Int} (g:Good ns):Ge2 ns:=g.ge
noncomputable def gd (l:List Int) (k:Int):Int:=l.getD k.toNat 0
theorem sW {l:List Int} {k:Int} (h:0<=k) (h2:k<(l.length:Int)):atI (l.map D.int) k=some (.int (gd l k)):=by
 obtain ⟨j,rfl⟩:=Int.eq_ofNat_of_zero_le h
 have h3:j<l.length:=by omega
 refine je ?_
 simp [gd,h3]
theorem j8 {β:Type} (f:Int->β) (n:Nat):(bj n).map f=(List.range n).map fun k:Nat=>f k:=by simp [bj,Function.comp_def]
theorem El.small {ns x:List Int} (g:Good ns):El ns x->∀k∈x, -(2^64)<k∧k<2^64:=by
 have go:∀{ns x:List Int},(∀n∈ns,n<=144)->El ns x->∀k∈x, -(2^64)<k∧k<2^64:=by
  intro ns
  induction ns with
  |nil=>intro x _ h k hk;rw [List.length_eq_zero_iff.mp h.len] at hk;cases hk
  |cons n ns ih=>
   intro x hn h k hk
   obtain ⟨a,r,rfl,h2,h3,hr⟩:=h.inv
   rcases List.mem_cons.mp hk with e|hk
   ·rw [e];have:=hn n List.mem_cons_self;omega
   ·exact ih (fun m hm=>hn m (List.mem_cons_of_mem _ hm)) hr k hk
 exact go g.lt
noncomputable def est (s:Int×List Int) (n:Int):Int×List Int:=(s.1 / n,s.2++[s.1%n])
noncomputable def bW (c:Int) (ns:List Int):Int×List Int:=ns.foldl est (c,[])
noncomputable def elI (ns:List Int) (c:Int):List Int:=(bW c ns).2
theorem jY (c:Int) (ns:List Int) (n:Int):bW c (ns++[n])=est (bW c ns) n:=by
 show List.foldl _ _ (ns++[n])=_
 rw [List.foldl_append];rfl
theorem ph:∀{ns:List Int} {c:Int},Ge2 ns->El ns (elI ns c):=by
 have go:∀(ns:List Int) (c:Int) (f:List Int),(ns.foldl est (c,f)).2=f++(ns.foldl est (c,[])).2:=by
  intro ns
  induction ns with
  |nil=>intro c f;simp
  |cons n ns ih=>
   intro c f
   show (ns.foldl est (c / n,f++[c%n])).2=f++(ns.foldl est (c / n,[]++[c%n])).2
   rw [ih,ih (c / n) ([]++[c%n]),List.append_assoc];rfl
 intro ns
 induction ns with
 |nil=>intro c _;exact El.nil
 |cons n ns ih=>
  intro c g
  have e:elI (n::ns) c=c%n::elI ns (c / n):=by
   show (ns.foldl est (c / n,[]++[c%n])).2=_
   rw [go];rfl
  rw [e]
  exact El.cons (fx g.head).1 (fx g.head).2 (ih g.tail)
theorem lG (c:Int) (ns:List Int):(bW c ns).2.length=ns.length:=by
 have go:∀(ns:List Int) (s:Int×List Int),(ns.foldl est s).2.length=s.2.length+ns.length:=by
  intro ns
  induction ns with
  |nil=>intro s;rfl
  |cons n ns ih=>intro s;rw [List.foldl_cons,ih];simp [est];omega
 rw [bW,go];simp
end PL
open PySem IN CT
noncomputable def P.ip:IN.Def:={slots:=1,aw:=1,body:=[
(.ret (.and (.blt .isin [(.var 0),(.gl "int")]) (.nt (.blt .isin [(.var 0),(.gl "bool")]))) [0])]}
noncomputable def P.product:IN.Def:={slots:=3,aw:=1,body:=[
(.asg (.nm 1) (.lit (.int 1)) []),
(.fgt [2]),
(.for (.nm 2) (.var 0) [0] [(.asg (.nm 1) (.bin .mul (.var 1) (.var 2)) [1,2]),(.fgt [2])]),
(.ret (.var 1) [1])]}
noncomputable def P.fQ:IN.Def:={slots:=1,aw:=1,body:=[
(.ife (.nt (.blt .isin [(.var 0),(.tup [(.gl "list"),(.gl "tuple")])])) [0] [(.ret (.lit (.bl false)) [])] []),
(.ife (.nt (.blt .all [(.comp 1 [] (.nm 0) (.var 0) (.lit (.bl true)) (.emit (.and (.fn "is_whole" [(.var 0)]) (.cmp .ge (.var 0) (.gl "LEAST_ROUND")))))])) [0] [(.ret (.lit (.bl false)) [])] []),
(.ret (.cmp .le (.fn "product" [(.var 0)]) (.gl "MOST_MEMBERS")) [0])]}
noncomputable def P.dY:IN.Def:={slots:=2,aw:=2,body:=[
(.ife (.nt (.mth (.var 0) "has" [(.var 1)])) [0,1] [(.rse "NoElement" [] [])] [])]}
noncomputable def P.oE:IN.Def:={slots:=1,aw:=1,body:=[
(.ret (.blt .len [(.mth (.var 0) "members" [])]) [0])]}
noncomputable def P.eW:IN.Def:={slots:=6,aw:=3,body:=[
(.exp (.mth (.var 0) "need" [(.var 2)]) [0,2]),
(.asg (.nm 3) (.ife (.cmp .lt (.var 1) (.lit (.int 0))) (.mth (.var 0) "back_of" [(.var 2)]) (.var 2)) [1,0,2]),
(.asg (.nm 4) (.blt .abs [(.var 1)]) [1]),
(.asg (.nm 5) (.mth (.var 0) "nought" []) [0]),
(.whl (.cmp .gt (.var 4) (.lit (.int 0))) [4] [(.ife (.cmp .eq (.bin .mod (.var 4) (.lit (.int 2))) (.lit (.int 1))) [4] [(.asg (.nm 5) (.mth (.var 0) "sum_of" [(.var 5),(.var 3)]) [0,5,3])] []),(.asg (.nm 3) (.mth (.var 0) "sum_of" [(.var 3),(.var 3)]) [0,3]),(.asg (.nm 4) (.bin .fdiv (.var 4) (.lit (.int 2))) [4])]),
(.ret (.var 5) [5])]}
noncomputable def P.c9:IN.Def:={slots:=2,aw:=2,init:=true,body:=[
(.ife (.nt (.fn "are_rounds" [(.var 1)])) [1] [(.rse "NoRounds" [] [])] []),
(.fR "rounds" (.blt .tuple [(.var 1)]) [1])]}
noncomputable def P.jl:IN.Def:={slots:=3,aw:=1,body:=[
(.asg (.nm 1) (.lst [(.tup [])]) []),
(.fgt [2]),
(.for (.nm 2) (.fld (.var 0) "rounds") [0] [(.asg (.nm 1) (.comp 2 [2] (.nm 0) (.var 1) (.lit (.bl true)) (.loop (.nm 1) (.blt .range [(.var 2)]) (.lit (.bl true)) (.emit (.bin .add (.var 0) (.tup [(.var 1)]))))) [2,1]),(.fgt [2])]),
(.ret (.var 1) [1])]}
noncomputable def P.c4:IN.Def:={slots:=2,aw:=2,body:=[
(.ife (.or (.nt (.blt .isin [(.var 1),(.gl "tuple")])) (.cmp .ne (.blt .len [(.var 1)]) (.blt .len [(.fld (.var 0) "rounds")]))) [1,0] [(.ret (.lit (.bl false)) [])] []),
(.ret (.blt .all [(.comp 2 [] (.tp [(.nm 0),(.nm 1)]) (.blt .zip [(.var 1),(.fld (.var 0) "rounds")]) (.lit (.bl true)) (.emit (.and (.fn "is_whole" [(.var 0)]) (.chn (.lit (.int 0)) (.var 0) (.var 1)))))]) [1,0])]}
noncomputable def P.cF:IN.Def:={slots:=1,aw:=1,body:=[
(.ret (.bin .mul (.tup [(.lit (.int 0))]) (.blt .len [(.fld (.var 0) "rounds")])) [0])]}
noncomputable def P.jD:IN.Def:={slots:=1,aw:=1,body:=[
(.ret (.lit (.bl true)) [])]}
noncomputable def P.dJ:IN.Def:={slots:=3,aw:=3,body:=[
(.ret (.blt .tuple [(.comp 3 [] (.tp [(.nm 0),(.nm 1),(.nm 2)]) (.blt .zip [(.var 1),(.var 2),(.fld (.var 0) "rounds")]) (.lit (.bl true)) (.emit (.bin .mod (.bin .add (.var 0) (.var 1)) (.var 2))))]) [1,2,0])]}
noncomputable def P.n9:IN.Def:={slots:=1,aw:=1,body:=[
(.ife (.or (.nt (.blt .isin [(.var 0),(.gl "Group")])) (.or (.nt (.mth (.var 0) "is_even" [])) (.cmp .gt (.mth (.var 0) "size" []) (.gl "MOST_LOWER")))) [0] [(.rse "NoLower" [] [])] [])]}
noncomputable def P.ot:IN.Def:={slots:=1,aw:=1,body:=[
(.ife (.or (.nt (.blt .isin [(.var 0),(.gl "Rounds")])) (.cmp .gt (.mth (.var 0) "size" []) (.gl "MOST_UPPER"))) [0] [(.rse "NoUpper" [] [])] [])]}
noncomputable def P.qZ:IN.Def:={slots:=2,aw:=1,body:=[
(.asg (.nm 1) (.mth (.var 0) "members" []) [0]),
(.ret (.comp 2 [1] (.nm 0) (.var 1) (.lit (.bl true)) (.loop (.nm 1) (.var 2) (.lit (.bl true)) (.emit (.tup [(.var 0),(.var 1)])))) [1])]}
noncomputable def P.jn:IN.Def:={slots:=7,aw:=3,body:=[
(.asg (.nm 3) .lj []),
(.fgt [4,5,6]),
(.for (.tp [(.nm 4),(.nm 5)]) (.fn "pairs_of" [(.var 1)]) [1] [(.asg (.nm 6) (.mth (.var 2) "get" [(.tup [(.var 4),(.var 5)])]) [2,4,5]),(.ife (.nt (.mth (.var 0) "has" [(.var 6)])) [0,6] [(.rse "NoCarry" [(.var 4),(.var 5)] [4,5])] []),(.put 3 (.tup [(.var 4),(.var 5)]) (.var 6) [4,5,6]),(.fgt [4,5,6])]),
(.ret (.var 3) [3])]}
noncomputable def P.jy:IN.Def:={slots:=4,aw:=4,init:=true,body:=[
(.exp (.fn "need_lower" [(.var 1)]) [1]),
(.exp (.fn "need_upper" [(.var 2)]) [2]),
(.fR "lower" (.var 1) [1]),
(.fR "upper" (.var 2) [2]),
(.fR "kept" (.fn "picked_carries" [(.var 1),(.var 2),(.var 3)]) [1,2,3])]}
noncomputable def L.whole:IN.Def:={slots:=1,aw:=1,body:=[
(.ret (.and (.blt .isin [(.var 0),(.gl "int")]) (.nt (.blt .isin [(.var 0),(.gl "bool")]))) [0])]}
noncomputable def L.element:IN.Def:={slots:=4,aw:=2,body:=[
(.asg (.nm 2) (.lst []) []),
(.fgt [3]),
(.for (.nm 3) (.var 0) [0] [(.app 2 (.bin .mod (.var 1) (.var 3)) [1,3]),(.asg (.nm 1) (.bin .fdiv (.var 1) (.var 3)) [1,3]),(.fgt [3])]),
(.ret (.blt .tuple [(.var 2)]) [2])]}
noncomputable def L.gcd:IN.Def:={slots:=2,aw:=2,body:=[
(.whl (.cmp .ne (.var 1) (.lit (.int 0))) [1] [(.par 0 1 (.var 1) (.bin .mod (.var 0) (.var 1)) [0,1])]),
(.ret (.var 0) [0])]}
namespace PL
open PySem PySem.Spec L2 CT IN
open PyProof.Rows hiding St
local macro_rules|`(tactic|simp? [$ls,*])=>do
 let m<-("ah aM List.modify_zero_cons List.modify_succ_cons aQ List.getElem?_cons_zero List.getElem?_cons_succ List.length_cons List.length_nil Nat.reduceAdd Nat.reduceLT if_true List.set_cons_succ List.set_cons_zero Rs.val Ow.D kp ao aO".splitOn " ").toArray.mapM fun s=>`(Lean.Parser.Tactic.simpLemma|$(Lean.mkIdent s.toName):ident)
 let a:=(ls.getElems.map fun x=>(.mk x.raw:Lean.TSyntax `Lean.Parser.Tactic.simpLemma))++m
 `(tactic|simp only [$a,*])
local macro_rules|`(tactic|walk_at "s")=>do
 let m<-("IN.run af.eq_1 af.eq_2 af.eq_3 af.eq_4 af.eq_5 af.eq_6 af.eq_7 af.eq_8 af.eq_9 af.eq_10 af.eq_11 af.eq_12 af.eq_13 af.eq_16 af.eq_18 af.eq_19 evV ev.eq_1 ev.eq_2 ev.eq_3 ev.eq_4 ev.eq_5 ev.eq_6 ev.eq_7 ev.eq_8 ev.eq_9 ev.eq_10 ev.eq_11 ev.eq_12 ev.eq_13 ev.eq_14 ev.eq_15 ev.eq_16 ev.eq_17 ev.eq_18 ev.eq_19 ev.eq_20 ev.eq_21 ev.eq_23 evA evT evI evB aQ ah aM List.modify_zero_cons List.modify_succ_cons List.modify_nil kp aq bx fb ao aO gu List.set_cons_zero List.set_cons_succ List.set_nil List.getElem?_cons_zero List.getElem?_cons_succ List.length_cons List.length_nil Nat.reduceAdd Nat.reduceLT Nat.reduceSub Nat.reduceLeDiff Nat.zero_add Nat.zero_lt_succ if_true if_false Bool.not_true Bool.not_false Bool.true_and Bool.false_and Bool.and_true Bool.and_false Bool.true_or Bool.false_or Bool.or_true Bool.or_false and_self true_and and_true Bool.false_eq_true eh bc fS iJ qM nE ri i6 oh cL cZ cI fnR bq Rs.val Ow.D eS cz List.replicate List.cons_append List.nil_append List.map_cons List.map_nil slD asI m_ oq n5 nc ky nW m9 nB nC kM lC Option.map_some decide_true decide_false List.all_cons List.all_nil tks dM List.append_nil reduceCtorEq ite_self".splitOn " ").toArray.mapM fun s=>`(Lean.Parser.Tactic.simpLemma|$(Lean.mkIdent s.toName):ident)
 `(tactic|simp only [*,$m,*])
local macro_rules|`(tactic|walk_at "r")=>`(tactic|(walk_at "s";try rfl))
noncomputable def dZ (n c:String):Bool:=n==c||(n=="bool"&&c=="int")
noncomputable def iN:List String:=["NoneType","bool","int","str","tuple","list","dict"]
noncomputable def i9:List String:=["int","bool","list","tuple","str","dict"]
structure GA (G:Prg) (C:Addr):Prop where
 isw:G.defs "is_whole"=some (none,P.ip)
 w5:G.fn "is_whole"=some ("is_whole":Str)
 prd:G.defs "product"=some (none,P.product)
 Bf:G.fn "product"=some ("product":Str)
 are:G.defs "are_rounds"=some (none,P.fQ)
 AB:G.fn "are_rounds"=some ("are_rounds":Str)
 least:G.glob "LEAST_ROUND"=some (.int 2)
 most:G.glob "MOST_MEMBERS"=some (.int 144)
 yU:G.glob "int"=some (.ty "int")
 tY:G.glob "bool"=some (.ty "bool")
 zc:G.glob "list"=some (.ty "list")
 qY:G.glob "tuple"=some (.ty "tuple")
 kit:∀n∈iN,∀c∈i9,G.kit (.ty n) (.ty c)=some (dZ n c)
 ini:G.defs "Rounds.__init__"=some (some C,P.c9)
 qL:G.fn "Rounds"=none∧G.ini "Rounds"=some (C,("Rounds.__init__":Str))
 fok:G.fok C "rounds"=true
section
variable {G:Prg} {C:Addr} {n:Nat}
theorem sZ {i:Int} (A:GA G C):kal G (n+1) "is_whole" [.int i]=some (.ok (.bl true)):=by
 refine aK A.isw ⟨rfl,rfl⟩ rfl (a9 ?_)
 have h1:=A.kit "int" (by decide) "int" (by decide)
 have h2:=A.kit "int" (by decide) "bool" (by decide)
 have e1:dZ "int" "int"=true:=by decide
 have e2:dZ "int" "bool"=false:=by decide
 have:=A.yU
 have:=A.tY
 walk_at "s"
theorem oP {t:D} {ns:List Int} (A:GA G C) (hs:itD t=some (ns.map .int)) (sm:Sm ns):kal G (n+1) "product" [t]=some (.ok (.int (prod ns))):=by
 refine aK A.prd ⟨rfl,rfl⟩ (ρ0:=[.val t,.nil,.nil]) rfl ?_
 refine st (by walk_at "r") ?_
 refine st (by walk_at "r") ?_
 refine st (eL (g:=D.int) (fun done=>[.val t,.val (.int (prod done)),.any]) ns (by walk_at "s") rfl fun done a rest e=>?_) ?_
 ·refine ⟨_,by walk_at "r",?_⟩
  have h:=e_ (i:=prod done) (j:=a) (by have:=sm a (by rw [e];simp);omega)
  refine st (by walk_at "r") (st (by walk_at "r") ?_)
  rw [cm,pX]
 ·exact a9 (by walk_at "s")
theorem Sq.it {t:D} {xs:List D} (q:aP t=some xs):itD t=some xs:=by
 cases t<;>first|(cases q;done)|exact q
theorem y9 {t:D} {xs:List D} (q:aP t=some xs):b_ G t (.tup [.ty "list",.ty "tuple"])=some true:=by
 cases t<;>first|(cases q;done)|rfl
theorem ze {t:D} {ns:List Int} (A:GA G C) (q:aP t=some (ns.map .int)) (hl:ns.length<=1000) (b:Big ns):kal G (n+2) "are_rounds" [t]=some (.ok (.bl (decide (prod ns<=144)))):=by
 refine aK A.are ⟨rfl,rfl⟩ (ρ0:=[.val t]) rfl ?_
 have h1:=y9 (G:=G) q
 have h2:=A.zc
 have h3:=A.qY
 have h4:=A.Bf
 have h5:=A.most
 have h6:=oP (n:=n) A (Sq.it q) b.sm
 have hz:(2:Nat)<=sizeLine:=by decide
 refine st (ρ':=[.val t]) (by walk_at "s") ?_
 have h7:ev G (kal G (n+1)) (.comp 1 [] (.nm 0) (.var 0) (.lit (.bl true)) (.emit (.and (.fn "is_whole" [(.var 0)]) (.cmp .ge (.var 0) (.gl "LEAST_ROUND"))))) [.val t]=some (.lst ((ns.map fun _=>true).map .bl)):=by
  rw [List.map_map]
  refine bB (g:=D.int) (by simp only [evI,aQ,List.getElem?_cons_zero];exact Sq.it q) rfl (Nat.le_trans hl (by decide)) fun a ha=>⟨_,rfl,?_⟩
  have e1:=A.w5
  have e2:=sZ (i:=a) (n:=n) A
  have e3:=A.least
  have e4:decide (2<=a)=true:=decide_eq_true (b a ha).1
  walk_at "s"
  rfl
 have h8:((ns.map fun _=>true).all id)=true:=by simp
 refine st (ρ':=[.val t]) (by
  have:=dv (ns.map fun _=>true)
  walk_at "s") ?_
 exact a9 (by walk_at "s")
theorem kX {t:D} {ns:List Int} (A:GA G C) (q:aP t=some (ns.map .int)) (g:Good ns):kal G (n+3) "Rounds.__init__" [t]=some (.ok (grp C ns)):=by
 refine mM A.ini ⟨rfl,rfl⟩ (ρ0:=[.val t]) rfl (fs:=rf ns) (a:=0) (b:=0) (ρ:=[.val t]) ?_
 have h1:=A.AB
 have h2:=ze (n:=n) A q g.bA g.big
 rw [decide_eq_true g.le] at h2
 refine st (ρ':=[.new C 0 0 [],.val t]) (by walk_at "s") ?_
 have h3:=A.fok
 have h4:bx (ns.map .int)=true:=c5 ns
 have h5:(0:Nat)<1000:=by decide
 refine st (by walk_at "r") cm
structure GB (G:Prg) (C:Addr):Prop where
 A:GA G C
 mem:G.defs "Rounds.members"=some (none,P.jl)
 By:G.mth C "members"=some ("Rounds.members":Str)
 has:G.defs "Rounds.has"=some (none,P.c4)
 wA:G.mth C "has"=some ("Rounds.has":Str)
 evn:G.defs "Rounds.is_even"=some (none,P.jD)
 Bz:G.mth C "is_even"=some ("Rounds.is_even":Str)
 siz:G.defs "Group.size"=some (none,P.oE)
 Bx:G.mth C "size"=some ("Group.size":Str)
theorem y7 {ns:List Int}:(rf ns).lookup ("rounds":Str)=some (tupI ns):=rfl
theorem g9 (ks ns:List Int):bo (ks.map .int) (ns.map .int)=(ks.zip ns).map fun p=>.tup [.int p.1,.int p.2]:=ki
theorem zI {ns ks:List Int} (A:GA G C) (hd:G.defs "Rounds.has"=some (none,P.c4)) (g:Good ns) (hl:ks.length=ns.length):kal G (n+2) "Rounds.has" [grp C ns,tupI ks]=some (.ok (.bl (hasB ns ks))):=by
 refine aK hd ⟨rfl,rfl⟩ (ρ0:=[.val (grp C ns),.val (tupI ks)]) rfl ?_
 have h1:=A.fok
 have h2:=A.qY
 have h3:=A.kit "tuple" (by decide) "tuple" (by decide)
 have e3:dZ "tuple" "tuple"=true:=by decide
 have h4:=@y7 ns
 have h5:decide ((ks.length:Int)=(ns.length:Int))=true:=by rw [hl];simp
 have hf:cI G (grp C ns) "rounds"=some (tupI ns):=by unfold grp;simp only [cI,h1,if_true,h4]
 refine st (ρ':=[.val (grp C ns),.val (tupI ks)]) (by
  simp only [af.eq_13,evT,evA,ev.eq_1,ev.eq_3,ev.eq_18,ev.eq_19,ah,aM,List.modify_zero_cons,List.modify_succ_cons,aQ,List.getElem?_cons_zero,List.getElem?_cons_succ,hf,h2,ky,h3,e3,cL,iJ,Bool.not_true,bc,List.length_map,h5]
  rfl) ?_
 have e:hasB ns ks=((ks.zip ns).map fun p=>true&&(decide (0<=p.1)&&decide (p.1<p.2))).all id:=by simp [hasB,List.all_map,Function.comp_def]
 have key:ev G (kal G (n+1)) (.comp 2 [] (.tp [(.nm 0),(.nm 1)]) (.blt .zip [(.var 1),(.fld (.var 0) "rounds")]) (.lit (.bl true)) (.emit (.and (.fn "is_whole" [(.var 0)]) (.chn (.lit (.int 0)) (.var 0) (.var 1))))) [.val (grp C ns),.val (tupI ks)]=some (.lst (((ks.zip ns).map fun p=>true&&(decide (0<=p.1)&&decide (p.1<p.2))).map .bl)):=by
  rw [List.map_map]
  refine bB (g:=fun p:Int×Int=>.tup [.int p.1,.int p.2]) (by simp only [evI,evA,ev.eq_1,ev.eq_18,aQ,List.getElem?_cons_zero,List.getElem?_cons_succ,hf,cg,iJ,g9]) rfl ?_ fun p hp=>⟨[.val (.int p.1),.val (.int p.2)],rfl,?_⟩
  ·rw [List.length_zip]
   have:=g.len
   exact Nat.le_trans (show _<=1000 by omega) (by decide)
  ·have e1:=A.w5
   have e2:=sZ (i:=p.1) (n:=n) A
   walk_at "r"
 have hb:=dv ((ks.zip ns).map fun p=>true&&(decide (0<=p.1)&&decide (p.1<p.2)))
 refine a9 ?_
 have e5:ah [1,0] [.val (grp C ns),.val (tupI ks)]=[.val (grp C ns),.val (tupI ks)]:=rfl
 simp only [af.eq_11,evV,ev.eq_19,evA,e5,key,cL,fS,hb,e]
end
structure TB (G:Prg) (C CG CTb:Addr):Prop where
 B:GB G C
 cG:G.glob "Group"=some (.cl CG)
 cR:G.glob "Rounds"=some (.cl C)
 kG:G.kit (.cl C) (.cl CG)=some true
 kR:G.kit (.cl C) (.cl C)=some true
 ml:G.glob "MOST_LOWER"=some (.int 16)
 mu:G.glob "MOST_UPPER"=some (.int 9)
 nl:G.defs "need_lower"=some (none,P.n9)
 fnl:G.fn "need_lower"=some ("need_lower":Str)
 nu:G.defs "need_upper"=some (none,P.ot)
 fnu:G.fn "need_upper"=some ("need_upper":Str)
 pr:G.defs "pairs_of"=some (none,P.qZ)
 fpr:G.fn "pairs_of"=some ("pairs_of":Str)
 pk:G.defs "picked_carries"=some (none,P.jn)
 fpk:G.fn "picked_carries"=some ("picked_carries":Str)
 ini:G.defs "Table.__init__"=some (some CTb,P.jy)
 qL:G.fn "Table"=none∧G.ini "Table"=some (CTb,("Table.__init__":Str))
 flo:G.fok CTb "lower"=true
 fup:G.fok CTb "upper"=true
 fke:G.fok CTb "kept"=true
section
variable {G:Prg} {C CG CTb:Addr} {n:Nat}
theorem fN (ks:List Int):aq (tupI ks)=true:=c5 ks
end
theorem sF {a b:Int} {x y:List Int}:eqD (tupI (a::x)) (tupI (b::y))=((a==b)&&eqD (tupI x) (tupI y)):=rfl
theorem ij:∀(a b:List Int),eqD (tupI a) (tupI b)=decide (a=b)
 |[],[]=>rfl
 |a::x,[]=>rfl
 |[],b::y=>rfl
 |a::x,b::y=>by
  rw [sF,ij x y]
  by_cases h:a=b
  ·subst h;simp
  ·simp [h]
theorem kl (a b:List Int):gD (tupI a) (tupI b)=true:=by
 unfold gD
 rw [iY,iY,iK,iK];rfl
theorem gT (a b:List Int):bc .eq (tupI a) (tupI b)=some (decide (a=b)):=by
 show (if gD (tupI a) (tupI b) then some (eqD (tupI a) (tupI b)) else none)=_
 rw [kl,ij];rfl
theorem d5 (a b:List Int):bc .ne (tupI a) (tupI b)=some (!decide (a=b)):=by
 show (if gD (tupI a) (tupI b) then some (!eqD (tupI a) (tupI b)) else none)=_
 rw [kl,ij];rfl
section
variable {G:Prg} {C CG CTb:Addr} {n:Nat}
theorem vW {i:Int} (A:GA G C) (hd:G.defs "_law_whole"=some (none,L.whole)):kal G (n+1) "_law_whole" [.int i]=some (.ok (.bl true)):=by
 refine aK hd ⟨rfl,rfl⟩ rfl (a9 ?_)
 have h1:=A.kit "int" (by decide) "int" (by decide)
 have h2:=A.kit "int" (by decide) "bool" (by decide)
 have e1:dZ "int" "int"=true:=by decide
 have e2:dZ "int" "bool"=false:=by decide
 have:=A.yU
 have:=A.tY
 walk_at "s"
theorem jP {key:Str} {ns:List Int} {c:Int} (hd:G.defs key=some (none,L.element)) (g:Good ns):kal G (n+1) key [tupI ns,.int c]=some (.ok (tupI (elI ns c))):=by
 refine aK hd ⟨rfl,rfl⟩ (ρ0:=[.val (tupI ns),.val (.int c),.nil,.nil]) rfl ?_
 refine st (ρ':=[.val (tupI ns),.val (.int c),.owx (.l []),.nil]) rfl ?_
 refine st (ρ':=[.val (tupI ns),.val (.int c),.owx (.l []),.any]) rfl ?_
 refine st (eL (g:=D.int) (fun done=>[.val (tupI ns),.val (.int (bW c done).1),.owx (.l ((bW c done).2.map D.int)),.any]) ns rfl rfl fun done a rest e=>?_) ?_
 ·refine ⟨[.val (tupI ns),.val (.int (bW c done).1),.owx (.l ((bW c done).2.map D.int)),.val (.int a)],rfl,?_⟩
  rw [jY]
  have hl:=lG c done
  generalize bW c done=s at hl ⊢
  have ha:a∈ns:=by rw [e];simp
  have h2:=g.ge a ha
  have h3:=g.lt a ha
  have p1:0<a:=by omega
  have p2:0<a∧a.toNat<1073741824:=by omega
  have e6:(s.2.map D.int).length<sizeLine:=by
   rw [List.length_map,hl]
   have:=g.len
   have:done.length<=ns.length:=by rw [e];simp
   exact Nat.lt_of_le_of_lt (show done.length<=7 by omega) (by decide)
  have e7:s.2.map D.int++[D.int (s.1%a)]=(s.2++[s.1%a]).map D.int:=by simp
  have em:est s a=(s.1 / a,s.2++[s.1%a]):=rfl
  rw [em]
  exact st (by walk_at "r") (st (by walk_at "r") (st (by walk_at "r") cm))
 ·exact a9 (by walk_at "r")
end
section
variable {G:Prg} {cl:Str->List D->Option Rs} {ρ ρ':Rho} {α β:Type} {t:Tg} {b:List CS'} {g:α->D} {it:CE} {L:List Nat}
theorem xR {bb:Rho->Option Oc} (I:List α->Rho->Prop) (all:List α) (ρ0:Rho) (h0:I [] ρ0) (h:∀(done:List α) (a:α) (rest:List α) (ρ:Rho),all=done++a::rest->I done ρ->∃ρ1 ρ2,ao t (g a) ρ=some ρ1∧bb ρ1=some (.nx ρ2)∧I (done++[a]) ρ2):
  ∃ρ',forL t bb (all.map g) ρ0=some (.nx ρ')∧I all ρ':=by
 have go:∀(l done:List α) (ρ:Rho),all=done++l->I done ρ->∃ρ',forL t bb (l.map g) ρ=some (.nx ρ')∧I (done++l) ρ':=by
  intro l
  induction l with
  |nil=>intro done ρ _ hi;rw [List.append_nil];exact ⟨ρ,rfl,hi⟩
  |cons a l ih=>
   intro done ρ e hi
   obtain ⟨ρ1,ρ2,h1,h2,h3⟩:=h done a l ρ e hi
   obtain ⟨ρ',z1,z2⟩:=ih (done++[a]) ρ2 (by rw [e,List.append_assoc];rfl) h3
   refine ⟨ρ',?_,by rw [List.append_assoc] at z2;exact z2⟩
   rw [List.map_cons,forL,h1]
   dsimp only
   rw [h2]
   exact z1
 exact go all [] ρ0 rfl h0
theorem yy (I:List α->Rho->Prop) (all:List α) {ρ0:Rho} (hi:evI G cl it (ah L ρ)=some (all.map g)) (hr:ah L ρ=ρ0) (h0:I [] ρ0)
  (h:∀(done:List α) (a:α) (rest:List α) (ρ:Rho),all=done++a::rest->I done ρ->∃ρ1 ρ2,ao t (g a) ρ=some ρ1∧IN.run G cl b ρ1=some (.nx ρ2)∧I (done++[a]) ρ2):∃ρ',IN.af G cl (.for t it L b) ρ=some (.nx ρ')∧I all ρ':=by
 rw [IN.af,hi]
 dsimp only
 rw [hr]
 exact xR I all ρ0 h0 h
end
section
variable {G:Prg} {C CG CTb:Addr} {n:Nat}
noncomputable def aH (a b:Int):Int:=Int.gcd a b
theorem vB {cl:Str->List D->Option Rs}:∀(f:Nat) (a b:Int),0<=a->0<=b->b.toNat<f->fV (fun ρ=>evT G cl (.cmp .ne (.var 1) (.lit (.int 0))) (ah [1] ρ)) (IN.run G cl [(.par 0 1 (.var 1) (.bin .mod (.var 0) (.var 1)) [0,1])]) f [.val (.int a),.val (.int b)]=some (.nx [.val (.int (aH a b)),.val (.int 0)]):=by
 intro f
 induction f with
 |zero=>intro a b _ _ h;omega
 |succ f ih=>
  intro a b ha hb h
  rw [fV]
  by_cases hz:b=0
  ·subst hz
   have e:aH a 0=a:=by unfold aH;rw [Int.gcd_zero_right];omega
   rw [e]
   rfl
  ·have h1:evT G cl (.cmp .ne (.var 1) (.lit (.int 0))) (ah [1] [.val (.int a),.val (.int b)])=some true:=by
    have:decide (b=0)=false:=decide_eq_false hz
    simp only [evT,ev.eq_1,ev.eq_2,ah,aM,List.modify_zero_cons,List.modify_succ_cons,aQ,List.getElem?_cons_succ,List.getElem?_cons_zero,bc,this,Bool.not_false]
   rw [h1]
   dsimp only
   have hp:0<b:=by omega
   have h2:IN.run G cl [(.par 0 1 (.var 1) (.bin .mod (.var 0) (.var 1)) [0,1])] [.val (.int a),.val (.int b)]=some (.nx [.val (.int b),.val (.int (a%b))]):=by
    refine st (ρ':=[.val (.int b),.val (.int (a%b))]) ?_ cm
    simp only [af.eq_4,ev.eq_1,ev.eq_4,ah,aM,List.modify_zero_cons,List.modify_succ_cons,aQ,List.getElem?_cons_succ,List.getElem?_cons_zero,eh,hp,if_true]
    rfl
   rw [h2]
   dsimp only
   have m1:0<=a%b:=Int.emod_nonneg _ (by omega)
   have m2:a%b<b:=Int.emod_lt_of_pos _ hp
   rw [ih b (a%b) hb m1 (by omega)]
   have e:aH b (a%b)=aH a b:=by
    obtain ⟨m,rfl⟩:=Int.eq_ofNat_of_zero_le ha
    obtain ⟨l,rfl⟩:=Int.eq_ofNat_of_zero_le hb
    show ((Nat.gcd l (m%l):Nat):Int)=(Nat.gcd m l:Nat)
    rw [Nat.gcd_comm l,←Nat.gcd_rec,Nat.gcd_comm]
   rw [e]
theorem ti {key:Str} {a b:Int} (hd:G.defs key=some (none,L.gcd)) (ha:0<=a) (hb:0<=b):kal G (n+1) key [.int a,.int b]=some (.ok (.int (aH a b))):=by
 refine aK hd ⟨rfl,rfl⟩ (ρ0:=[.val (.int a),.val (.int b)]) rfl ?_
 refine st (ρ':=[.val (.int (aH a b)),.val (.int 0)]) ?_ (a9 (by rfl))
 rw [af.eq_15]
 refine vB _ a b ha hb ?_
 show b.toNat<(a.natAbs+(b.natAbs+0))+1000000
 omega
end
section
variable {G:Prg} {cl:Str->List D->Option Rs} {ρ ρ':Rho} {s:CS'} {r b:List CS'} {α:Type} {t:Tg} {g:α->D} {it:CE} {L:List Nat}
theorem mv {i:Int}:aq (.int i)=true:=rfl
theorem mI {i:Bool}:aq (.bl i)=true:=rfl
theorem mn:aq .non=true:=rfl
theorem mY {i:Str}:aq (.str i)=true:=rfl
theorem eN {C:Addr} {ns:List Int}:aq (grp C ns)=true:=by
 show (aq (tupI ns)&&true)=true
 rw [show aq (tupI ns)=true from c5 ns];rfl
theorem sV {i j:Int}:bc .lt (.int i) (.int j)=some (decide (i<j)):=rfl
theorem sP {i j:Int}:bc .le (.int i) (.int j)=some (decide (i<=j)):=rfl
theorem tK {i j:Int}:bc .gt (.int i) (.int j)=some (decide (j<i)):=rfl
theorem t_ {i j:Int}:bc .ge (.int i) (.int j)=some (decide (j<=i)):=rfl
theorem tV {i j:Int}:bc .eq (.int i) (.int j)=some (decide (i=j)):=rfl
theorem sU {i j:Int}:bc .ne (.int i) (.int j)=some (!decide (i=j)):=rfl
noncomputable def nxt:Option Oc->(Rho->Option Oc)->Option Oc
 |some (.nx ρ),k=>k ρ
 |o,_=>o
theorem tP:IN.run G cl (s::r) ρ=nxt (IN.af G cl s ρ) (IN.run G cl r):=by
 rw [IN.run]
 cases IN.af G cl s ρ with
 |none=>rfl
 |some o=>cases o<;>rfl
theorem qv {k:Rho->Option Oc}:nxt (some (.nx ρ)) k=k ρ:=rfl
theorem o7 {k:Rho->Option Oc} {d:D}:nxt (some (.rt d)) k=some (.rt d):=rfl
theorem pv {k:Rho->Option Oc} {c:Ow}:nxt (some (.fr c)) k=some (.fr c):=rfl
theorem qG {k:Rho->Option Oc} {d:D}:nxt (some (.xc ρ d)) k=some (.xc ρ d):=rfl
end
end PL
open PySem IN CT
noncomputable def L.sum:IN.Def:={slots:=3,aw:=3,body:=[
(.ret (.blt .tuple [(.comp 3 [] (.tp [(.nm 0),(.nm 1),(.nm 2)]) (.blt .zip [(.var 1),(.var 2),(.var 0)]) (.lit (.bl true)) (.emit (.bin .mod (.bin .add (.var 0) (.var 1)) (.var 2))))]) [1,2,0])]}
noncomputable def L.gi:IN.Def:={slots:=3,aw:=3,body:=[
(.ret (.blt .tuple [(.comp 2 [1] (.tp [(.nm 0),(.nm 1)]) (.blt .zip [(.var 2),(.var 0)]) (.lit (.bl true)) (.emit (.bin .mod (.bin .mul (.var 2) (.var 0)) (.var 1))))]) [1,2,0])]}
noncomputable def L.drawn:IN.Def:={slots:=4,aw:=2,body:=[
(.asg (.nm 2) (.lst []) []),
(.fgt [3]),
(.for (.nm 3) (.var 0) [0] [(.app 2 (.bin .mod (.var 1) (.var 3)) [1,3]),(.asg (.nm 1) (.bin .fdiv (.var 1) (.var 3)) [1,3]),(.fgt [3])]),
(.ret (.blt .tuple [(.var 2)]) [2])]}
namespace PL
open PySem PySem.Spec L2 CT IN
open PyProof.Rows hiding St
local macro_rules|`(tactic|dsimp? [$ls,*])=>do
 let m<-("tP cm qv o7 pv qG af.eq_1 af.eq_2 af.eq_3 af.eq_4 af.eq_5 af.eq_6 af.eq_7 af.eq_8 af.eq_9 af.eq_10 af.eq_11 af.eq_12 af.eq_13 af.eq_16 af.eq_18 af.eq_19 evV ev.eq_1 ev.eq_2 ev.eq_3 ev.eq_4 ev.eq_5 ev.eq_6 ev.eq_7 ev.eq_8 ev.eq_9 ev.eq_10 ev.eq_11 ev.eq_12 ev.eq_13 ev.eq_14 ev.eq_15 ev.eq_16 ev.eq_17 ev.eq_18 ev.eq_19 ev.eq_20 ev.eq_21 ev.eq_23 evA evT evI evB aQ ah aM List.modify_zero_cons List.modify_succ_cons List.modify_nil kp mv mI mn mY fN eN ao aO gu List.set_cons_zero List.set_cons_succ List.set_nil List.getElem?_cons_zero List.getElem?_cons_succ List.length_cons List.length_nil Nat.reduceAdd Nat.reduceLT Nat.reduceSub Nat.reduceLeDiff Nat.zero_add Nat.zero_lt_succ if_true if_false Bool.not_true Bool.not_false Bool.true_and Bool.false_and Bool.and_true Bool.and_false Bool.true_or Bool.false_or Bool.or_true Bool.or_false and_self true_and and_true Bool.false_eq_true eh sV sP tK t_ tV sU fS iJ qM nE ri i6 oh cL fnR Rs.val Ow.D eS cz List.replicate List.cons_append List.nil_append List.map_cons List.map_nil slD asI m_ oq n5 nc ky nW m9 nB nC kM lC Option.map_some decide_true decide_false List.all_cons List.all_nil tks dM List.append_nil reduceCtorEq ite_self".splitOn " ").toArray.mapM fun s=>`(Lean.Parser.Tactic.simpLemma|$(Lean.mkIdent s.toName):ident)
 let a:=(ls.getElems.map fun x=>(.mk x.raw:Lean.TSyntax `Lean.Parser.Tactic.simpLemma))++m
 `(tactic|simp only [$a,*])
section
variable {G:Prg} {C:Addr} {n:Nat}
theorem gL {a b:Int} (h:2<=a):0<aH a b:=by
 unfold aH
 have:0<Int.gcd a b:=Int.gcd_pos_of_ne_zero_left b (by omega)
 omega
end
section
variable {G:Prg} {C:Addr} {n:Nat}
theorem pz {x y z:D} {xs ys zs:List D} (h1:aP x=some xs) (h2:aP y=some ys) (h3:aP z=some zs):cg .zip [x,y,z]=some (a8 xs ys zs):=by
 show (match aP x,aP y,aP z with|some xs,some ys,some zs=>some (a8 xs ys zs)|_,_,_=>none)=_
 rw [h1,h2,h3]
theorem yL {key:Str} {ns x y:List Int} (hd:G.defs key=some (none,L.sum)) (g:Good ns):kal G (n+1) key [tupI ns,tupI x,tupI y]=some (.ok (tupI (az ns x y))):=by
 refine aK hd ⟨rfl,rfl⟩ (ρ0:=[.val (tupI ns),.val (tupI x),.val (tupI y)]) rfl (a9 ?_)
 have hz:cg .zip [tupI x,tupI y,tupI ns]=some ((x.zip (y.zip ns)).map fun p=>D.tup [.int p.1,.int p.2.1,.int p.2.2]):=by rw [←f9];exact pz rfl rfl rfl
 have key:ev G (kal G n) (.comp 3 [] (.tp [(.nm 0),(.nm 1),(.nm 2)]) (.blt .zip [(.var 1),(.var 2),(.var 0)]) (.lit (.bl true)) (.emit (.bin .mod (.bin .add (.var 0) (.var 1)) (.var 2)))) [.val (tupI ns),.val (tupI x),.val (tupI y)]=some (.lst ((x.zip (y.zip ns)).map fun p=>D.int ((p.1+p.2.1)%p.2.2))):=by
  refine bB (g:=fun p:Int×Int×Int=>D.tup [.int p.1,.int p.2.1,.int p.2.2]) (by simp only [evI,evA,ev.eq_1,aQ,List.getElem?_cons_zero,List.getElem?_cons_succ,hz]) rfl ?_ fun p hp=>⟨[.val (.int p.1),.val (.int p.2.1),.val (.int p.2.2)],rfl,?_⟩
  ·have:=g.bA
   rw [List.length_zip,List.length_zip]
   exact Nat.le_trans (show min x.length (min y.length ns.length)<=1000 by omega) (by decide)
  ·have hp2:0<p.2.2:=by have:=g.ge _ (lA hp);omega
   simp only [ev.eq_4,ev.eq_1,aQ,List.getElem?_cons_zero,List.getElem?_cons_succ,eh,hp2,if_true]
 simp only [af.eq_11,evV,ev.eq_19,evA,ah,aM,List.modify_zero_cons,List.modify_succ_cons,key,cL,fS]
 unfold az tupI
 rw [List.map_map]
 rfl
theorem sd {key:Str} {ns x:List Int} {m:Int} (hd:G.defs key=some (none,L.gi)) (g:Good ns) (hx:El ns x):kal G (n+1) key [tupI ns,.int m,tupI x]=some (.ok (tupI (aE ns m x))):=by
 refine aK hd ⟨rfl,rfl⟩ (ρ0:=[.val (tupI ns),.val (.int m),.val (tupI x)]) rfl (a9 ?_)
 have hz:cg .zip [tupI x,tupI ns]=some ((x.zip ns).map fun p=>D.tup [.int p.1,.int p.2]):=by rw [←g9];exact iU rfl rfl
 have key:ev G (kal G n) (.comp 2 [1] (.tp [(.nm 0),(.nm 1)]) (.blt .zip [(.var 2),(.var 0)]) (.lit (.bl true)) (.emit (.bin .mod (.bin .mul (.var 2) (.var 0)) (.var 1)))) [.val (tupI ns),.val (.int m),.val (tupI x)]=some (.lst ((x.zip ns).map fun p=>D.int (m*p.1%p.2))):=by
  refine bB (g:=fun p:Int×Int=>D.tup [.int p.1,.int p.2]) (by simp only [evI,evA,ev.eq_1,aQ,List.getElem?_cons_zero,List.getElem?_cons_succ,hz]) rfl ?_ fun p hp=>⟨[.val (.int p.1),.val (.int p.2),.val (.int m)],rfl,?_⟩
  ·have:=g.bA
   rw [List.length_zip]
   exact Nat.le_trans (show min x.length ns.length<=1000 by omega) (by decide)
  ·have hp2:0<p.2:=by have:=g.ge _ (List.of_mem_zip hp).2;omega
   have hm:bE m p.1=true:=e_ (by have:=El.small g hx _ (List.of_mem_zip hp).1;omega)
   simp only [ev.eq_4,ev.eq_1,aQ,List.getElem?_cons_zero,List.getElem?_cons_succ,eh,hp2,hm,if_true]
 simp only [af.eq_11,evV,ev.eq_19,evA,ah,aM,List.modify_zero_cons,List.modify_succ_cons,key,cL,fS]
 unfold aE tupI
 rw [List.map_map]
 rfl
end
end PL
open PySem IN CT
noncomputable def P.eX:IN.Def:={slots:=4,aw:=2,body:=[
(.asg (.nm 2) (.mth (.var 0) "nought" []) [0]),
(.fgt [3]),
(.for (.nm 3) (.var 1) [1] [(.exp (.mth (.var 0) "need" [(.var 3)]) [0,3]),(.asg (.nm 2) (.mth (.var 0) "sum_of" [(.var 2),(.var 3)]) [0,2,3]),(.fgt [3])]),
(.ret (.var 2) [2])]}
noncomputable def P.eg:IN.Def:={slots:=2,aw:=1,body:=[
(.asg (.nm 1) (.blt .len [(.fld (.var 0) "rounds")]) [0]),
(.ret (.comp 1 [1] (.nm 0) (.blt .range [(.var 1)]) (.lit (.bl true)) (.emit (.blt .tuple [(.comp 1 [0] (.nm 0) (.blt .range [(.var 1)]) (.lit (.bl true)) (.emit (.ife (.cmp .eq (.var 0) (.var 1)) (.lit (.int 1)) (.lit (.int 0)))))]))) [1])]}
noncomputable def P.dz:IN.Def:={slots:=2,aw:=2,body:=[
(.ret (.and (.blt .isin [(.var 1),(.gl "Rounds")]) (.cmp .eq (.fld (.var 0) "rounds") (.fld (.var 1) "rounds"))) [0,1])]}
noncomputable def P.fM:IN.Def:={slots:=3,aw:=3,body:=[
(.ret (.and (.mth (.var 0) "has" [(.var 2)]) (.cmp .eq (.mth (.var 0) "times" [(.var 1),(.var 2)]) (.mth (.var 0) "nought" []))) [1,2,0])]}
noncomputable def P.eU:IN.Def:={slots:=5,aw:=3,body:=[
(.fgt [3,4]),
(.for (.tp [(.nm 3),(.nm 4)]) (.blt .enum [(.fld (.var 0) "rounds")]) [0] [(.ife (.or (.cmp .ge (.var 3) (.blt .len [(.var 2)])) (.nt (.fn "is_image" [(.var 1),(.var 4),(.ix (.var 2) (.var 3))]))) [1,4,2,3] [(.rse "NoMap" [(.var 3)] [3])] []),(.fgt [3,4])]),
(.ife (.cmp .gt (.blt .len [(.var 2)]) (.blt .len [(.fld (.var 0) "rounds")])) [2,0] [(.rse "NoMap" [(.blt .len [(.fld (.var 0) "rounds")])] [0])] [])]}
noncomputable def P.eB:IN.Def:={slots:=4,aw:=4,init:=true,body:=[
(.exp (.fn "need_images" [(.var 1),(.var 2),(.var 3)]) [1,2,3]),
(.fR "source" (.var 1) [1]),
(.fR "goal" (.var 2) [2]),
(.fR "images" (.blt .tuple [(.var 3)]) [3])]}
noncomputable def P.gO:IN.Def:={slots:=2,aw:=2,body:=[
(.exp (.mth (.fld (.var 0) "source") "need" [(.var 1)]) [0,1]),
(.ret (.mth (.fld (.var 0) "goal") "total" [(.comp 2 [0] (.tp [(.nm 0),(.nm 1)]) (.blt .zip [(.var 1),(.fld (.var 0) "images")]) (.lit (.bl true)) (.emit (.mth (.fld (.var 2) "goal") "times" [(.var 0),(.var 1)])))]) [1,0])]}
noncomputable def P.fO:IN.Def:={slots:=2,aw:=2,body:=[
(.exp (.fn "need_like" [(.fld (.var 1) "goal"),(.fld (.var 0) "source")]) [1,0]),
(.ret (.fn "Map" [(.fld (.var 1) "source"),(.fld (.var 0) "goal"),(.comp 1 [0] (.nm 0) (.fld (.var 1) "images") (.lit (.bl true)) (.emit (.mth (.var 1) "led" [(.var 0)])))]) [0,1])]}
noncomputable def P.dH:IN.Def:={slots:=2,aw:=2,body:=[
(.ife (.nt (.mth (.var 0) "like" [(.var 1)])) [0,1] [(.rse "NotLike" [] [])] [])]}
noncomputable def L.spread:IN.Def:={slots:=5,aw:=2,body:=[
(.asg (.nm 2) (.bin .sub (.blt .len [(.var 0)]) (.lit (.int 1))) [0]),
(.ife (.and (.cmp .gt (.var 2) (.lit (.int 0))) (.cmp .eq (.bin .mod (.ix (.var 0) (.lit (.int 0))) (.lit (.int 2))) (.lit (.int 1)))) [2,0] [(.ret (.bin .mod (.bin .shr (.ix (.var 0) (.bin .add (.lit (.int 1)) (.bin .mod (.var 1) (.var 2)))) (.bin .mul (.lit (.int 31)) (.bin .fdiv (.var 1) (.var 2)))) (.lit (.int 2147483648))) [0,1,2])] []),
(.asg (.nm 3) (.lit (.int 0)) []),
(.ife (.cmp .gt (.blt .len [(.var 0)]) (.lit (.int 0))) [0] [(.asg (.nm 3) (.ix (.var 0) (.bin .mod (.var 1) (.blt .len [(.var 0)]))) [1,0])] []),
(.asg (.nm 4) (.bin .mod (.bin .add (.bin .mul (.bin .mod (.var 3) (.lit (.int 1000000007))) (.lit (.int 48271))) (.bin .mul (.bin .mul (.bin .add (.var 1) (.lit (.int 3))) (.bin .add (.var 1) (.lit (.int 5)))) (.lit (.int 69621)))) (.lit (.int 2147483647))) [3,1]),
(.ret (.bin .mod (.bin .mul (.var 4) (.lit (.int 16807))) (.lit (.int 2147483629))) [4])]}
noncomputable def L.many:IN.Def:={slots:=3,aw:=3,body:=[
(.ret (.blt .tuple [(.comp 2 [1] (.tp [(.nm 0),(.nm 1)]) (.blt .zip [(.var 2),(.var 0)]) (.lit (.bl true)) (.emit (.bin .mod (.bin .mul (.var 2) (.var 0)) (.var 1))))]) [1,2,0])]}
noncomputable def L.mL:IN.Def:={slots:=2,aw:=2,body:=[
(.whl (.cmp .ne (.var 1) (.lit (.int 0))) [1] [(.par 0 1 (.var 1) (.bin .mod (.var 0) (.var 1)) [0,1])]),
(.ret (.var 0) [0])]}
noncomputable def L.group:IN.Def:={slots:=2,aw:=1,body:=[
(.asg (.nm 1) (.lst [(.tup [(.lit (.int 2))]),(.tup [(.lit (.int 4))]),(.tup [(.lit (.int 2)),(.lit (.int 2))]),(.tup [(.lit (.int 6))]),(.tup [(.lit (.int 12))]),(.tup [(.lit (.int 2)),(.lit (.int 4))]),(.tup [(.lit (.int 3)),(.lit (.int 9))]),(.tup [(.lit (.int 5))]),(.tup []),(.tup [(.lit (.int 144))]),(.tup [(.lit (.int 2)),(.lit (.int 3)),(.lit (.int 4))]),(.tup [(.lit (.int 8)),(.lit (.int 2))]),(.tup [(.lit (.int 10)),(.lit (.int 14))])]) []),
(.ret (.ix (.bin .add (.var 1) (.lst [(.tup [(.lit (.int 2)),(.lit (.int 2)),(.lit (.int 2)),(.lit (.int 3))])])) (.bin .mod (.var 0) (.lit (.int 14)))) [1,0])]}
noncomputable def L.image:IN.Def:={slots:=5,aw:=3,body:=[
(.asg (.nm 3) (.comp 1 [0] (.nm 0) (.var 1) (.lit (.bl true)) (.emit (.bin .fdiv (.var 0) (.fn "_law_divisor" [(.var 0),(.var 1)])))) [0,1]),
(.asg (.nm 4) (.fn "_law_drawn" [(.comp 1 [0] (.nm 0) (.var 1) (.lit (.bl true)) (.emit (.fn "_law_divisor" [(.var 0),(.var 1)]))),(.var 2)]) [0,1,2]),
(.ret (.blt .tuple [(.comp 2 [] (.tp [(.nm 0),(.nm 1)]) (.blt .zip [(.var 3),(.var 4)]) (.lit (.bl true)) (.emit (.bin .mul (.var 0) (.var 1))))]) [3,4])]}
noncomputable def L.led:IN.Def:={slots:=6,aw:=3,body:=[
(.asg (.nm 3) (.blt .tuple [(.comp 1 [] (.nm 0) (.var 0) (.lit (.bl true)) (.emit (.lit (.int 0))))]) [0]),
(.fgt [4,5]),
(.for (.tp [(.nm 4),(.nm 5)]) (.blt .zip [(.var 2),(.var 1)]) [2,1] [(.asg (.nm 3) (.fn "_law_sum" [(.var 0),(.var 3),(.fn "_law_many" [(.var 0),(.var 4),(.var 5)])]) [3,0,4,5]),(.fgt [4,5])]),
(.ret (.var 3) [3])]}
noncomputable def L.is:IN.Def:={slots:=3,aw:=3,body:=[
(.ife (.or (.nt (.blt .isin [(.var 1),(.gl "tuple")])) (.cmp .ne (.blt .len [(.var 1)]) (.blt .len [(.var 0)]))) [1,0] [(.ret (.lit (.bl false)) [])] []),
(.ret (.and (.blt .all [(.comp 1 [] (.nm 0) (.var 1) (.lit (.bl true)) (.emit (.fn "_law_whole" [(.var 0)])))]) (.cmp .eq (.var 1) (.var 2))) [1,2])]}
noncomputable def L.kinds:IN.Def:={slots:=2,aw:=1,body:=[
(.asg (.nm 1) (.lst [(.blt .isin [(.var 0),(.gl "NotLike")]),(.blt .isin [(.var 0),(.gl "NoCount")]),(.blt .isin [(.var 0),(.gl "NoElement")]),(.blt .isin [(.var 0),(.gl "NoHead")])]) [0]),
(.asg (.nm 1) (.bin .add (.var 1) (.lst [(.blt .isin [(.var 0),(.gl "NoPair")]),(.blt .isin [(.var 0),(.gl "NoKind")]),(.blt .isin [(.var 0),(.gl "TooMany")]),(.blt .isin [(.var 0),(.gl "NoLower")])])) [1,0]),
(.asg (.nm 1) (.bin .add (.var 1) (.lst [(.blt .isin [(.var 0),(.gl "NoUpper")]),(.blt .isin [(.var 0),(.gl "NoMap")]),(.blt .isin [(.var 0),(.gl "NoTower")]),(.blt .isin [(.var 0),(.gl "NoCarry")])])) [1,0]),
(.ret (.bin .add (.var 1) (.lst [(.blt .isin [(.var 0),(.gl "CarryError")]),(.blt .isin [(.var 0),(.gl "ValueError")])])) [1,0])]}
noncomputable def L.class:IN.Def:={slots:=2,aw:=1,body:=[
(.asg (.nm 1) (.lst [(.lit (.str "NotLike")),(.lit (.str "NoCount")),(.lit (.str "NoElement")),(.lit (.str "NoHead")),(.lit (.str "NoPair")),(.lit (.str "NoKind")),(.lit (.str "TooMany")),(.lit (.str "NoLower")),(.lit (.str "NoUpper")),(.lit (.str "NoMap"))]) []),
(.asg (.nm 1) (.bin .add (.var 1) (.lst [(.lit (.str "NoTower")),(.lit (.str "NoCarry"))])) [1]),
(.ret (.bin .add (.comp 1 [0] (.nm 0) (.var 1) (.lit (.bl true)) (.emit (.cmp .eq (.var 1) (.var 0)))) (.lst [(.lit (.bl true)),(.lit (.bl true))])) [0,1])]}
noncomputable def L.dw:IN.Def:={slots:=4,aw:=2,body:=[
(.asg (.nm 2) (.lit .non) []),
(.try [(.exp (.mth (.var 0) "behind" [(.var 1)]) [0,1])] "CarryError" 3 [(.asg (.nm 2) (.var 3) [3])]),
(.ret (.and (.kS (.var 2)) (.cmp .eq (.fn "_law_kinds" [(.var 2)]) (.fn "_law_class" [(.lit (.str "NotLike"))]))) [2])]}
noncomputable def L.jw:IN.Def:={slots:=17,aw:=1,body:=[
(.asg (.nm 2) (.comp 1 [0] (.nm 0) (.blt .range [(.lit (.int 3))]) (.lit (.bl true)) (.emit (.fn "_law_group" [(.fn "_law_spread" [(.var 1),(.var 0)])]))) [0]),
(.asg (.nm 3) (.lst []) []),
(.fgt [4,5,6]),
(.for (.nm 1) (.blt .range [(.lit (.int 2))]) [] [(.asg (.nm 4) (.lst []) []),(.fgt [5,6]),(.for (.tp [(.nm 5),(.nm 6)]) (.blt .enum [(.ix (.var 2) (.var 1))]) [2,1] [(.app 4 (.fn "_law_image" [(.var 6),(.ix (.var 2) (.bin .add (.var 1) (.lit (.int 1)))),(.fn "_law_spread" [(.var 0),(.bin .add (.bin .add (.bin .mul (.lit (.int 10)) (.var 1)) (.lit (.int 10))) (.var 5))])]) [6,2,0,1,5]),(.fgt [5,6])]),(.app 3 (.var 4) [4]),(.fgt [4,5,6])]),
(.asg (.nm 7) (.fn "Map" [(.fn "Rounds" [(.ix (.var 2) (.lit (.int 0)))]),(.fn "Rounds" [(.ix (.var 2) (.lit (.int 1)))]),(.blt .list [(.ix (.var 3) (.lit (.int 0)))])]) [2,3]),
(.asg (.nm 8) (.fn "Map" [(.fn "Rounds" [(.ix (.var 2) (.lit (.int 1)))]),(.fn "Rounds" [(.ix (.var 2) (.lit (.int 2)))]),(.blt .list [(.ix (.var 3) (.lit (.int 1)))])]) [2,3]),
(.ife (.and (.cmp .eq (.bin .mod (.fn "_law_spread" [(.var 0),(.lit (.int 3))]) (.lit (.int 4))) (.lit (.int 1))) (.cmp .ne (.ix (.var 2) (.lit (.int 0))) (.ix (.var 2) (.lit (.int 1))))) [0,2] [(.asg (.nm 9) (.fn "Map" [(.fn "Rounds" [(.ix (.var 2) (.lit (.int 1)))]),(.fn "Rounds" [(.ix (.var 2) (.lit (.int 0)))]),(.comp 1 [2] (.nm 0) (.ix (.var 2) (.lit (.int 1))) (.lit (.bl true)) (.emit (.fn "_law_image" [(.var 0),(.ix (.var 1) (.lit (.int 0))),(.lit (.int 0))])))]) [2]),(.ife (.nt (.fn "_law_refused" [(.var 8),(.var 9)])) [8,9] [(.ret (.lit (.bl false)) [])] [])] []),
(.asg (.nm 10) (.mth (.var 8) "behind" [(.var 7)]) [8,7]),
(.ife (.or (.cmp .ne (.fld (.fld (.var 10) "source") "rounds") (.ix (.var 2) (.lit (.int 0)))) (.cmp .ne (.fld (.fld (.var 10) "goal") "rounds") (.ix (.var 2) (.lit (.int 2))))) [10,2] [(.ret (.lit (.bl false)) [])] []),
(.asg (.nm 11) (.mth (.fn "Rounds" [(.ix (.var 2) (.lit (.int 1)))]) "heads" []) [2]),
(.asg (.nm 12) (.fn "Map" [(.fn "Rounds" [(.ix (.var 2) (.lit (.int 1)))]),(.fn "Rounds" [(.ix (.var 2) (.lit (.int 1)))]),(.var 11)]) [2,11]),
(.asg (.nm 13) (.lst [(.mth (.var 8) "behind" [(.var 12)]),(.mth (.var 12) "behind" [(.var 12)])]) [8,12]),
(.fgt [14,15,16]),
(.for (.nm 1) (.blt .range [(.lit (.int 40))]) [] [(.asg (.nm 14) (.fn "_law_drawn" [(.ix (.var 2) (.lit (.int 0))),(.fn "_law_spread" [(.var 0),(.bin .add (.lit (.int 40)) (.var 1))])]) [2,0,1]),(.asg (.nm 15) (.fn "_law_led" [(.ix (.var 2) (.lit (.int 1))),(.ix (.var 3) (.lit (.int 0))),(.var 14)]) [2,3,14]),(.ife (.or (.nt (.fn "_law_is" [(.ix (.var 2) (.lit (.int 2))),(.mth (.var 10) "led" [(.var 14)]),(.fn "_law_led" [(.ix (.var 2) (.lit (.int 2))),(.ix (.var 3) (.lit (.int 1))),(.var 15)])])) (.cmp .ne (.mth (.var 7) "led" [(.var 14)]) (.var 15))) [10,2,3,7,14,15] [(.ret (.lit (.bl false)) [])] []),(.asg (.nm 16) (.fn "_law_drawn" [(.ix (.var 2) (.lit (.int 1))),(.fn "_law_spread" [(.var 0),(.bin .add (.lit (.int 90)) (.var 1))])]) [2,0,1]),(.ife (.or (.cmp .ne (.mth (.ix (.var 13) (.lit (.int 0))) "led" [(.var 16)]) (.mth (.var 8) "led" [(.var 16)])) (.cmp .ne (.mth (.ix (.var 13) (.lit (.int 1))) "led" [(.var 16)]) (.var 16))) [8,13,16] [(.ret (.lit (.bl false)) [])] []),(.fgt [14,15,16])]),
(.ret (.and (.cmp .eq (.fld (.fld (.var 7) "goal") "rounds") (.ix (.var 2) (.lit (.int 1)))) (.cmp .eq (.fld (.fld (.var 8) "source") "rounds") (.ix (.var 2) (.lit (.int 1))))) [7,8,2])]}
namespace PL
open PySem PySem.Spec L2 CT IN
open PyProof.Rows hiding St
local macro_rules|`(tactic|dsimp? [$ls,*])=>do
 let m<-("tP cm qv o7 pv qG af.eq_1 af.eq_2 af.eq_3 af.eq_4 af.eq_5 af.eq_6 af.eq_7 af.eq_8 af.eq_9 af.eq_10 af.eq_11 af.eq_12 af.eq_13 af.eq_16 af.eq_18 af.eq_19 evV ev.eq_1 ev.eq_2 ev.eq_3 ev.eq_4 ev.eq_5 ev.eq_6 ev.eq_7 ev.eq_8 ev.eq_9 ev.eq_10 ev.eq_11 ev.eq_12 ev.eq_13 ev.eq_14 ev.eq_15 ev.eq_16 ev.eq_17 ev.eq_18 ev.eq_19 ev.eq_20 ev.eq_21 ev.eq_23 evA evT evI evB aQ ah aM List.modify_zero_cons List.modify_succ_cons List.modify_nil kp mv mI mn mY fN eN ao aO gu List.set_cons_zero List.set_cons_succ List.set_nil List.getElem?_cons_zero List.getElem?_cons_succ List.length_cons List.length_nil Nat.reduceAdd Nat.reduceLT Nat.reduceSub Nat.reduceLeDiff Nat.zero_add Nat.zero_lt_succ if_true if_false Bool.not_true Bool.not_false Bool.true_and Bool.false_and Bool.and_true Bool.and_false Bool.true_or Bool.false_or Bool.or_true Bool.or_false and_self true_and and_true Bool.false_eq_true eh sV sP tK t_ tV sU fS iJ qM nE ri i6 oh cL fnR Rs.val Ow.D eS cz List.replicate List.cons_append List.nil_append List.map_cons List.map_nil slD asI m_ oq n5 nc ky nW m9 nB nC kM lC Option.map_some decide_true decide_false List.all_cons List.all_nil tks dM List.append_nil reduceCtorEq ite_self".splitOn " ").toArray.mapM fun s=>`(Lean.Parser.Tactic.simpLemma|$(Lean.mkIdent s.toName):ident)
 let a:=(ls.getElems.map fun x=>(.mk x.raw:Lean.TSyntax `Lean.Parser.Tactic.simpLemma))++m
 `(tactic|simp only [$a,*])
section
variable {G:Prg} {C:Addr} {n:Nat}
theorem eM (a b m:Int):a*(b%m)%m=a*b%m:=by rw [Int.mul_emod,Int.emod_emod,←Int.mul_emod]
theorem wZ:∀{ns w s:List Int} {l:Int},El ns w->El ns s->l%2=1->az ns (az ns w s) (aE ns (l / 2) (az ns s s))=az ns w (aE ns l s)
 |[],w,s,l,h1,h2,_=>by
  have e:w=[]:=List.length_eq_zero_iff.mp h1.len
  have e2:s=[]:=List.length_eq_zero_iff.mp h2.len
  subst e e2;rfl
 |m::ns,w,s,l,h1,h2,hl=>by
  obtain ⟨a,w',rfl,_,_,hw⟩:=h1.inv
  obtain ⟨b,s',rfl,_,_,hs⟩:=h2.inv
  rw [aD,aD,aB,aB,aD,aD,wZ hw hs hl]
  congr 1
  rw [eM,Int.emod_add_emod,Int.add_emod_emod,Int.add_emod_emod]
  congr 1
  have:l=2*(l / 2)+1:=by omega
  generalize l / 2=q at this
  subst this
  simp only [Int.mul_add,Int.add_mul,Int.mul_assoc,Int.one_mul]
  omega
theorem wR:∀{ns w s:List Int} {l:Int},El ns w->El ns s->l%2=0->az ns w (aE ns (l / 2) (az ns s s))=az ns w (aE ns l s)
 |[],w,s,l,h1,h2,_=>by
  have e:w=[]:=List.length_eq_zero_iff.mp h1.len
  have e2:s=[]:=List.length_eq_zero_iff.mp h2.len
  subst e e2;rfl
 |m::ns,w,s,l,h1,h2,hl=>by
  obtain ⟨a,w',rfl,_,_,hw⟩:=h1.inv
  obtain ⟨b,s',rfl,_,_,hs⟩:=h2.inv
  rw [aD,aB,aB,aD,aD,wR hw hs hl]
  congr 1
  rw [eM,Int.add_emod_emod,Int.add_emod_emod]
  congr 1
  have:l=2*(l / 2):=by omega
  generalize l / 2=q at this
  subst this
  simp only [Int.mul_add,Int.mul_assoc]
  omega
theorem kA:∀{ns x:List Int},El ns x->az ns x (List.replicate ns.length 0)=x
 |[],x,h1=>by
  have e:x=[]:=List.length_eq_zero_iff.mp h1.len
  subst e;rfl
 |m::ns,x,h1=>by
  obtain ⟨a,x',rfl,h2,h3,hx⟩:=h1.inv
  show (a+0)%m::az ns x' (List.replicate ns.length 0)=_
  rw [kA hx,Int.add_zero,Int.emod_eq_of_lt h2 h3]
theorem iT:∀{ns x:List Int},El ns x->az ns (List.replicate ns.length 0) x=x
 |[],x,h1=>by
  have e:x=[]:=List.length_eq_zero_iff.mp h1.len
  subst e;rfl
 |m::ns,x,h1=>by
  obtain ⟨a,x',rfl,h2,h3,hx⟩:=h1.inv
  show (0+a)%m::az ns (List.replicate ns.length 0) x'=_
  rw [iT hx,Int.zero_add,Int.emod_eq_of_lt h2 h3]
structure GM (G:Prg) (C:Addr):Prop where
 A:GA G C
 has:G.defs "Rounds.has"=some (none,P.c4)
 wA:G.mth C "has"=some ("Rounds.has":Str)
 need:G.defs "Group.need"=some (none,P.dY)
 As:G.mth C "need"=some ("Group.need":Str)
 nou:G.defs "Rounds.nought"=some (none,P.cF)
 Bu:G.mth C "nought"=some ("Rounds.nought":Str)
 sum:G.defs "Rounds.sum_of"=some (none,P.dJ)
 Bh:G.mth C "sum_of"=some ("Rounds.sum_of":Str)
 tim:G.defs "Group.times"=some (none,P.eW)
 Be:G.mth C "times"=some ("Group.times":Str)
 tot:G.defs "Group.total"=some (none,P.eX)
 Bt:G.mth C "total"=some ("Group.total":Str)
 lik:G.defs "Rounds.like"=some (none,P.dz)
 AX:G.mth C "like"=some ("Rounds.like":Str)
 hds:G.defs "Rounds.heads"=some (none,P.eg)
 AR:G.mth C "heads"=some ("Rounds.heads":Str)
 gR:G.glob "Rounds"=some (.cl C)
 kR:G.kit (.cl C) (.cl C)=some true
theorem eK {cl:Str->List D->Option Rs} {ns:List Int} {m k:Str} {ds:List D} {r:Option Rs} (hl:(rf ns).lookup m=none) (hm:G.mth C m=some k) (h:cl k (grp C ns::ds)=r):bq G cl (grp C ns) m ds=r:=by
 unfold grp at h ⊢
 simp only [bq,hl,hm,h]
theorem dX {ns:List Int} (A:GA G C):cI G (grp C ns) "rounds"=some (tupI ns):=by
 have h:=A.fok
 unfold grp;simp only [cI,h,if_true,y7]
theorem qU {ns:List Int} (M:GM G C) (g:Good ns):kal G (n+1) "Rounds.nought" [grp C ns]=some (.ok (tupI (List.replicate ns.length 0))):=by
 refine aK M.nou ⟨rfl,rfl⟩ (ρ0:=[.val (grp C ns)]) rfl ?_
 have hf:=dX (ns:=ns) M.A
 have hl:(ns.map D.int).length=ns.length:=by simp
 have hs:aP (tupI ns)=some (ns.map .int):=rfl
 have h1:(0:Int)<=(ns.length:Int)∧(ns.length:Int).toNat<2^20:=by have:=g.bA;omega
 have h2:(ns.length:Int).toNat=ns.length:=by omega
 have h3:1<=sizeLine:=by decide
 dsimp? [P.cF,hf,hs,hl,h1,h3]
 unfold tupI
 simp [h2]
theorem iz {ns:List Int} (M:GM G C) (g:Good ns):bq G (kal G (n+1)) (grp C ns) "nought" []=some (.ok (tupI (List.replicate ns.length 0))):=eK rfl M.Bu (qU M g)
theorem wc {ns x y:List Int} (M:GM G C) (g:Good ns):kal G (n+1) "Rounds.sum_of" [grp C ns,tupI x,tupI y]=some (.ok (tupI (az ns x y))):=by
 refine aK M.sum ⟨rfl,rfl⟩ (ρ0:=[.val (grp C ns),.val (tupI x),.val (tupI y)]) rfl (a9 ?_)
 have hf:=dX (ns:=ns) M.A
 have hz:cg .zip [tupI x,tupI y,tupI ns]=some ((x.zip (y.zip ns)).map fun p=>D.tup [.int p.1,.int p.2.1,.int p.2.2]):=by rw [←f9];exact pz rfl rfl rfl
 have key:ev G (kal G n) (.comp 3 [] (.tp [(.nm 0),(.nm 1),(.nm 2)]) (.blt .zip [(.var 1),(.var 2),(.fld (.var 0) "rounds")]) (.lit (.bl true)) (.emit (.bin .mod (.bin .add (.var 0) (.var 1)) (.var 2)))) [.val (grp C ns),.val (tupI x),.val (tupI y)]=some (.lst ((x.zip (y.zip ns)).map fun p=>D.int ((p.1+p.2.1)%p.2.2))):=by
  refine bB (g:=fun p:Int×Int×Int=>D.tup [.int p.1,.int p.2.1,.int p.2.2]) (by simp only [evI,evA,ev.eq_1,ev.eq_18,aQ,List.getElem?_cons_zero,List.getElem?_cons_succ,hf,hz]) rfl ?_ fun p hp=>⟨[.val (.int p.1),.val (.int p.2.1),.val (.int p.2.2)],rfl,?_⟩
  ·have:=g.bA
   rw [List.length_zip,List.length_zip]
   exact Nat.le_trans (show min x.length (min y.length ns.length)<=1000 by omega) (by decide)
  ·have hp2:0<p.2.2:=by have:=g.ge _ (lA hp);omega
   simp only [ev.eq_4,ev.eq_1,aQ,List.getElem?_cons_zero,List.getElem?_cons_succ,eh,hp2,if_true]
 simp only [af.eq_11,evV,ev.eq_19,evA,ah,aM,List.modify_zero_cons,List.modify_succ_cons,key,cL,fS]
 unfold az tupI
 rw [List.map_map]
 rfl
theorem n4 {ns x y:List Int} (M:GM G C) (g:Good ns):bq G (kal G (n+1)) (grp C ns) "sum_of" [tupI x,tupI y]=some (.ok (tupI (az ns x y))):=eK rfl M.Bh (wc M g)
theorem tW {ns x:List Int} (M:GM G C) (g:Good ns) (hx:El ns x):bq G (kal G (n+2)) (grp C ns) "has" [tupI x]=some (.ok (.bl true)):=eK rfl M.wA (by rw [zI M.A M.has g hx.len,hx.has])
theorem kW {ns x:List Int} (M:GM G C) (g:Good ns) (hx:El ns x):bq G (kal G (n+3)) (grp C ns) "need" [tupI x]=some (.ok .non):=by
 refine eK rfl M.As (lP M.need ⟨rfl,rfl⟩ (ρ0:=[.val (grp C ns),.val (tupI x)]) rfl (ρ:=[.val (grp C ns),.val (tupI x)]) ?_)
 have hm:=tW (n:=n) M g hx
 unfold P.dY
 dsimp? [hm]
theorem pA {ns:List Int} {d1 d2:D} (M:GM G C) (g:Good ns):∀(f:Nat) (s w:List Int) (l:Int),El ns s->El ns w->0<=l->l.toNat<f->
  ∃s',fV (fun ρ=>evT G (kal G (n+1)) (.cmp .gt (.var 4) (.lit (.int 0))) (ah [4] ρ)) (IN.run G (kal G (n+1)) [(.ife (.cmp .eq (.bin .mod (.var 4) (.lit (.int 2))) (.lit (.int 1))) [4] [(.asg (.nm 5) (.mth (.var 0) "sum_of" [(.var 5),(.var 3)]) [0,5,3])] []),(.asg (.nm 3) (.mth (.var 0) "sum_of" [(.var 3),(.var 3)]) [0,3]),(.asg (.nm 4) (.bin .fdiv (.var 4) (.lit (.int 2))) [4])]) f
   [.val (grp C ns),.val d1,.val d2,.val (tupI s),.val (.int l),.val (tupI w)]=some (.nx [.val (grp C ns),.val d1,.val d2,.val s',.val (.int 0),.val (tupI (az ns w (aE ns l s)))]):=by
 intro f
 induction f with
 |zero=>intro s w l _ _ _ h;omega
 |succ f ih=>
  intro s w l hs hw hl h
  rw [fV]
  by_cases hz:l=0
  ·subst hz
   rw [f_ hs,kA hw]
   exact ⟨tupI s,rfl⟩
  ·have hp:0<l:=by omega
   have h1:evT G (kal G (n+1)) (.cmp .gt (.var 4) (.lit (.int 0))) (ah [4] [.val (grp C ns),.val d1,.val d2,.val (tupI s),.val (.int l),.val (tupI w)])=some true:=by
    have:decide (0<l)=true:=decide_eq_true hp
    dsimp? [this]
   rw [h1]
   dsimp only
   have e1:=n4 (n:=n) (x:=w) (y:=s) M g
   have e2:=n4 (n:=n) (x:=s) (y:=s) M g
   have t2:(0:Int)<2:=by decide
   have t3:(0:Int)<2∧Int.toNat 2<1073741824:=by decide
   rcases (by omega:l%2=1∨l%2=0) with hc|hc
   ·have h2:IN.run G (kal G (n+1)) [(.ife (.cmp .eq (.bin .mod (.var 4) (.lit (.int 2))) (.lit (.int 1))) [4] [(.asg (.nm 5) (.mth (.var 0) "sum_of" [(.var 5),(.var 3)]) [0,5,3])] []),(.asg (.nm 3) (.mth (.var 0) "sum_of" [(.var 3),(.var 3)]) [0,3]),(.asg (.nm 4) (.bin .fdiv (.var 4) (.lit (.int 2))) [4])] [.val (grp C ns),.val d1,.val d2,.val (tupI s),.val (.int l),.val (tupI w)]=some (.nx [.val (grp C ns),.val d1,.val d2,.val (tupI (az ns s s)),.val (.int (l / 2)),.val (tupI (az ns w s))]):=by
     dsimp? [hc,e1,e2,t2,t3]
    rw [h2]
    dsimp only
    obtain ⟨s',e⟩:=ih (az ns s s) (az ns w s) (l / 2) (hs.add g.g2 hs) (hw.add g.g2 hs) (by omega) (by omega)
    exact ⟨s',by rw [e,wZ hw hs hc]⟩
   ·have hc':decide (l%2=1)=false:=decide_eq_false (by omega)
    have h2:IN.run G (kal G (n+1)) [(.ife (.cmp .eq (.bin .mod (.var 4) (.lit (.int 2))) (.lit (.int 1))) [4] [(.asg (.nm 5) (.mth (.var 0) "sum_of" [(.var 5),(.var 3)]) [0,5,3])] []),(.asg (.nm 3) (.mth (.var 0) "sum_of" [(.var 3),(.var 3)]) [0,3]),(.asg (.nm 4) (.bin .fdiv (.var 4) (.lit (.int 2))) [4])] [.val (grp C ns),.val d1,.val d2,.val (tupI s),.val (.int l),.val (tupI w)]=some (.nx [.val (grp C ns),.val d1,.val d2,.val (tupI (az ns s s)),.val (.int (l / 2)),.val (tupI w)]):=by
     dsimp? [hc',e1,e2,t2,t3]
    rw [h2]
    dsimp only
    obtain ⟨s',e⟩:=ih (az ns s s) w (l / 2) (hs.add g.g2 hs) hw (by omega) (by omega)
    exact ⟨s',by rw [e,wR hw hs hc]⟩
theorem rK {ns x:List Int} {m:Int} (M:GM G C) (g:Good ns) (hx:El ns x) (hm:0<=m):kal G (n+4) "Group.times" [grp C ns,.int m,tupI x]=some (.ok (tupI (aE ns m x))):=by
 refine aK M.tim ⟨rfl,rfl⟩ (ρ0:=[.val (grp C ns),.val (.int m),.val (tupI x),.nil,.nil,.nil]) rfl ?_
 have h1:=kW (n:=n) M g hx
 have h2:=iz (n:=n+2) M g
 have h3:decide (m<0)=false:=decide_eq_false (by omega)
 have h4:(if m<0 then -m else m)=m:=if_neg (by omega)
 obtain ⟨s',h5⟩:=pA (n:=n+2) (d1:=.int m) (d2:=tupI x) M g (turns [.val (grp C ns),.val (.int m),.val (tupI x),.val (tupI x),.val (.int m),.val (tupI (List.replicate ns.length 0))]) x (List.replicate ns.length 0) m hx (El.zero g.g2) hm (by unfold turns;simp only [List.map_cons,List.sum_cons,kQ];omega)
 rw [iT (hx.mul g.g2)] at h5
 refine st (ρ':=[.val (grp C ns),.val (.int m),.val (tupI x),.nil,.nil,.nil]) (by dsimp? [h1]) ?_
 refine st (ρ':=[.val (grp C ns),.val (.int m),.val (tupI x),.val (tupI x),.nil,.nil]) (by dsimp? [h3]) ?_
 refine st (ρ':=[.val (grp C ns),.val (.int m),.val (tupI x),.val (tupI x),.val (.int m),.nil]) (by dsimp? [h4]) ?_
 refine st (ρ':=[.val (grp C ns),.val (.int m),.val (tupI x),.val (tupI x),.val (.int m),.val (tupI (List.replicate ns.length 0))]) (by dsimp? [h2]) ?_
 refine st (by rw [af.eq_15];exact h5) (a9 ?_)
 dsimp? [h1]
theorem mN {ns x:List Int} {m:Int} (M:GM G C) (g:Good ns) (hx:El ns x) (hm:0<=m):bq G (kal G (n+4)) (grp C ns) "times" [.int m,tupI x]=some (.ok (tupI (aE ns m x))):=eK rfl M.Be (rK M g hx hm)
end
section
variable {G:Prg} {C CM:Addr} {n:Nat}
noncomputable def cK (ns:List Int) (l:List (List Int)):List Int:=l.foldl (az ns) (List.replicate ns.length 0)
theorem j1 {ns:List Int} {l:List (List Int)} {x:List Int}:cK ns (l++[x])=az ns (cK ns l) x:=by unfold cK;rw [List.foldl_append];rfl
theorem ug {ns:List Int} {l:List (List Int)} (M:GM G C) (g:Good ns) (hl:∀x∈l,El ns x):kal G (n+4) "Group.total" [grp C ns,.lst (l.map tupI)]=some (.ok (tupI (cK ns l))):=by
 refine aK M.tot ⟨rfl,rfl⟩ (ρ0:=[.val (grp C ns),.val (.lst (l.map tupI)),.nil,.nil]) rfl ?_
 have h2:=iz (n:=n+2) M g
 refine st (ρ':=[.val (grp C ns),.val (.lst (l.map tupI)),.val (tupI (List.replicate ns.length 0)),.nil]) (by dsimp? [h2]) ?_
 refine st (ρ':=[.val (grp C ns),.val (.lst (l.map tupI)),.val (tupI (List.replicate ns.length 0)),.any]) (by rfl) ?_
 refine st (eL (g:=tupI) (fun done=>[.val (grp C ns),.val (.lst (l.map tupI)),.val (tupI (cK ns done)),.any]) l (by rfl) rfl fun done a rest e=>?_) (a9 ?_)
 ·have h3:=kW (n:=n) M g (hl a (by rw [e];simp))
  have h4:=n4 (n:=n+2) (x:=cK ns done) (y:=a) M g
  refine ⟨[.val (grp C ns),.val (.lst (l.map tupI)),.val (tupI (cK ns done)),.val (tupI a)],rfl,?_⟩
  dsimp? [h3,h4,j1]
 ·dsimp? [h2]
theorem vZ {ns:List Int} {l:List (List Int)} (M:GM G C) (g:Good ns) (hl:∀x∈l,El ns x):bq G (kal G (n+4)) (grp C ns) "total" [.lst (l.map tupI)]=some (.ok (tupI (cK ns l))):=eK rfl M.Bt (ug M g hl)
theorem pC {a b:List Int} (M:GM G C):bq G (kal G (n+1)) (grp C a) "like" [grp C b]=some (.ok (.bl (decide (a=b)))):=by
 refine eK rfl M.AX (aK M.lik ⟨rfl,rfl⟩ (ρ0:=[.val (grp C a),.val (grp C b)]) rfl ?_)
 have h1:=M.gR
 have h2:b_ G (grp C b) (.cl C)=some true:=M.kR
 have h3:=dX (ns:=a) M.A
 have h4:=dX (ns:=b) M.A
 have h5:=gT a b
 dsimp? [P.dz,h1,h2,h3,h4,h5]
structure GP (G:Prg) (C CM:Addr):Prop extends GM G C where
 isi:G.defs "is_image"=some (none,P.fM)
 A6:G.fn "is_image"=some ("is_image":Str)
 ni:G.defs "need_images"=some (none,P.eU)
 fni:G.fn "need_images"=some ("need_images":Str)
 mi:G.defs "Map.__init__"=some (some CM,P.eB)
 fmi:G.fn "Map"=none∧G.ini "Map"=some (CM,("Map.__init__":Str))
 w4:G.fok CM "source"=true
 wU:G.fok CM "goal"=true
 lW:G.fok CM "images"=true
 led:G.defs "Map.led"=some (none,P.gO)
 Bo:G.mth CM "led"=some ("Map.led":Str)
 beh:G.defs "Map.behind"=some (none,P.fO)
 wX:G.mth CM "behind"=some ("Map.behind":Str)
 nl:G.defs "need_like"=some (none,P.dH)
 fnl:G.fn "need_like"=some ("need_like":Str)
theorem o_ {ns x:List Int} {m:Int} (M:GP G C CM) (g:Good ns) (hx:El ns x) (hm:0<=m):kal G (n+5) "is_image" [grp C ns,.int m,tupI x]=some (.ok (.bl (decide (aE ns m x=List.replicate ns.length 0)))):=by
 refine aK M.isi ⟨rfl,rfl⟩ (ρ0:=[.val (grp C ns),.val (.int m),.val (tupI x)]) rfl ?_
 have h1:=tW (n:=n+2) M.toGM g hx
 have h2:=mN (n:=n) M.toGM g hx hm
 have h3:=iz (n:=n+3) M.toGM g
 have h4:=gT (aE ns m x) (List.replicate ns.length 0)
 dsimp? [P.fM,h1,h2,h3,h4]
structure Im (s g:List Int) (is:List (List Int)):Prop where
 len:is.length=s.length
 el:∀x∈is,El g x
 ann:∀p∈s.zip is,aE g p.1 p.2=List.replicate g.length 0
theorem j5 (s:List Int):a_ 0 (s.map .int)=(s.zipIdx).map fun p=>D.tup [.int (p.2:Int),.int p.1]:=by
 have:∀(s:List Int) (k:Nat),a_ k (s.map .int)=(s.zipIdx k).map fun p=>D.tup [.int (p.2:Int),.int p.1]:=by
  intro s
  induction s with
  |nil=>intro k;rfl
  |cons a s ih=>intro k;rw [List.zipIdx_cons,List.map_cons,List.map_cons,a_,ih]
 exact this s 0
theorem lb {s g:List Int} {is:List (List Int)} (M:GP G C CM) (gs:Good s) (gg:Good g) (im:Im s g is):kal G (n+6) "need_images" [grp C s,grp C g,.lst (is.map tupI)]=some (.ok .non):=by
 refine lP M.ni ⟨rfl,rfl⟩ (ρ0:=[.val (grp C s),.val (grp C g),.val (.lst (is.map tupI)),.nil,.nil]) rfl (ρ:=[.val (grp C s),.val (grp C g),.val (.lst (is.map tupI)),.any,.any]) ?_
 have hf:=dX (ns:=s) M.A
 have ln:(is.map tupI).length=is.length:=by simp
 have ln2:(s.map D.int).length=s.length:=by simp
 have sq:aP (tupI s)=some (s.map .int):=rfl
 have hb:cg .enum [tupI s]=some (s.zipIdx.map fun p=>D.tup [.int (p.2:Int),.int p.1]):=by rw [←j5];rfl
 refine st (ρ':=[.val (grp C s),.val (grp C g),.val (.lst (is.map tupI)),.any,.any]) (by rfl) ?_
 refine st (eL (g:=fun p:Int×Nat=>D.tup [.int (p.2:Int),.int p.1]) (fun _=>[.val (grp C s),.val (grp C g),.val (.lst (is.map tupI)),.any,.any]) s.zipIdx (by simp only [evI,evA,ev.eq_1,ev.eq_18,aQ,ah,aM,List.modify_zero_cons,List.getElem?_cons_zero,hf,hb]) rfl fun done p rest e=>?_) ?_
 ·have hp:p∈s.zipIdx:=by rw [e];simp
  obtain ⟨m,i⟩:=p
  have hi:s[i]?=some m:=List.mk_mem_zipIdx_iff_getElem?.mp hp
  obtain ⟨hi1,hi2⟩:=List.getElem?_eq_some_iff.mp hi
  have hi3:i<is.length:=by rw [im.len];exact hi1
  have hx:is[i]∈is:=List.getElem_mem hi3
  have hz:(m,is[i])∈s.zip is:=by
   refine List.mem_iff_getElem?.mpr ⟨i,?_⟩
   rw [List.getElem?_zip_eq_some]
   exact ⟨hi,List.getElem?_eq_getElem hi3⟩
  have hm:2<=m:=gs.ge m (hi2▸List.getElem_mem hi1)
  have e1:=o_ (n:=n) M gg (im.el _ hx) (m:=m) (by omega)
  rw [im.ann _ hz,decide_eq_true rfl] at e1
  have e2:=M.A6
  have e3:decide ((is.length:Int)<=(i:Int))=false:=decide_eq_false (by omega)
  have e4:atI (is.map tupI) (i:Int)=some (tupI is[i]):=by
   unfold atI ixN
   simp [hi3]
  refine ⟨[.val (grp C s),.val (grp C g),.val (.lst (is.map tupI)),.val (.int (i:Int)),.val (.int m)],rfl,?_⟩
  dsimp? [e1,e2,e3,e4,ln]
 ·have e3:decide ((s.length:Int)<(is.length:Int))=false:=decide_eq_false (by have:=im.len;omega)
  dsimp? [hf,ln,ln2,sq,e3]
noncomputable abbrev mf (C:Addr) (s g:List Int) (is:List (List Int)):List (Str×D):=[(("source":Str),grp C s),(("goal":Str),grp C g),(("images":Str),.tup (is.map tupI))]
noncomputable def aa (CM C:Addr) (s g:List Int) (is:List (List Int)):D:=.ins CM (mf C s g is)
theorem ei:∀is:List (List Int),bx (is.map tupI)=true
 |[]=>rfl
 |x::is=>by show (aq (tupI x)&&bx (is.map tupI))=true;rw [ei is,fN];rfl
theorem fj {s g:List Int} {is:List (List Int)} (M:GP G C CM) (gs:Good s) (gg:Good g) (im:Im s g is):kal G (n+7) "Map.__init__" [grp C s,grp C g,.lst (is.map tupI)]=some (.ok (aa CM C s g is)):=by
 refine mM M.mi ⟨rfl,rfl⟩ (ρ0:=[.val (grp C s),.val (grp C g),.val (.lst (is.map tupI))]) rfl (fs:=mf C s g is) (a:=0) (b:=0) (ρ:=[.val (grp C s),.val (grp C g),.val (.lst (is.map tupI))]) ?_
 have h1:=lb (n:=n) M gs gg im
 have h2:=M.fni
 have h3:=M.w4
 have h4:=M.wU
 have h5:=M.lW
 have k0:(0:Nat)<1000:=by decide
 have k1:(1:Nat)<1000:=by decide
 have k2:(2:Nat)<1000:=by decide
 have h6:aq (.tup (is.map tupI))=true:=ei is
 refine st (ρ':=[.new CM 0 0 [],.val (grp C s),.val (grp C g),.val (.lst (is.map tupI))]) (by dsimp? [h1,h2]) ?_
 refine st (ρ':=[.new CM 0 0 [(("source":Str),grp C s)],.val (grp C s),.val (grp C g),.val (.lst (is.map tupI))]) (by dsimp? [h3,k0,putD]) ?_
 refine st (ρ':=[.new CM 0 0 [(("source":Str),grp C s),(("goal":Str),grp C g)],.val (grp C s),.val (grp C g),.val (.lst (is.map tupI))]) (by dsimp? [h4,k1];rfl) ?_
 exact st (by dsimp? [h5,k2,h6];rfl) cm
theorem zD {s g:List Int} {is:List (List Int)} (M:GP G C CM) (gs:Good s) (gg:Good g) (im:Im s g is):fnR G (kal G (n+7)) "Map" [grp C s,grp C g,.lst (is.map tupI)]=some (.ok (aa CM C s g is)):=by
 have h1:=M.fmi.1
 have h2:=M.fmi.2
 have h3:=fj (n:=n) M gs gg im
 simp only [fnR,h1,h2,h3]
theorem fu {s g:List Int} {is:List (List Int)} (M:GP G C CM):cI G (aa CM C s g is) "source"=some (grp C s):=by
 have h:=M.w4
 have k:(mf C s g is).lookup ("source":Str)=some (grp C s):=rfl
 unfold aa;simp only [cI,h,if_true,k]
theorem d6 {s g:List Int} {is:List (List Int)} (M:GP G C CM):cI G (aa CM C s g is) "goal"=some (grp C g):=by
 have h:=M.wU
 have k:(mf C s g is).lookup ("goal":Str)=some (grp C g):=rfl
 unfold aa;simp only [cI,h,if_true,k]
theorem pU {s g:List Int} {is:List (List Int)} (M:GP G C CM):cI G (aa CM C s g is) "images"=some (.tup (is.map tupI)):=by
 have h:=M.lW
 have k:(mf C s g is).lookup ("images":Str)=some (.tup (is.map tupI)):=rfl
 unfold aa;simp only [cI,h,if_true,k]
noncomputable def ak (g:List Int) (is:List (List Int)) (x:List Int):List Int:=cK g ((x.zip is).map fun p=>aE g p.1 p.2)
theorem lB:∀(x:List Int) (is:List (List Int)),bo (x.map .int) (is.map tupI)=(x.zip is).map fun p=>D.tup [.int p.1,tupI p.2]
 |[],_=>by simp [bo]
 |_::_,[]=>by simp [bo]
 |a::x,b::is=>by
  have:=lB x is
  simp only [List.map_cons,List.zip_cons_cons,bo,this]
theorem sQ:∀{ns x:List Int},El ns x->∀k∈x,0<=k
 |[],x,h,k,hk=>by
  have e:x=[]:=List.length_eq_zero_iff.mp h.len
  subst e;cases hk
 |m::ns,x,h,k,hk=>by
  obtain ⟨a,x',rfl,h2,_,hx⟩:=h.inv
  rcases List.mem_cons.mp hk with rfl|hk
  ·exact h2
  ·exact sQ hx k hk
theorem oj {cl:Str->List D->Option Rs} {s g:List Int} {is:List (List Int)} {m k:Str} {ds:List D} {r:Option Rs} (hl:(mf C s g is).lookup m=none) (hm:G.mth CM m=some k) (h:cl k (aa CM C s g is::ds)=r):bq G cl (aa CM C s g is) m ds=r:=by
 unfold aa at h ⊢
 simp only [bq,hl,hm,h]
theorem gN {s g x:List Int} {is:List (List Int)} (M:GP G C CM) (gs:Good s) (gg:Good g) (im:Im s g is) (hx:El s x):bq G (kal G (n+6)) (aa CM C s g is) "led" [tupI x]=some (.ok (tupI (ak g is x))):=by
 refine oj rfl M.Bo (aK M.led ⟨rfl,rfl⟩ (ρ0:=[.val (aa CM C s g is),.val (tupI x)]) rfl ?_)
 have h1:=fu (s:=s) (g:=g) (is:=is) M
 have h2:=d6 (s:=s) (g:=g) (is:=is) M
 have h3:=pU (s:=s) (g:=g) (is:=is) M
 have h4:=kW (n:=n+2) M.toGM gs hx
 have hz:cg .zip [tupI x,.tup (is.map tupI)]=some ((x.zip is).map fun p=>D.tup [.int p.1,tupI p.2]):=by rw [←lB];exact iU rfl rfl
 have key:ev G (kal G (n+5)) (.comp 2 [0] (.tp [(.nm 0),(.nm 1)]) (.blt .zip [(.var 1),(.fld (.var 0) "images")]) (.lit (.bl true)) (.emit (.mth (.fld (.var 2) "goal") "times" [(.var 0),(.var 1)]))) [.val (aa CM C s g is),.val (tupI x)]=some (.lst (((x.zip is).map fun p=>aE g p.1 p.2).map tupI)):=by
  rw [List.map_map]
  refine bB (g:=fun p:Int×List Int=>D.tup [.int p.1,tupI p.2]) (by simp only [evI,evA,ev.eq_1,ev.eq_18,aQ,List.getElem?_cons_zero,List.getElem?_cons_succ,h3,hz]) rfl ?_ fun p hp=>⟨[.val (.int p.1),.val (tupI p.2),.val (aa CM C s g is)],rfl,?_⟩
  ·have a:=gs.bA
   have b:=hx.len
   rw [List.length_zip]
   exact Nat.le_trans (show min x.length is.length<=1000 by omega) (by decide)
  ·have e1:=mN (n:=n+1) M.toGM gg (im.el _ (List.of_mem_zip hp).2) (m:=p.1) (sQ hx _ (List.of_mem_zip hp).1)
   dsimp? [h2,e1]
   rfl
 have h5:=vZ (n:=n+1) (l:=(x.zip is).map fun p=>aE g p.1 p.2) M.toGM gg (fun y hy=>by
  obtain ⟨p,hp,rfl⟩:=List.mem_map.mp hy
  exact (im.el _ (List.of_mem_zip hp).2).mul gg.g2)
 dsimp? [P.gO,h1,h2,h4,key,h5]
 rfl
end
theorem El.nil_eq {x:List Int} (h:El [] x):x=[]:=List.length_eq_zero_iff.mp h.len
theorem jX:∀{ns x y:List Int},El ns x->El ns y->az ns x y=az ns y x
 |[],x,y,h1,h2=>by have:=h1.nil_eq;have:=h2.nil_eq;subst_vars;rfl
 |m::ns,x,y,h1,h2=>by
  obtain ⟨a,x',rfl,_,_,hx⟩:=h1.inv
  obtain ⟨b,y',rfl,_,_,hy⟩:=h2.inv
  rw [aD,aD,jX hx hy,Int.add_comm]
theorem cq:∀{ns x y z:List Int},El ns x->El ns y->El ns z->az ns (az ns x y) z=az ns x (az ns y z)
 |[],x,y,z,h1,h2,h3=>by have:=h1.nil_eq;have:=h2.nil_eq;have:=h3.nil_eq;subst_vars;rfl
 |m::ns,x,y,z,h1,h2,h3=>by
  obtain ⟨a,x',rfl,_,_,hx⟩:=h1.inv
  obtain ⟨b,y',rfl,_,_,hy⟩:=h2.inv
  obtain ⟨c,z',rfl,_,_,hz⟩:=h3.inv
  rw [aD,aD,aD,aD,cq hx hy hz,Int.emod_add_emod,Int.add_emod_emod,Int.add_assoc]
theorem yd {ns x y z w:List Int} (g:Ge2 ns) (hx:El ns x) (hy:El ns y) (hz:El ns z) (hw:El ns w):az ns (az ns x y) (az ns z w)=az ns (az ns x z) (az ns y w):=by
 rw [cq hx hy (hz.add g hw),←cq hy hz hw,jX hy hz,cq hz hy hw,←cq hx hz (hy.add g hw)]
theorem lI {k:Int}:∀{ns x y:List Int},El ns x->El ns y->aE ns k (az ns x y)=az ns (aE ns k x) (aE ns k y)
 |[],x,y,h1,h2=>by have:=h1.nil_eq;have:=h2.nil_eq;subst_vars;rfl
 |m::ns,x,y,h1,h2=>by
  obtain ⟨a,x',rfl,_,_,hx⟩:=h1.inv
  obtain ⟨b,y',rfl,_,_,hy⟩:=h2.inv
  rw [aD,aB,aB,aB,aD,lI hx hy,eM,Int.emod_add_emod,Int.add_emod_emod,Int.mul_add]
theorem iD {j k:Int}:∀{ns x:List Int},El ns x->aE ns j (aE ns k x)=aE ns (j*k) x
 |[],x,h1=>by have:=h1.nil_eq;subst_vars;rfl
 |m::ns,x,h1=>by
  obtain ⟨a,x',rfl,_,_,hx⟩:=h1.inv
  rw [aB,aB,aB,iD hx,eM,Int.mul_assoc]
theorem cQ (k:Int):∀(ns:List Int),aE ns k (List.replicate ns.length 0)=List.replicate ns.length 0
 |[]=>rfl
 |m::ns=>by
  show k*0%m::aE ns k (List.replicate ns.length 0)=0::List.replicate ns.length 0
  rw [cQ k ns,Int.mul_zero,Int.zero_emod]
theorem kj {ns x:List Int} {a m:Int} (g:Ge2 ns) (hx:El ns x) (h:aE ns m x=List.replicate ns.length 0):aE ns (a%m) x=aE ns a x:=by
 have e:a=a / m*m+a%m:=by rw [Int.mul_comm];exact (Int.mul_ediv_add_emod a m).symm
 conv=>rhs;rw [e]
 rw [←add_mul hx,←iD hx,h,cQ,iT (hx.mul g)]
theorem fold_add {ns:List Int} (g:Ge2 ns):∀(l:List (List Int)) (w x:List Int),El ns w->El ns x->(∀y∈l,El ns y)->l.foldl (az ns) (az ns w x)=az ns w (l.foldl (az ns) x)
 |[],w,x,_,_,_=>rfl
 |y::l,w,x,hw,hx,h=>by
  have hy:=h y List.mem_cons_self
  rw [List.foldl_cons,List.foldl_cons,cq hw hx hy]
  exact fold_add g l w (az ns x y) hw (hx.add g hy) fun z hz=>h z (List.mem_cons_of_mem _ hz)
theorem mm {ns:List Int} (g:Ge2 ns):∀(l:List (List Int)) (w:List Int),El ns w->(∀y∈l,El ns y)->El ns (l.foldl (az ns) w)
 |[],w,hw,_=>hw
 |y::l,w,hw,h=>mm g l _ (hw.add g (h y List.mem_cons_self)) fun z hz=>h z (List.mem_cons_of_mem _ hz)
theorem qC {ns x:List Int} {l:List (List Int)} (g:Ge2 ns) (hx:El ns x) (h:∀y∈l,El ns y):cK ns (x::l)=az ns x (cK ns l):=by
 unfold cK
 rw [List.foldl_cons,iT hx,←fold_add g l x _ hx (El.zero g) h,kA hx]
noncomputable def Els (g:List Int) (is:List (List Int)):Prop:=∀x∈is,El g x
theorem Els.wz {g:List Int} {is:List (List Int)} (e:Els g is) (gg:Ge2 g) (x:List Int):∀y∈(x.zip is).map fun p=>aE g p.1 p.2,El g y:=fun y hy=>by
 obtain ⟨p,hp,rfl⟩:=List.mem_map.mp hy
 exact (e _ (List.of_mem_zip hp).2).mul gg
theorem mE {g:List Int} {is:List (List Int)}:ak g is []=List.replicate g.length 0:=rfl
theorem fJ {g x:List Int}:ak g [] x=List.replicate g.length 0:=by unfold ak;rw [List.zip_nil_right];rfl
theorem bz {g i x:List Int} {a:Int} {is:List (List Int)} (gg:Ge2 g) (hi:El g i) (e:Els g is):ak g (i::is) (a::x)=az g (aE g a i) (ak g is x):=by
 unfold ak
 rw [List.zip_cons_cons,List.map_cons]
 exact qC gg (hi.mul gg) (e.wz gg x)
theorem dh {g:List Int} {is:List (List Int)} (gg:Ge2 g) (e:Els g is) (x:List Int):El g (ak g is x):=mm gg _ _ (El.zero gg) (e.wz gg x)
theorem Im.nil {g:List Int}:Im [] g []:=⟨rfl,(fun x h=>by cases h),(fun p h=>by cases h)⟩
theorem Im.cons {a:Int} {s g i:List Int} {is:List (List Int)} (h1:El g i) (h2:aE g a i=List.replicate g.length 0) (h:Im s g is):Im (a::s) g (i::is):=
 ⟨by simp [h.len],fun x hx=>(List.mem_cons.mp hx).elim (fun e=>e▸h1) (h.el x),fun p hp=>(List.mem_cons.mp (List.zip_cons_cons▸hp)).elim (fun e=>by subst e;exact h2) (h.ann p)⟩
theorem Im.inv {a:Int} {s g:List Int} {is:List (List Int)} (h:Im (a::s) g is):∃i r,is=i::r∧El g i∧aE g a i=List.replicate g.length 0∧Im s g r:=by
 cases is with
 |nil=>cases h.len
 |cons i r=>exact ⟨i,r,rfl,h.el i List.mem_cons_self,h.ann (a,i) (by simp),⟨by simpa using h.len,fun x hx=>h.el x (List.mem_cons_of_mem _ hx),fun p hp=>h.ann p (by rw [List.zip_cons_cons];exact List.mem_cons_of_mem _ hp)⟩⟩
theorem Im.nil_eq {g:List Int} {is:List (List Int)} (h:Im [] g is):is=[]:=List.length_eq_zero_iff.mp h.len
theorem mV {g:List Int} (gg:Ge2 g):∀{m x y:List Int} {js:List (List Int)},Im m g js->El m x->El m y->ak g js (az m x y)=az g (ak g js x) (ak g js y)
 |[],x,y,js,im,h1,h2=>by
  have:=h1.nil_eq;have:=h2.nil_eq;subst_vars
  show List.replicate g.length 0=_
  exact (kA (El.zero gg)).symm
 |n::m,x,y,js,im,h1,h2=>by
  obtain ⟨a,x',rfl,_,_,hx⟩:=h1.inv
  obtain ⟨b,y',rfl,_,_,hy⟩:=h2.inv
  obtain ⟨j,r,rfl,hj,ha,im'⟩:=im.inv
  rw [aD,bz gg hj im'.el,bz gg hj im'.el,bz gg hj im'.el,mV gg im' hx hy,kj gg hj ha,←add_mul hj]
  exact yd gg (hj.mul gg) (hj.mul gg) (dh gg im'.el _) (dh gg im'.el _)
theorem gQ {g:List Int} {k:Int} (gg:Ge2 g):∀{m x:List Int} {js:List (List Int)},Im m g js->El m x->ak g js (aE m k x)=aE g k (ak g js x)
 |[],x,js,im,h1=>by
  have:=h1.nil_eq;subst_vars
  show List.replicate g.length 0=_
  exact (cQ k g).symm
 |n::m,x,js,im,h1=>by
  obtain ⟨a,x',rfl,_,_,hx⟩:=h1.inv
  obtain ⟨j,r,rfl,hj,ha,im'⟩:=im.inv
  rw [aB,bz gg hj im'.el,bz gg hj im'.el,gQ gg im' hx,kj gg hj ha,←iD hj,lI (hj.mul gg) (dh gg im'.el _)]
theorem hX {g m:List Int} {js:List (List Int)} (gg:Ge2 g) (gm:Ge2 m) (im:Im m g js):ak g js (List.replicate m.length 0)=List.replicate g.length 0:=by
 have:=gQ (k:=0) gg im (El.zero gm)
 rw [cQ,f_ (dh gg im.el _)] at this
 exact this
theorem gS {g m:List Int} {js:List (List Int)} (gg:Ge2 g) (gm:Ge2 m) (im:Im m g js):∀{is:List (List Int)} (x:List Int),Els m is->ak g (is.map (ak g js)) x=ak g js (ak m is x)
 |is,[],_=>by rw [mE,mE,hX gg gm im]
 |[],a::x,_=>by rw [List.map_nil,fJ,fJ,hX gg gm im]
 |i::is,a::x,e=>by
  have hi:=e i List.mem_cons_self
  have e':Els m is:=fun z hz=>e z (List.mem_cons_of_mem _ hz)
  have e2:Els g (is.map (ak g js)):=fun z hz=>by
   obtain ⟨w,_,rfl⟩:=List.mem_map.mp hz
   exact dh gg im.el w
  rw [List.map_cons,bz gg (dh gg im.el i) e2,bz gm hi e',gS gg gm im x e',mV gg im (hi.mul gm) (dh gm e' x),gQ gg im hi]
theorem Im.comp {g m:List Int} {js:List (List Int)} (gg:Ge2 g) (gm:Ge2 m) (im:Im m g js):∀{s:List Int} {is:List (List Int)},Im s m is->Im s g (is.map (ak g js))
 |[],is,h=>by rw [h.nil_eq];exact Im.nil
 |a::s,is,h=>by
  obtain ⟨i,r,rfl,hi,ha,h'⟩:=h.inv
  rw [List.map_cons]
  refine Im.cons (dh gg im.el i) ?_ (Im.comp gg gm im h')
  rw [←gQ gg im hi,ha,hX gg gm im]
noncomputable def hdI:List Int->List (List Int)
 |[]=>[]
 |_::ns=>(1::List.replicate ns.length 0)::(hdI ns).map (0::·)
theorem mD {n:Int} {ns:List Int} (h:Ge2 (n::ns)):∀{is:List (List Int)} (x:List Int),Els ns is->ak (n::ns) (is.map (0::·)) x=0::ak ns is x
 |is,[],_=>rfl
 |[],a::x,_=>by rw [List.map_nil,fJ,fJ];rfl
 |i::is,a::x,e=>by
  have hi:=e i List.mem_cons_self
  have e':Els ns is:=fun z hz=>e z (List.mem_cons_of_mem _ hz)
  have hp:=h.head
  have e2:Els (n::ns) (is.map (0::·)):=fun z hz=>by
   obtain ⟨w,hw,rfl⟩:=List.mem_map.mp hz
   exact El.cons (by omega) (by omega) (e' w hw)
  rw [List.map_cons,bz h (El.cons (by omega) (by omega) hi) e2,mD h x e',bz h.tail hi e',aB,aD,Int.mul_zero,Int.zero_emod,Int.add_zero,Int.zero_emod]
theorem kC:∀{ns:List Int},Ge2 ns->Im ns ns (hdI ns)
 |[],_=>Im.nil
 |n::ns,h=>by
  have hp:=h.head
  have ih:=kC h.tail
  refine Im.cons (El.cons (by omega) (by omega) (El.zero h.tail)) ?_ ⟨?_,?_,?_⟩
  ·rw [aB,cQ,Int.mul_one,Int.emod_self];rfl
  ·rw [List.length_map,ih.len]
  ·intro z hz
   obtain ⟨w,hw,rfl⟩:=List.mem_map.mp hz
   exact El.cons (by omega) (by omega) (ih.el w hw)
  ·intro p hp
   rw [List.zip_map_right] at hp
   obtain ⟨q,hq,rfl⟩:=List.mem_map.mp hp
   show aE (n::ns) q.1 (0::q.2)=_
   rw [aB,ih.ann q hq,Int.mul_zero,Int.zero_emod];rfl
theorem iM:∀{ns x:List Int},Ge2 ns->El ns x->ak ns (hdI ns) x=x
 |[],x,_,hx=>by have:=hx.nil_eq;subst_vars;rfl
 |n::ns,x,h,hx=>by
  obtain ⟨a,x',rfl,h1,h2,hx'⟩:=hx.inv
  have hp:=h.head
  have ih:=kC h.tail
  have e2:Els (n::ns) ((hdI ns).map (0::·)):=fun z hz=>by
   obtain ⟨w,hw,rfl⟩:=List.mem_map.mp hz
   exact El.cons (by omega) (by omega) (ih.el w hw)
  show ak (n::ns) ((1::List.replicate ns.length 0)::(hdI ns).map (0::·)) (a::x')=_
  rw [bz h (El.cons (by omega) (by omega) (El.zero h.tail)) e2,mD h _ ih.el,iM h.tail hx',aB,cQ,aD,iT hx',Int.mul_one,Int.add_zero,Int.emod_emod,Int.emod_eq_of_lt h1 h2]
section
variable {G:Prg} {C CM NL:Addr} {n:Nat}
theorem oH:∀ns:List Int,hdI ns=(List.range ns.length).map fun i:Nat=>(List.range ns.length).map fun k:Nat=>if (k:Int)=(i:Int) then 1 else 0
 |[]=>rfl
 |m::ns=>by
  show (1::List.replicate ns.length 0)::(hdI ns).map (0::·)=_
  rw [oH ns,List.length_cons,List.range_succ_eq_map,List.map_cons,List.map_map,List.map_map]
  congr 1
  ·rw [List.map_cons,List.map_map]
   congr 1
   refine (List.ext_getElem (by simp) fun i h1 h2=>?_)
   simp
  ·refine List.map_congr_left fun i _=>?_
   simp only [Function.comp_def,List.map_cons,List.map_map]
   congr 1
   refine List.map_congr_left fun k _=>?_
   have:((k.succ:Nat):Int)=((i.succ:Nat):Int)↔(k:Int)=(i:Int):=by omega
   simp only [this]
theorem u7 {ns:List Int} (M:GM G C) (g:Good ns):kal G (n+1) "Rounds.heads" [grp C ns]=some (.fr (.l ((hdI ns).map tupI))):=by
 refine xJ M.hds ⟨rfl,rfl⟩ (ρ0:=[.val (grp C ns),.nil]) rfl ?_
 have hf:=dX (ns:=ns) M.A
 have hl:(ns.map D.int).length=ns.length:=by simp
 have hs:aP (tupI ns)=some (ns.map .int):=rfl
 have hb:=xF (n:=ns.length) (by have:=g.bA;omega)
 refine st (ρ':=[.val (grp C ns),.val (.int (ns.length:Int))]) (by dsimp? [hf,hs,hl]) (Aa ?_)
 have key:ev G (kal G n) (.comp 1 [1] (.nm 0) (.blt .range [(.var 1)]) (.lit (.bl true)) (.emit (.blt .tuple [(.comp 1 [0] (.nm 0) (.blt .range [(.var 1)]) (.lit (.bl true)) (.emit (.ife (.cmp .eq (.var 0) (.var 1)) (.lit (.int 1)) (.lit (.int 0)))))]))) [.val (grp C ns),.val (.int (ns.length:Int))]=some (.lst ((hdI ns).map tupI)):=by
  have e0:(hdI ns).map tupI=(bj ns.length).map fun i:Int=>tupI ((List.range ns.length).map fun k:Nat=>if (k:Int)=i then 1 else 0):=by
   rw [oH,List.map_map,j8]
   rfl
  rw [e0]
  refine bB (g:=D.int) (by simp only [evI,evA,ev.eq_1,aQ,List.getElem?_cons_zero,List.getElem?_cons_succ,hb]) rfl (by rw [j6];exact Nat.le_trans g.bA (by decide)) fun i hi=>⟨[.val (.int i),.val (.int (ns.length:Int))],rfl,?_⟩
  have k2:ev G (kal G n) (.comp 1 [0] (.nm 0) (.blt .range [(.var 1)]) (.lit (.bl true)) (.emit (.ife (.cmp .eq (.var 0) (.var 1)) (.lit (.int 1)) (.lit (.int 0))))) [.val (.int i),.val (.int (ns.length:Int))]=some (.lst ((bj ns.length).map fun k=>D.int (if k=i then 1 else 0))):=by
   refine bB (g:=D.int) (by simp only [evI,evA,ev.eq_1,aQ,List.getElem?_cons_zero,List.getElem?_cons_succ,hb]) rfl (by rw [j6];exact Nat.le_trans g.bA (by decide)) fun k hk=>⟨[.val (.int k),.val (.int i)],rfl,?_⟩
   by_cases e:k=i
   ·dsimp? [e]
   ·have e':decide (k=i)=false:=decide_eq_false e
    dsimp? [e',e]
  dsimp? [k2]
  rw [j8]
  unfold tupI
  rw [List.map_map]
  rfl
 dsimp? [key]
theorem uk {ns:List Int} (M:GM G C) (g:Good ns):bq G (kal G (n+1)) (grp C ns) "heads" []=some (.fr (.l ((hdI ns).map tupI))):=eK rfl M.AR (u7 M g)
theorem AV {a:List Int} (M:GP G C CM):kal G (n+2) "need_like" [grp C a,grp C a]=some (.ok .non):=by
 refine lP M.nl ⟨rfl,rfl⟩ (ρ0:=[.val (grp C a),.val (grp C a)]) rfl (ρ:=[.val (grp C a),.val (grp C a)]) ?_
 have h:=pC (n:=n) (a:=a) (b:=a) M.toGM
 rw [decide_eq_true rfl] at h
 unfold P.dH
 dsimp? [h]
theorem zB {a b:List Int} (M:GP G C CM) (hx:G.exc "NotLike"=some (NL,[])) (hab:a≠b):kal G (n+2) "need_like" [grp C a,grp C b]=some (.xc (.exc NL [])):=by
 refine qo M.nl ⟨rfl,rfl⟩ (ρ0:=[.val (grp C a),.val (grp C b)]) rfl (ρ:=[.val (grp C a),.val (grp C b)]) ?_
 have h:=pC (n:=n) (a:=a) (b:=b) M.toGM
 rw [decide_eq_false hab] at h
 have k0:(0:Nat)<=1000:=by decide
 unfold P.dH
 dsimp? [h,hx,k0]
 rfl
theorem iE {s m g:List Int} {is js:List (List Int)} (M:GP G C CM) (gs:Good s) (gm:Good m) (gg:Good g) (im:Im s m is) (jm:Im m g js):bq G (kal G (n+9)) (aa CM C m g js) "behind" [aa CM C s m is]=some (.ok (aa CM C s g (is.map (ak g js)))):=by
 refine oj rfl M.wX (aK M.beh ⟨rfl,rfl⟩ (ρ0:=[.val (aa CM C m g js),.val (aa CM C s m is)]) rfl ?_)
 have h1:=fu (s:=s) (g:=m) (is:=is) M
 have h2:=d6 (s:=s) (g:=m) (is:=is) M
 have h3:=pU (s:=s) (g:=m) (is:=is) M
 have h4:=fu (s:=m) (g:=g) (is:=js) M
 have h5:=d6 (s:=m) (g:=g) (is:=js) M
 have h6:=M.fnl
 have h7:=AV (n:=n+6) (a:=m) M
 refine st (ρ':=[.val (aa CM C m g js),.val (aa CM C s m is)]) (by dsimp? [h2,h4,h6,h7]) (a9 ?_)
 have h8:=zD (n:=n+1) M gs gg (jm.comp gg.g2 gm.g2 im)
 have key:ev G (kal G (n+8)) (.comp 1 [0] (.nm 0) (.fld (.var 1) "images") (.lit (.bl true)) (.emit (.mth (.var 1) "led" [(.var 0)]))) [.val (aa CM C m g js),.val (aa CM C s m is)]=some (.lst ((is.map (ak g js)).map tupI)):=by
  rw [List.map_map]
  refine bB (g:=tupI) (by simp only [evI,evA,ev.eq_1,ev.eq_18,aQ,List.getElem?_cons_zero,List.getElem?_cons_succ,h3,nE]) rfl (by rw [im.len];exact Nat.le_trans gs.bA (by decide)) fun x hx=>⟨[.val (tupI x),.val (aa CM C m g js)],rfl,?_⟩
  have e1:=gN (n:=n+2) M gm gg jm (im.el x hx)
  dsimp? [e1]
  rfl
 simp only [af.eq_11,evV,evA,ev.eq_18,ev.eq_1,ah,aM,List.modify_zero_cons,List.modify_succ_cons,aQ,List.getElem?_cons_zero,List.getElem?_cons_succ,h1,h5,key,h8]
theorem oK {s m m' g:List Int} {is js:List (List Int)} (M:GP G C CM) (hx:G.exc "NotLike"=some (NL,[])) (hab:m≠m'):bq G (kal G (n+3)) (aa CM C m' g js) "behind" [aa CM C s m is]=some (.xc (.exc NL [])):=by
 refine oj rfl M.wX (qo M.beh ⟨rfl,rfl⟩ (ρ0:=[.val (aa CM C m' g js),.val (aa CM C s m is)]) rfl (ρ:=[.val (aa CM C m' g js),.val (aa CM C s m is)]) (zm ?_))
 have h2:=d6 (s:=s) (g:=m) (is:=is) M
 have h4:=fu (s:=m') (g:=g) (is:=js) M
 have h6:=M.fnl
 have h7:=zB (n:=n) M hx hab
 dsimp? [h2,h4,h6,h7]
end
section
variable {G:Prg} {C CM NL:Addr} {n:Nat}
theorem lX {key:Str} {sc:List Int} {k:Int} (hd:G.defs key=some (none,L.spread)) (hl:sc.length<=63) (hk:0<=k∧k<=1000):∃c,kal G (n+1) key [.lst (sc.map .int),.int k]=some (.ok (.int c)):=by
 have ln:(sc.map D.int).length=sc.length:=by simp
 have m1:∀i:Int,bE i 48271=true:=fun i=>e_ (by decide)
 have m3:∀i:Int,bE i 69621=true:=fun i=>e_ (by decide)
 have m6:∀i:Int,bE i 16807=true:=fun i=>e_ (by decide)
 have m7:∀i:Int,bE 31 i=true:=fun i=>gH (by decide)
 have m8:bE (k+3) (k+5)=true:=gH (by omega)
 have p1:(0:Int)<1000000007:=by decide
 have p2:(0:Int)<2147483647:=by decide
 have p3:(0:Int)<2147483629:=by decide
 have p4:(0:Int)<2147483648:=by decide
 have p5:(0:Int)<2:=by decide
 have tail:∀c:Int,IN.run G (kal G n) (L.spread.body.drop 4) [.val (.lst (sc.map .int)),.val (.int k),.val (.int ((sc.length:Int) - 1)),.val (.int c),.nil]=some (.rt (.int ((c%1000000007*48271+(k+3)*(k+5)*69621)%2147483647*16807%2147483629))):=fun c=>by
  unfold L.spread
  simp only [List.drop]
  dsimp? [p1,p2,p3,m1,m3,m6,m8]
 have t1:IN.af G (kal G n) (.asg (.nm 2) (.bin .sub (.blt .len [(.var 0)]) (.lit (.int 1))) [0]) [.val (.lst (sc.map .int)),.val (.int k),.nil,.nil,.nil]=some (.nx [.val (.lst (sc.map .int)),.val (.int k),.val (.int ((sc.length:Int) - 1)),.nil,.nil]):=by dsimp? [ln]
 have mid:IN.af G (kal G n) (L.spread.body.getD 1 .pass) [.val (.lst (sc.map .int)),.val (.int k),.val (.int ((sc.length:Int) - 1)),.nil,.nil]=some (.nx [.val (.lst (sc.map .int)),.val (.int k),.val (.int ((sc.length:Int) - 1)),.nil,.nil])->∃c,IN.run G (kal G n) L.spread.body [.val (.lst (sc.map .int)),.val (.int k),.nil,.nil,.nil]=some (.rt (.int c)):=fun t2=>by
  have t3:IN.af G (kal G n) (.asg (.nm 3) (.lit (.int 0)) []) [.val (.lst (sc.map .int)),.val (.int k),.val (.int ((sc.length:Int) - 1)),.nil,.nil]=some (.nx [.val (.lst (sc.map .int)),.val (.int k),.val (.int ((sc.length:Int) - 1)),.val (.int 0),.nil]):=rfl
  by_cases b:(0:Int)<(sc.length:Int)
  ·have b3:decide ((0:Int)<(sc.length:Int))=true:=decide_eq_true b
   have i2:atI (sc.map D.int) (k%(sc.length:Int))=some (D.int (at0 sc k)):=zb (by omega)
   exact ⟨_,st t1 (st t2 (st t3 (st (ρ':=[.val (.lst (sc.map .int)),.val (.int k),.val (.int ((sc.length:Int) - 1)),.val (.int (at0 sc k)),.nil]) (by dsimp? [ln,b,b3,i2]) (tail (at0 sc k)))))⟩
  ·have b3:decide ((0:Int)<(sc.length:Int))=false:=decide_eq_false b
   exact ⟨_,st t1 (st t2 (st t3 (st (ρ':=[.val (.lst (sc.map .int)),.val (.int k),.val (.int ((sc.length:Int) - 1)),.val (.int 0),.nil]) (by dsimp? [ln,b3]) (tail 0))))⟩
 have go:∃c,IN.run G (kal G n) L.spread.body [.val (.lst (sc.map .int)),.val (.int k),.nil,.nil,.nil]=some (.rt (.int c)):=by
  by_cases hb:(0:Int)<(sc.length:Int) - 1
  ·have b1:decide ((0:Int)<(sc.length:Int) - 1)=true:=decide_eq_true hb
   have i0:=sW (l:=sc) (k:=0) (by decide) (by omega)
   by_cases ho:gd sc 0%2=1
   ·have b2:decide (gd sc 0%2=1)=true:=decide_eq_true ho
    have q0:0<=k%((sc.length:Int) - 1):=Int.emod_nonneg _ (by omega)
    have q1:k%((sc.length:Int) - 1)<(sc.length:Int) - 1:=Int.emod_lt_of_pos _ hb
    have i1:=sW (l:=sc) (k:=1+k%((sc.length:Int) - 1)) (by omega) (by omega)
    have d1:(0:Int)<(sc.length:Int) - 1∧((sc.length:Int) - 1).toNat<1073741824:=by omega
    have d2:0<=31*(k / ((sc.length:Int) - 1)):=by
     have:=Int.ediv_nonneg hk.1 (show 0<=(sc.length:Int) - 1 by omega)
     omega
    exact ⟨gd sc (1+k%((sc.length:Int) - 1)) / 2^(31*(k / ((sc.length:Int) - 1))).toNat%2147483648,st t1 (a9 (by dsimp? [b1,b2,i0,i1,d1,d2,hb,p5,p4,m7]))⟩
   ·have b2:decide (gd sc 0%2=1)=false:=decide_eq_false ho
    refine mid ?_
    unfold L.spread
    simp only [List.getD_cons_succ,List.getD_cons_zero]
    dsimp? [b1,b2,i0,p5]
  ·have b1:decide ((0:Int)<(sc.length:Int) - 1)=false:=decide_eq_false hb
   refine mid ?_
   unfold L.spread
   simp only [List.getD_cons_succ,List.getD_cons_zero]
   dsimp? [b1]
 obtain ⟨c,e⟩:=go
 exact ⟨c,aK hd ⟨rfl,rfl⟩ (ρ0:=[.val (.lst (sc.map .int)),.val (.int k),.nil,.nil,.nil]) rfl e⟩
noncomputable def c8:List (List Int):=[[2],[4],[2,2],[6],[12],[2,4],[3,9],[5],[],[144],[2,3,4],[8,2],[10,14],[2,2,2,3]]
theorem jq {key:Str} {c:Int} (hd:G.defs key=some (none,L.group)):∃ns∈c8,kal G (n+1) key [.int c]=some (.ok (tupI ns)):=by
 have h0:0<=c%14:=Int.emod_nonneg _ (by decide)
 have h1:c%14<14:=Int.emod_lt_of_pos _ (by decide)
 have p:(0:Int)<14:=by decide
 refine ⟨c8.getD (c%14).toNat [],?_,?_⟩
 ·have:(c%14).toNat<14:=by omega
  generalize (c%14).toNat=i at this
  have:∀i<14,c8.getD i []∈c8:=by decide
  exact this i ‹_›
 ·refine aK hd ⟨rfl,rfl⟩ (ρ0:=[.val (.int c),.nil]) rfl ?_
  have s0:0<=sizeLine:=by decide
  have s1:1<=sizeLine:=by decide
  have s2:2<=sizeLine:=by decide
  have s3:3<=sizeLine:=by decide
  have s4:4<=sizeLine:=by decide
  have s13:13<=sizeLine:=by decide
  have s14:14<=sizeLine:=by decide
  have e:atI (c8.map tupI) (c%14)=some (tupI (c8.getD (c%14).toNat [])):=by
   obtain ⟨j,hj⟩:=Int.eq_ofNat_of_zero_le h0
   rw [hj] at h1 ⊢
   have:j<c8.length:=by show j<14;omega
   refine je ?_
   simp [this]
  refine st (ρ':=[.val (.int c),.owx (.l ((c8.take 13).map tupI))]) (by dsimp? [s0,s1,s2,s3,s4,s13,bI];rfl) (a9 ?_)
  have e2:(c8.take 13).map tupI++[tupI [2,2,2,3]]=c8.map tupI:=rfl
  have e3:((c8.take 13).map tupI).length=13:=rfl
  have e4:D.tup [D.int 2,D.int 2,D.int 2,D.int 3]=tupI [2,2,2,3]:=rfl
  dsimp? [s4,e2,e3,e4,s14,s1,e,p]
end
section
variable {G:Prg} {C CM NL:Addr} {n:Nat}
theorem rP {m c:Int} {ns:List Int}:elI (m::ns) c=c%m::elI ns (c / m):=by
 have go:∀(ns:List Int) (c:Int) (f:List Int),(ns.foldl est (c,f)).2=f++(ns.foldl est (c,[])).2:=by
  intro ns
  induction ns with
  |nil=>intro c f;simp
  |cons n ns ih=>
   intro c f
   show (ns.foldl est (c / n,f++[c%n])).2=f++(ns.foldl est (c / n,[]++[c%n])).2
   rw [ih,ih (c / n) ([]++[c%n]),List.append_assoc];rfl
 show (ns.foldl est (c / m,[]++[c%m])).2=_
 rw [go];rfl
theorem sj {key:Str} {ns:List Int} {c:Int} (hd:G.defs key=some (none,L.element)) (h1:∀m∈ns,1<=m∧m<1000000) (hl:ns.length<=1000):kal G (n+1) key [.lst (ns.map .int),.int c]=some (.ok (tupI (elI ns c))):=by
 refine aK hd ⟨rfl,rfl⟩ (ρ0:=[.val (.lst (ns.map .int)),.val (.int c),.nil,.nil]) rfl ?_
 refine st (ρ':=[.val (.lst (ns.map .int)),.val (.int c),.owx (.l []),.nil]) rfl ?_
 refine st (ρ':=[.val (.lst (ns.map .int)),.val (.int c),.owx (.l []),.any]) rfl ?_
 refine st (eL (g:=D.int) (fun done=>[.val (.lst (ns.map .int)),.val (.int (bW c done).1),.owx (.l ((bW c done).2.map D.int)),.any]) ns rfl rfl fun done a rest e=>?_) ?_
 ·refine ⟨[.val (.lst (ns.map .int)),.val (.int (bW c done).1),.owx (.l ((bW c done).2.map D.int)),.val (.int a)],rfl,?_⟩
  rw [jY]
  have hl2:=lG c done
  generalize bW c done=s at hl2 ⊢
  have h2:=h1 a (by rw [e];simp)
  have p1:0<a:=by omega
  have p2:0<a∧a.toNat<1073741824:=by omega
  have e6:(s.2.map D.int).length<sizeLine:=by
   rw [List.length_map,hl2]
   have:done.length<=ns.length:=by rw [e];simp
   exact Nat.lt_of_le_of_lt (show done.length<=1000 by omega) (by decide)
  have e7:s.2.map D.int++[D.int (s.1%a)]=(s.2++[s.1%a]).map D.int:=by simp
  have em:est s a=(s.1 / a,s.2++[s.1%a]):=rfl
  rw [em]
  dsimp? [p1,p2,e6,e7]
 ·refine a9 ?_
  have e8:aP (.lst ((bW c ns).2.map D.int))=some ((bW c ns).2.map D.int):=rfl
  dsimp? [e8]
  rfl
noncomputable def bZ (m:Int) (g:List Int) (c:Int):List Int:=((g.map fun k=>k / aH k m).zip (elI (g.map fun k=>aH k m) c)).map fun p=>p.1*p.2
theorem qS {m k c:Int} {g:List Int}:bZ m (k::g) c=k / aH k m*(c%aH k m)::bZ m g (c / aH k m):=by
 unfold bZ
 rw [List.map_cons,List.map_cons,rP,List.zip_cons_cons,List.map_cons]
theorem nz (k m:Int):aH k m∣k:=Int.gcd_dvd_left ..
theorem zV (k m:Int):aH k m∣m:=Int.gcd_dvd_right ..
theorem gF {m:Int}:∀{g:List Int} {c:Int},Ge2 g->El g (bZ m g c)∧aE g m (bZ m g c)=List.replicate g.length 0
 |[],c,_=>⟨El.nil,rfl⟩
 |k::g,c,h=>by
  have hk:=h.head
  have hp:=gL (b:=m) hk
  obtain ⟨i1,i2⟩:=gF (m:=m) (g:=g) (c:=c / aH k m) h.tail
  obtain ⟨q,hq⟩:=nz k m
  obtain ⟨r,hr⟩:=zV k m
  have e:k / aH k m=q:=by
   conv=>lhs;arg 1;rw [hq]
   exact Int.mul_ediv_cancel_left _ (by omega)
  have d0:0<=c%aH k m:=Int.emod_nonneg _ (by omega)
  have d1:c%aH k m<aH k m:=Int.emod_lt_of_pos _ hp
  have q0:0<q:=by
   rcases (by omega:0<q∨q<=0) with h|h
   ·exact h
   ·have:=Int.mul_nonneg (Int.le_of_lt hp) (show 0<= -q by omega)
    rw [Int.mul_neg] at this
    omega
  rw [qS,e]
  generalize hd:c%aH k m=d at d0 d1
  refine ⟨El.cons (Int.mul_nonneg (by omega) d0) ?_ i1,?_⟩
  ·have:=Int.mul_lt_mul_of_pos_left d1 q0
   rw [Int.mul_comm q (aH k m),←hq] at this
   exact this
  ·rw [aB,i2]
   have:m*(q*d)%k=0:=by
    have e2:m*(q*d)=k*(r*d):=by
     conv=>lhs;rw [hr]
     conv=>rhs;rw [hq]
     simp only [Int.mul_assoc,Int.mul_left_comm]
    rw [e2,Int.mul_emod_right]
   rw [this];rfl
theorem mj {key:Str} {m c:Int} {g:List Int} (hd:G.defs key=some (none,L.image)) (h1:G.defs "_law_divisor"=some (none,L.gcd)) (f1:G.fn "_law_divisor"=some ("_law_divisor":Str)) (h2:G.defs "_law_drawn"=some (none,L.element)) (f2:G.fn "_law_drawn"=some ("_law_drawn":Str)) (gg:Good g) (hm:0<=m) (hm2:m<1000):
  kal G (n+2) key [.int m,tupI g,.int c]=some (.ok (tupI (bZ m g c))):=by
 refine aK hd ⟨rfl,rfl⟩ (ρ0:=[.val (.int m),.val (tupI g),.val (.int c),.nil,.nil]) rfl ?_
 have hz:g.length<=sizeLine:=Nat.le_trans gg.bA (by decide)
 have k1:ev G (kal G (n+1)) (.comp 1 [0] (.nm 0) (.var 1) (.lit (.bl true)) (.emit (.bin .fdiv (.var 0) (.fn "_law_divisor" [(.var 0),(.var 1)])))) [.val (.int m),.val (tupI g),.val (.int c),.nil,.nil]=some (.lst (g.map fun k=>D.int (k / aH k m))):=by
  refine bB (g:=D.int) rfl rfl hz fun k hk=>⟨[.val (.int k),.val (.int m)],rfl,?_⟩
  have hk2:=gg.ge k hk
  have hk3:=gg.lt k hk
  have e1:=ti (G:=G) (n:=n) (a:=k) (b:=m) h1 (by omega) hm
  have gp:=gL (b:=m) hk2
  have gl:=Int.le_of_dvd (by omega) (nz k m)
  have p2:0<aH k m∧(aH k m).toNat<1073741824:=by omega
  dsimp? [f1,e1,p2]
 have k2:∀s3:Sl,ev G (kal G (n+1)) (.comp 1 [0] (.nm 0) (.var 1) (.lit (.bl true)) (.emit (.fn "_law_divisor" [(.var 0),(.var 1)]))) [.val (.int m),.val (tupI g),.val (.int c),s3,.nil]=some (.lst ((g.map fun k=>aH k m).map D.int)):=fun s3=>by
  rw [List.map_map]
  refine bB (g:=D.int) rfl rfl hz fun k hk=>⟨[.val (.int k),.val (.int m)],rfl,?_⟩
  have hk2:=gg.ge k hk
  have e1:=ti (G:=G) (n:=n) (a:=k) (b:=m) h1 (by omega) hm
  dsimp? [f1,e1]
  rfl
 have e3:=sj (n:=n) (c:=c) (ns:=g.map fun k=>aH k m) h2 (fun x hx=>by
  obtain ⟨k,hk,rfl⟩:=List.mem_map.mp hx
  have hk2:=gg.ge k hk
  have hk3:=gg.lt k hk
  have gp:=gL (b:=m) hk2
  have gl:=Int.le_of_dvd (by omega) (nz k m)
  omega) (by rw [List.length_map];exact gg.bA)
 have fr:bI (.l (g.map fun k=>D.int (k / aH k m)))=true:=by
  have:=c5 (g.map fun k=>k / aH k m)
  rw [List.map_map] at this
  exact this
 refine st (ρ':=[.val (.int m),.val (tupI g),.val (.int c),.owx (.l (g.map fun k=>D.int (k / aH k m))),.nil]) (by dsimp? [k1,fr]) ?_
 refine st (ρ':=[.val (.int m),.val (tupI g),.val (.int c),.owx (.l (g.map fun k=>D.int (k / aH k m))),.val (tupI (elI (g.map fun k=>aH k m) c))]) (by dsimp? [k2,f2,e3]) ?_
 refine a9 ?_
 have hz2:cg .zip [.lst (g.map fun k=>D.int (k / aH k m)),tupI (elI (g.map fun k=>aH k m) c)]=some (((g.map fun k=>k / aH k m).zip (elI (g.map fun k=>aH k m) c)).map fun p=>D.tup [.int p.1,.int p.2]):=by
  rw [←g9,List.map_map];exact iU rfl rfl
 have k3:ev G (kal G (n+1)) (.comp 2 [] (.tp [(.nm 0),(.nm 1)]) (.blt .zip [(.var 3),(.var 4)]) (.lit (.bl true)) (.emit (.bin .mul (.var 0) (.var 1)))) [.val (.int m),.val (tupI g),.val (.int c),.val (.lst (g.map fun k=>D.int (k / aH k m))),.val (tupI (elI (g.map fun k=>aH k m) c))]=some (.lst (((g.map fun k=>k / aH k m).zip (elI (g.map fun k=>aH k m) c)).map fun p=>D.int (p.1*p.2))):=by
  refine bB (g:=fun p:Int×Int=>D.tup [.int p.1,.int p.2]) (by simp only [evI,evA,ev.eq_1,aQ,List.getElem?_cons_zero,List.getElem?_cons_succ,hz2]) rfl ?_ fun p hp=>⟨[.val (.int p.1),.val (.int p.2)],rfl,?_⟩
  ·rw [List.length_zip,List.length_map]
   exact Nat.le_trans (Nat.min_le_left ..) hz
  ·have mo:bE p.1 p.2=true:=by
    obtain ⟨k,hk,e⟩:=List.mem_map.mp (List.of_mem_zip hp).1
    have hk2:=gg.ge k hk
    have hk3:=gg.lt k hk
    have a:=Int.ediv_le_self (aH k m) (show 0<=k by omega)
    have b:=Int.ediv_nonneg (show 0<=k by omega) (Int.le_of_lt (gL (b:=m) hk2))
    exact gH (by omega)
   dsimp? [mo]
 dsimp? [k3]
 unfold bZ tupI
 rw [List.map_map]
 rfl
end
section
variable {G:Prg} {C CM NL CE:Addr} {n:Nat}
theorem qm {key:Str} {g x:List Int} {is:List (List Int)} (hd:G.defs key=some (none,L.led)) (h1:G.defs "_law_sum"=some (none,L.sum)) (f1:G.fn "_law_sum"=some ("_law_sum":Str)) (h2:G.defs "_law_many"=some (none,L.gi)) (f2:G.fn "_law_many"=some ("_law_many":Str)) (gg:Good g) (e:Els g is):
  kal G (n+2) key [tupI g,.lst (is.map tupI),tupI x]=some (.ok (tupI (ak g is x))):=by
 refine aK hd ⟨rfl,rfl⟩ (ρ0:=[.val (tupI g),.val (.lst (is.map tupI)),.val (tupI x),.nil,.nil,.nil]) rfl ?_
 have k1:ev G (kal G (n+1)) (.comp 1 [] (.nm 0) (.var 0) (.lit (.bl true)) (.emit (.lit (.int 0)))) [.val (tupI g),.val (.lst (is.map tupI)),.val (tupI x),.nil,.nil,.nil]=some (.lst (g.map fun _=>D.int 0)):=
  bB (g:=D.int) rfl rfl (Nat.le_trans gg.bA (by decide)) fun k _=>⟨[.val (.int k)],rfl,rfl⟩
 have e1:D.tup (g.map fun _=>D.int 0)=tupI (List.replicate g.length 0):=by
  unfold tupI
  simp
  exact List.map_const' ..
 refine st (ρ':=[.val (tupI g),.val (.lst (is.map tupI)),.val (tupI x),.val (tupI (List.replicate g.length 0)),.nil,.nil]) (by dsimp? [k1,e1]) ?_
 refine st (ρ':=[.val (tupI g),.val (.lst (is.map tupI)),.val (tupI x),.val (tupI (List.replicate g.length 0)),.any,.any]) (by rfl) ?_
 have hz:cg .zip [tupI x,.lst (is.map tupI)]=some ((x.zip is).map fun p=>D.tup [.int p.1,tupI p.2]):=by rw [←lB];exact iU rfl rfl
 refine st (eL (g:=fun p:Int×List Int=>D.tup [.int p.1,tupI p.2]) (fun done=>[.val (tupI g),.val (.lst (is.map tupI)),.val (tupI x),.val (tupI (cK g (done.map fun p=>aE g p.1 p.2))),.any,.any]) (x.zip is) (by simp only [evI,evA,ev.eq_1,aQ,ah,aM,List.modify_zero_cons,List.modify_succ_cons,List.getElem?_cons_zero,List.getElem?_cons_succ,hz]) rfl fun done p rest ee=>?_) (a9 ?_)
 ·have hp:p∈x.zip is:=by rw [ee];simp
  have m1:=sd (n:=n) (m:=p.1) h2 gg (e _ (List.of_mem_zip hp).2)
  have m2:=yL (n:=n) (x:=cK g (done.map fun p=>aE g p.1 p.2)) (y:=aE g p.1 p.2) h1 gg
  refine ⟨[.val (tupI g),.val (.lst (is.map tupI)),.val (tupI x),.val (tupI (cK g (done.map fun p=>aE g p.1 p.2))),.val (.int p.1),.val (tupI p.2)],rfl,?_⟩
  rw [List.map_append,List.map_cons,List.map_nil,j1]
  dsimp? [f1,f2,m1,m2]
 ·dsimp? [f1]
  rfl
theorem zh {key:Str} {ns f d:List Int} (A:GA G C) (hd:G.defs key=some (none,L.is)) (hw:G.defs "_law_whole"=some (none,L.whole)) (fw:G.fn "_law_whole"=some ("_law_whole":Str)) (hl:f.length=ns.length) (hk:f.length<=1000):kal G (n+2) key [tupI ns,tupI f,tupI d]=some (.ok (.bl (decide (f=d)))):=by
 refine aK hd ⟨rfl,rfl⟩ (ρ0:=[.val (tupI ns),.val (tupI f),.val (tupI d)]) rfl ?_
 have h2:=A.qY
 have h3:b_ G (tupI f) (.ty "tuple")=some true:=A.kit "tuple" (by decide) "tuple" (by decide)
 have h4:aP (tupI f)=some (f.map .int):=rfl
 have h5:aP (tupI ns)=some (ns.map .int):=rfl
 have l1:(f.map D.int).length=f.length:=by simp
 have l2:(ns.map D.int).length=ns.length:=by simp
 have l3:decide ((f.length:Int)=(ns.length:Int))=true:=decide_eq_true (by omega)
 have key:ev G (kal G (n+1)) (.comp 1 [] (.nm 0) (.var 1) (.lit (.bl true)) (.emit (.fn "_law_whole" [(.var 0)]))) [.val (tupI ns),.val (tupI f),.val (tupI d)]=some (.lst ((f.map fun _=>true).map .bl)):=by
  rw [List.map_map]
  refine bB (g:=D.int) rfl rfl (Nat.le_trans hk (by decide)) fun p hp=>⟨[.val (.int p)],rfl,?_⟩
  have e2:=vW (i:=p) (n:=n) A hw
  dsimp? [fw,e2]
  rfl
 have hb:=dv (f.map fun _=>true)
 have ha:(f.map fun _=>true).all id=true:=by simp
 have h6:=gT f d
 dsimp? [L.is,h2,h3,h4,h5,l1,l2,l3,key,hb,ha,h6]
theorem o4 {key:Str} {s m m' g:List Int} {is js:List (List Int)} (hd:G.defs key=some (none,L.dw)) (M:GP G C CM) (hx:G.exc "NotLike"=some (NL,[])) (hg:G.glob "CarryError"=some (.cl CE)) (hs:G.sub NL CE=some true) (hab:m≠m')
  (hk:∀a b:D,ev G (kal G (n+3)) (.cmp .eq (.fn "_law_kinds" [(.var 2)]) (.fn "_law_class" [(.lit (.str "NotLike"))])) [.val a,.val b,.val (.exc NL []),.nil]=some (.bl true)):
  kal G (n+4) key [aa CM C m' g js,aa CM C s m is]=some (.ok (.bl true)):=by
 refine aK hd ⟨rfl,rfl⟩ (ρ0:=[.val (aa CM C m' g js),.val (aa CM C s m is),.nil,.nil]) rfl ?_
 have h1:=oK (n:=n) (s:=s) (m:=m) (m':=m') (g:=g) (is:=is) (js:=js) M hx hab
 refine st (ρ':=[.val (aa CM C m' g js),.val (aa CM C s m is),.val .non,.nil]) (by rfl) ?_
 refine st (ρ':=[.val (aa CM C m' g js),.val (aa CM C s m is),.val (.exc NL []),.nil]) ?_ (a9 ?_)
 ·have e1:IN.run G (kal G (n+3)) [(.exp (.mth (.var 0) "behind" [(.var 1)]) [0,1])] [.val (aa CM C m' g js),.val (aa CM C s m is),.val .non,.nil]=some (.xc [.val (aa CM C m' g js),.val (aa CM C s m is),.val .non,.nil] (.exc NL [])):=by dsimp? [h1]
  rw [af.eq_17,e1]
  dsimp? [hg,hs]
 ·have e2:=hk (aa CM C m' g js) (aa CM C s m is)
  have e3:cZ (.exc NL [])=false:=rfl
  simp only [af.eq_11,evV,ev.eq_7,ev.eq_11,evT,ah,aM,List.modify_zero_cons,List.modify_succ_cons,ev.eq_1,aQ,List.getElem?_cons_zero,List.getElem?_cons_succ,e2,e3,Bool.not_false]
end
section
variable {G:Prg} {C CM NL CE:Addr} {n:Nat}
structure LM (G:Prg):Prop where
 spr:G.defs "_law_spread"=some (none,L.spread)
 rG:G.fn "_law_spread"=some ("_law_spread":Str)
 grp:G.defs "_law_group"=some (none,L.group)
 Ay:G.fn "_law_group"=some ("_law_group":Str)
 img:G.defs "_law_image"=some (none,L.image)
 lW:G.fn "_law_image"=some ("_law_image":Str)
 div:G.defs "_law_divisor"=some (none,L.gcd)
 fdiv:G.fn "_law_divisor"=some ("_law_divisor":Str)
 dr:G.defs "_law_drawn"=some (none,L.element)
 fdr:G.fn "_law_drawn"=some ("_law_drawn":Str)
 sum:G.defs "_law_sum"=some (none,L.sum)
 fsum:G.fn "_law_sum"=some ("_law_sum":Str)
 man:G.defs "_law_many"=some (none,L.gi)
 za:G.fn "_law_many"=some ("_law_many":Str)
 led:G.defs "_law_led"=some (none,L.led)
 Bw:G.fn "_law_led"=some ("_law_led":Str)
 isl:G.defs "_law_is"=some (none,L.is)
 A3:G.fn "_law_is"=some ("_law_is":Str)
 whole:G.defs "_law_whole"=some (none,L.whole)
 xW:G.fn "_law_whole"=some ("_law_whole":Str)
 ref:G.defs "_law_refused"=some (none,L.dw)
 Ba:G.fn "_law_refused"=some ("_law_refused":Str)
theorem fZ:∀ns∈c8,Good ns:=by
 intro ns h
 simp only [c8,List.mem_cons,List.not_mem_nil,or_false] at h
 rcases h with rfl|rfl|rfl|rfl|rfl|rfl|rfl|rfl|rfl|rfl|rfl|rfl|rfl|rfl<;>exact ⟨by decide,by decide,by decide,by decide⟩
noncomputable def bS (a b:List Int) (cf:Nat->Int):List (List Int):=a.zipIdx.map fun p=>bZ p.1 b (cf p.2)
theorem oJ {a b:List Int} (gb:Ge2 b) (cf:Nat->Int):Im a b (bS a b cf):=by
 have go:∀(a:List Int) (k:Nat),Im a b ((a.zipIdx k).map fun p=>bZ p.1 b (cf p.2)):=by
  intro a
  induction a with
  |nil=>intro k;exact Im.nil
  |cons m a ih=>
   intro k
   rw [List.zipIdx_cons,List.map_cons]
   exact Im.cons (gF gb).1 (gF gb).2 (ih (k+1))
 exact go a 0
theorem tS (X:LM G) {sc:List Int} {cf:Int->Int} (hc:∀k:Int,0<=k->k<=1000->kal G (n+2) "_law_spread" [.lst (sc.map .int),.int k]=some (.ok (.int (cf k)))) {rs:List (List Int)} {a b:List Int} {k:Int} {S2:Sl} {imgs:List D} (hk:0<=k∧k<=1)
  (hS:S2=.owx (.l (rs.map tupI))∨S2=.val (.lst (rs.map tupI))) (ha:atI (rs.map tupI) k=some (tupI a)) (hb:atI (rs.map tupI) (k+1)=some (tupI b)) (ga:Good a) (gb:Good b):
  IN.af G (kal G (n+2)) (.for (.tp [(.nm 5),(.nm 6)]) (.blt .enum [(.ix (.var 2) (.var 1))]) [2,1] [(.app 4 (.fn "_law_image" [(.var 6),(.ix (.var 2) (.bin .add (.var 1) (.lit (.int 1)))),(.fn "_law_spread" [(.var 0),(.bin .add (.bin .add (.bin .mul (.lit (.int 10)) (.var 1)) (.lit (.int 10))) (.var 5))])]) [6,2,0,1,5]),(.fgt [5,6])])
   [.val (.lst (sc.map .int)),.val (.int k),S2,.owx (.l imgs),.owx (.l []),.any,.any,.nil,.nil,.nil,.nil,.nil,.nil,.nil,.nil,.nil,.nil]=
  some (.nx [.val (.lst (sc.map .int)),.val (.int k),.val (.lst (rs.map tupI)),.owx (.l imgs),.owx (.l ((bS a b fun j=>cf (10*k+10+j)).map tupI)),.any,.any,.nil,.nil,.nil,.nil,.nil,.nil,.nil,.nil,.nil,.nil]):=by
 have he:cg .enum [tupI a]=some (a.zipIdx.map fun p=>D.tup [.int (p.2:Int),.int p.1]):=by rw [←j5];rfl
 refine eL (g:=fun p:Int×Nat=>D.tup [.int (p.2:Int),.int p.1]) (fun done=>[.val (.lst (sc.map .int)),.val (.int k),.val (.lst (rs.map tupI)),.owx (.l imgs),.owx (.l ((done.map fun p=>bZ p.1 b (cf (10*k+10+p.2))).map tupI)),.any,.any,.nil,.nil,.nil,.nil,.nil,.nil,.nil,.nil,.nil,.nil]) a.zipIdx ?_ ?_ fun done p rest e=>?_
 ·rcases hS with rfl|rfl<;>simp only [evI,evA,ev.eq_1,ev.eq_16,aQ,ah,aM,Ow.D,List.modify_zero_cons,List.modify_succ_cons,List.getElem?_cons_zero,List.getElem?_cons_succ,i6,ha,he]
 ·rcases hS with rfl|rfl<;>rfl
 ·have hp:p∈a.zipIdx:=by rw [e];simp
  obtain ⟨m,i⟩:=p
  have hi:a[i]?=some m:=List.mk_mem_zipIdx_iff_getElem?.mp hp
  obtain ⟨hi1,hi2⟩:=List.getElem?_eq_some_iff.mp hi
  have hm:m∈a:=hi2▸List.getElem_mem hi1
  have hm2:=ga.ge m hm
  have hm3:=ga.lt m hm
  have l7:=ga.bA
  have dl:done.length<sizeLine:=by
   have h1:=congrArg List.length e
   rw [List.length_append,List.length_zipIdx,List.length_cons] at h1
   exact Nat.lt_of_le_of_lt (show done.length<=1000 by omega) (by decide)
  have ll:=ga.len
  have e1:=hc (10*k+10+i) (by omega) (by omega)
  have e2:=mj (n:=n) (m:=m) (c:=cf (10*k+10+i)) (g:=b) X.img X.div X.fdiv X.dr X.fdr gb (by omega) (by omega)
  have f1:=X.rG
  have f2:=X.lW
  have mo:bE 10 k=true:=gH (by decide)
  have dl2:((done.map fun p=>bZ p.1 b (cf (10*k+10+p.2))).map tupI).length<sizeLine:=by rw [List.length_map,List.length_map];exact dl
  refine ⟨[.val (.lst (sc.map .int)),.val (.int k),.val (.lst (rs.map tupI)),.owx (.l imgs),.owx (.l ((done.map fun p=>bZ p.1 b (cf (10*k+10+p.2))).map tupI)),.val (.int (i:Int)),.val (.int m),.nil,.nil,.nil,.nil,.nil,.nil,.nil,.nil,.nil,.nil],rfl,?_⟩
  rw [List.map_append,List.map_cons,List.map_nil,List.map_append,List.map_cons,List.map_nil]
  dsimp? [f1,f2,e1,e2,mo,hb,dl2]
end
section
variable {G:Prg} {C CM NL CE:Addr} {n:Nat}
theorem b7 {s g:List Int} {is:List (List Int)}:aq (aa CM C s g is)=true:=by
 show (aq (grp C s)&&(aq (grp C g)&&(aq (.tup (is.map tupI))&&true)))=true
 rw [eN,eN,show aq (.tup (is.map tupI))=true from ei is];rfl
theorem ym (X:LM G) {sc:List Int} {cf:Int->Int} (hc:∀k:Int,0<=k->k<=1000->kal G (n+2) "_law_spread" [.lst (sc.map .int),.int k]=some (.ok (.int (cf k)))) {r0 r1 r2:List Int} (g0:Good r0) (g1:Good r1) (g2:Good r2):
  IN.af G (kal G (n+2)) (.for (.nm 1) (.blt .range [(.lit (.int 2))]) [] [(.asg (.nm 4) (.lst []) []),(.fgt [5,6]),(.for (.tp [(.nm 5),(.nm 6)]) (.blt .enum [(.ix (.var 2) (.var 1))]) [2,1] [(.app 4 (.fn "_law_image" [(.var 6),(.ix (.var 2) (.bin .add (.var 1) (.lit (.int 1)))),(.fn "_law_spread" [(.var 0),(.bin .add (.bin .add (.bin .mul (.lit (.int 10)) (.var 1)) (.lit (.int 10))) (.var 5))])]) [6,2,0,1,5]),(.fgt [5,6])]),(.app 3 (.var 4) [4]),(.fgt [4,5,6])])
   [.val (.lst (sc.map .int)),.nil,.owx (.l ([r0,r1,r2].map tupI)),.owx (.l []),.any,.any,.any,.nil,.nil,.nil,.nil,.nil,.nil,.nil,.nil,.nil,.nil]=
  some (.nx [.val (.lst (sc.map .int)),.val (.int 1),.val (.lst ([r0,r1,r2].map tupI)),.owx (.l [.lst ((bS r0 r1 fun j=>cf (10*0+10+j)).map tupI),.lst ((bS r1 r2 fun j=>cf (10*1+10+j)).map tupI)]),.any,.any,.any,.nil,.nil,.nil,.nil,.nil,.nil,.nil,.nil,.nil,.nil]):=by
 refine eL (g:=D.int) (fun done=>match done with
  |[]=>[.val (.lst (sc.map .int)),.nil,.owx (.l ([r0,r1,r2].map tupI)),.owx (.l []),.any,.any,.any,.nil,.nil,.nil,.nil,.nil,.nil,.nil,.nil,.nil,.nil]
  |[_]=>[.val (.lst (sc.map .int)),.val (.int 0),.val (.lst ([r0,r1,r2].map tupI)),.owx (.l [.lst ((bS r0 r1 fun j=>cf (10*0+10+j)).map tupI)]),.any,.any,.any,.nil,.nil,.nil,.nil,.nil,.nil,.nil,.nil,.nil,.nil]
  |_=>[.val (.lst (sc.map .int)),.val (.int 1),.val (.lst ([r0,r1,r2].map tupI)),.owx (.l [.lst ((bS r0 r1 fun j=>cf (10*0+10+j)).map tupI),.lst ((bS r1 r2 fun j=>cf (10*1+10+j)).map tupI)]),.any,.any,.any,.nil,.nil,.nil,.nil,.nil,.nil,.nil,.nil,.nil,.nil]) [0,1] rfl rfl fun done k rest e=>?_
 have z1:([]:List D).length<sizeLine:=by decide
 have z2:∀d:D,[d].length<sizeLine:=fun d=>by show 1<sizeLine;decide
 have z3:(0:Nat)<=sizeLine:=by decide
 match done,e with
 |[],e=>
  cases e
  have h:=tS (n:=n) X hc (rs:=[r0,r1,r2]) (a:=r0) (b:=r1) (k:=0) (imgs:=[]) ⟨by decide,by decide⟩ (.inl rfl) rfl rfl g0 g1
  refine ⟨[.val (.lst (sc.map .int)),.val (.int 0),.owx (.l ([r0,r1,r2].map tupI)),.owx (.l []),.any,.any,.any,.nil,.nil,.nil,.nil,.nil,.nil,.nil,.nil,.nil,.nil],rfl,?_⟩
  refine st (ρ':=[.val (.lst (sc.map .int)),.val (.int 0),.owx (.l ([r0,r1,r2].map tupI)),.owx (.l []),.owx (.l []),.any,.any,.nil,.nil,.nil,.nil,.nil,.nil,.nil,.nil,.nil,.nil]) (by rfl) (st (by rfl) (st h (st (ρ':=[.val (.lst (sc.map .int)),.val (.int 0),.val (.lst ([r0,r1,r2].map tupI)),.owx (.l [.lst ((bS r0 r1 fun j=>cf (10*0+10+j)).map tupI)]),.val (.lst ((bS r0 r1 fun j=>cf (10*0+10+j)).map tupI)),.any,.any,.nil,.nil,.nil,.nil,.nil,.nil,.nil,.nil,.nil,.nil]) ?_ (st (by rfl) cm))))
  exact if_pos (e:=none) z1
 |[x],e=>
  cases e
  have h:=tS (n:=n) X hc (rs:=[r0,r1,r2]) (a:=r1) (b:=r2) (k:=1) (imgs:=[.lst ((bS r0 r1 fun j=>cf (10*0+10+j)).map tupI)]) ⟨by decide,by decide⟩ (.inr rfl) rfl rfl g1 g2
  refine ⟨[.val (.lst (sc.map .int)),.val (.int 1),.val (.lst ([r0,r1,r2].map tupI)),.owx (.l [.lst ((bS r0 r1 fun j=>cf (10*0+10+j)).map tupI)]),.any,.any,.any,.nil,.nil,.nil,.nil,.nil,.nil,.nil,.nil,.nil,.nil],rfl,?_⟩
  refine st (ρ':=[.val (.lst (sc.map .int)),.val (.int 1),.val (.lst ([r0,r1,r2].map tupI)),.owx (.l [.lst ((bS r0 r1 fun j=>cf (10*0+10+j)).map tupI)]),.owx (.l []),.any,.any,.nil,.nil,.nil,.nil,.nil,.nil,.nil,.nil,.nil,.nil]) (by rfl) (st (by rfl) (st h (st (ρ':=[.val (.lst (sc.map .int)),.val (.int 1),.val (.lst ([r0,r1,r2].map tupI)),.owx (.l [.lst ((bS r0 r1 fun j=>cf (10*0+10+j)).map tupI),.lst ((bS r1 r2 fun j=>cf (10*1+10+j)).map tupI)]),.val (.lst ((bS r1 r2 fun j=>cf (10*1+10+j)).map tupI)),.any,.any,.nil,.nil,.nil,.nil,.nil,.nil,.nil,.nil,.nil,.nil]) ?_ (st (by rfl) cm))))
  exact if_pos (e:=none) (z2 (.lst ((bS r0 r1 fun j=>cf (10*0+10+j)).map tupI)))
 |x::y::r,e=>simp at e
end
section
variable {G:Prg} {C CM NL CE:Addr} {n:Nat}
theorem yO (X:LM G) (M:GP G C CM) {sc:List Int} {cf:Int->Int} (hc:∀k:Int,0<=k->k<=1000->kal G (n+6) "_law_spread" [.lst (sc.map .int),.int k]=some (.ok (.int (cf k)))) {r0 r1 r2:List Int} (g0:Good r0) (g1:Good r1) (g2:Good r2) {i0 i1:List (List Int)} (m0:Im r0 r1 i0) (m1:Im r1 r2 i1) {S9:Sl} {hs:List D} {k:Int} (hk:0<=k∧k<=39):
  IN.run G (kal G (n+6)) [(.asg (.nm 14) (.fn "_law_drawn" [(.ix (.var 2) (.lit (.int 0))),(.fn "_law_spread" [(.var 0),(.bin .add (.lit (.int 40)) (.var 1))])]) [2,0,1]),(.asg (.nm 15) (.fn "_law_led" [(.ix (.var 2) (.lit (.int 1))),(.ix (.var 3) (.lit (.int 0))),(.var 14)]) [2,3,14]),(.ife (.or (.nt (.fn "_law_is" [(.ix (.var 2) (.lit (.int 2))),(.mth (.var 10) "led" [(.var 14)]),(.fn "_law_led" [(.ix (.var 2) (.lit (.int 2))),(.ix (.var 3) (.lit (.int 1))),(.var 15)])])) (.cmp .ne (.mth (.var 7) "led" [(.var 14)]) (.var 15))) [10,2,3,7,14,15] [(.ret (.lit (.bl false)) [])] []),(.asg (.nm 16) (.fn "_law_drawn" [(.ix (.var 2) (.lit (.int 1))),(.fn "_law_spread" [(.var 0),(.bin .add (.lit (.int 90)) (.var 1))])]) [2,0,1]),(.ife (.or (.cmp .ne (.mth (.ix (.var 13) (.lit (.int 0))) "led" [(.var 16)]) (.mth (.var 8) "led" [(.var 16)])) (.cmp .ne (.mth (.ix (.var 13) (.lit (.int 1))) "led" [(.var 16)]) (.var 16))) [8,13,16] [(.ret (.lit (.bl false)) [])] []),(.fgt [14,15,16])]
   [.val (.lst (sc.map .int)),.val (.int k),.val (.lst ([r0,r1,r2].map tupI)),.owx (.l [.lst (i0.map tupI),.lst (i1.map tupI)]),.any,.any,.any,.val (aa CM C r0 r1 i0),.val (aa CM C r1 r2 i1),S9,.val (aa CM C r0 r2 (i0.map (ak r2 i1))),.owx (.l hs),.val (aa CM C r1 r1 (hdI r1)),.owx (.l [aa CM C r1 r2 ((hdI r1).map (ak r2 i1)),aa CM C r1 r1 ((hdI r1).map (ak r1 (hdI r1)))]),.any,.any,.any]=
  some (.nx [.val (.lst (sc.map .int)),.val (.int k),.val (.lst ([r0,r1,r2].map tupI)),.owx (.l [.lst (i0.map tupI),.lst (i1.map tupI)]),.any,.any,.any,.val (aa CM C r0 r1 i0),.val (aa CM C r1 r2 i1),S9,.val (aa CM C r0 r2 (i0.map (ak r2 i1))),.owx (.l hs),.val (aa CM C r1 r1 (hdI r1)),.owx (.l [aa CM C r1 r2 ((hdI r1).map (ak r2 i1)),aa CM C r1 r1 ((hdI r1).map (ak r1 (hdI r1)))]),.any,.any,.any]):=by
 have f1:=X.rG
 have f2:=X.fdr
 have f3:=X.Bw
 have f4:=X.A3
 have c1:=hc (40+k) (by omega) (by omega)
 have c2:=hc (90+k) (by omega) (by omega)
 have x1:=jP (n:=n+5) (c:=cf (40+k)) X.dr g0
 have x2:=jP (n:=n+5) (c:=cf (90+k)) X.dr g1
 have hx:El r0 (elI r0 (cf (40+k))):=ph g0.g2
 have hy:El r1 (elI r1 (cf (90+k))):=ph g1.g2
 generalize elI r0 (cf (40+k))=x at x1 hx
 generalize elI r1 (cf (90+k))=y at x2 hy
 have d1:=qm (n:=n+4) (x:=x) X.led X.sum X.fsum X.man X.za g1 m0.el
 have d2:=qm (n:=n+4) (x:=ak r1 i0 x) X.led X.sum X.fsum X.man X.za g2 m1.el
 have hm:=kC g1.g2
 have l1:=gN (n:=n) M g0 g2 (m1.comp g2.g2 g1.g2 m0) hx
 rw [gS g2.g2 g1.g2 m1 x m0.el] at l1
 have l2:=gN (n:=n) M g0 g1 m0 hx
 have l3:=gN (n:=n) M g1 g2 (m1.comp g2.g2 g1.g2 hm) hy
 rw [gS g2.g2 g1.g2 m1 y hm.el,iM g1.g2 hy] at l3
 have l4:=gN (n:=n) M g1 g2 m1 hy
 have l5:=gN (n:=n) M g1 g1 (hm.comp g1.g2 g1.g2 hm) hy
 rw [gS g1.g2 g1.g2 hm y hm.el,iM g1.g2 hy,iM g1.g2 hy] at l5
 have hf:El r2 (ak r2 i1 (ak r1 i0 x)):=dh g2.g2 m1.el _
 have s1:=zh (n:=n+4) (ns:=r2) (f:=ak r2 i1 (ak r1 i0 x)) (d:=ak r2 i1 (ak r1 i0 x)) M.A X.isl X.whole X.xW hf.len (by have:=hf.len;have:=g2.bA;omega)
 rw [decide_eq_true rfl] at s1
 have n1:bc .ne (tupI (ak r1 i0 x)) (tupI (ak r1 i0 x))=some false:=by rw [d5,decide_eq_true rfl];rfl
 have n2:bc .ne (tupI (ak r2 i1 y)) (tupI (ak r2 i1 y))=some false:=by rw [d5,decide_eq_true rfl];rfl
 have n3:bc .ne (tupI y) (tupI y)=some false:=by rw [d5,decide_eq_true rfl];rfl
 have a0:atI ([r0,r1,r2].map tupI) 0=some (tupI r0):=rfl
 have a1:atI ([r0,r1,r2].map tupI) 1=some (tupI r1):=rfl
 have a2:atI ([r0,r1,r2].map tupI) 2=some (tupI r2):=rfl
 have b0:atI [D.lst (i0.map tupI),D.lst (i1.map tupI)] 0=some (.lst (i0.map tupI)):=rfl
 have b1:atI [D.lst (i0.map tupI),D.lst (i1.map tupI)] 1=some (.lst (i1.map tupI)):=rfl
 have w0:∀p q:D,atI [p,q] 0=some p:=fun _ _=>rfl
 have w1:∀p q:D,atI [p,q] 1=some q:=fun _ _=>rfl
 generalize [r0,r1,r2].map tupI=rs at*
 dsimp? [f1,f2,f3,f4,c1,c2,x1,x2,d1,d2,l1,l2,l3,l4,l5,s1,n1,n2,n3,a0,a1,a2,w0,w1]
end
section
variable {G:Prg} {C CM NL CE:Addr} {n:Nat}
theorem tT {b:List Int} (gb:Ge2 b):∀a:List Int,Im a b (a.map fun m=>bZ m b 0)
 |[]=>Im.nil
 |m::a=>by rw [List.map_cons];exact Im.cons (gF gb).1 (gF gb).2 (tT gb a)
theorem u4 {key:Str} {sc:List Int} (hd:G.defs key=some (none,L.jw)) (hl:sc.length<=63) (X:LM G) (M:GP G C CM) (hx:G.exc "NotLike"=some (NL,[])) (hg:G.glob "CarryError"=some (.cl CE)) (hs:G.sub NL CE=some true)
  (hkc:∀a b:D,ev G (kal G (n+10)) (.cmp .eq (.fn "_law_kinds" [(.var 2)]) (.fn "_law_class" [(.lit (.str "NotLike"))])) [.val a,.val b,.val (.exc NL []),.nil]=some (.bl true)):
  kal G (n+12) key [.lst (sc.map .int)]=some (.ok (.bl true)):=by
 obtain ⟨cf,hc⟩:∃cf:Int->Int,∀k:Int,0<=k->k<=1000->kal G (n+11) "_law_spread" [.lst (sc.map .int),.int k]=some (.ok (.int (cf k))):=
  ⟨fun k=>if h:0<=k∧k<=1000 then (lX (n:=n+10) (sc:=sc) X.spr hl h).choose else 0,fun k h1 h2=>by
   dsimp only;rw [dif_pos ⟨h1,h2⟩];exact (lX (n:=n+10) (sc:=sc) X.spr hl ⟨h1,h2⟩).choose_spec⟩
 obtain ⟨gf,hg1,hg2⟩:∃gf:Int->List Int,(∀c,gf c∈c8)∧∀c,kal G (n+11) "_law_group" [.int c]=some (.ok (tupI (gf c))):=
  ⟨fun c=>(jq (n:=n+10) (c:=c) X.grp).choose,fun c=>(jq (n:=n+10) (c:=c) X.grp).choose_spec.1,fun c=>(jq (n:=n+10) (c:=c) X.grp).choose_spec.2⟩
 refine aK hd ⟨rfl,rfl⟩ (ρ0:=[.val (.lst (sc.map .int)),.nil,.nil,.nil,.nil,.nil,.nil,.nil,.nil,.nil,.nil,.nil,.nil,.nil,.nil,.nil,.nil]) rfl ?_
 have f1:=X.rG
 have f2:=X.Ay
 have k1:ev G (kal G (n+11)) (.comp 1 [0] (.nm 0) (.blt .range [(.lit (.int 3))]) (.lit (.bl true)) (.emit (.fn "_law_group" [(.fn "_law_spread" [(.var 1),(.var 0)])]))) [.val (.lst (sc.map .int)),.nil,.nil,.nil,.nil,.nil,.nil,.nil,.nil,.nil,.nil,.nil,.nil,.nil,.nil,.nil,.nil]=some (.lst ((bj 3).map fun k=>tupI (gf (cf k)))):=by
  refine bB (g:=D.int) rfl rfl (by decide) fun k hk=>⟨[.val (.int k),.val (.lst (sc.map .int))],rfl,?_⟩
  have hk2:=jR hk
  have e1:=hc k hk2.1 (by omega)
  have e2:=hg2 (cf k)
  dsimp? [f1,f2,e1,e2]
 have ek:((bj 3).map fun k=>tupI (gf (cf k)))=[gf (cf 0),gf (cf 1),gf (cf 2)].map tupI:=rfl
 rw [ek] at k1
 have g0:=fZ _ (hg1 (cf 0))
 have g1:=fZ _ (hg1 (cf 1))
 have g2:=fZ _ (hg1 (cf 2))
 generalize gf (cf 0)=r0 at*
 generalize gf (cf 1)=r1 at*
 generalize gf (cf 2)=r2 at*
 have fr:bI (.l ([r0,r1,r2].map tupI))=true:=ei _
 refine st (ρ':=[.val (.lst (sc.map .int)),.nil,.owx (.l ([r0,r1,r2].map tupI)),.nil,.nil,.nil,.nil,.nil,.nil,.nil,.nil,.nil,.nil,.nil,.nil,.nil,.nil]) (by simp only [af.eq_1,evV,ah,aM,List.modify_zero_cons,k1,fr];rfl) ?_
 refine st (ρ':=[.val (.lst (sc.map .int)),.nil,.owx (.l ([r0,r1,r2].map tupI)),.owx (.l []),.nil,.nil,.nil,.nil,.nil,.nil,.nil,.nil,.nil,.nil,.nil,.nil,.nil]) (by rfl) ?_
 refine st (ρ':=[.val (.lst (sc.map .int)),.nil,.owx (.l ([r0,r1,r2].map tupI)),.owx (.l []),.any,.any,.any,.nil,.nil,.nil,.nil,.nil,.nil,.nil,.nil,.nil,.nil]) (by rfl) ?_
 refine st (ym (n:=n+9) X hc g0 g1 g2) ?_
 have m0:=oJ (a:=r0) g1.g2 fun j=>cf (10*0+10+j)
 have m1:=oJ (a:=r1) g2.g2 fun j=>cf (10*1+10+j)
 generalize (bS r0 r1 fun j=>cf (10*0+10+j))=i0 at m0
 generalize (bS r1 r2 fun j=>cf (10*1+10+j))=i1 at m1
 have o0:=kX (n:=n+8) (t:=tupI r0) M.A rfl g0
 have o1:=kX (n:=n+8) (t:=tupI r1) M.A rfl g1
 have o2:=kX (n:=n+8) (t:=tupI r2) M.A rfl g2
 have p0:=fj (n:=n+4) M g0 g1 m0
 have p1:=fj (n:=n+4) M g1 g2 m1
 have q0:aq (aa CM C r0 r1 i0)=true:=b7
 have q1:aq (aa CM C r1 r2 i1)=true:=b7
 have a0:atI ([r0,r1,r2].map tupI) 0=some (tupI r0):=rfl
 have a1:atI ([r0,r1,r2].map tupI) 1=some (tupI r1):=rfl
 have a2:atI ([r0,r1,r2].map tupI) 2=some (tupI r2):=rfl
 have w0:∀p q:D,atI [p,q] 0=some p:=fun _ _=>rfl
 have w1:∀p q:D,atI [p,q] 1=some q:=fun _ _=>rfl
 have it1:itD (tupI r1)=some (r1.map .int):=rfl
 have lt:=fun S9 hs k hk=>yO (n:=n+5) X M hc g0 g1 g2 m0 m1 (S9:=S9) (hs:=hs) (k:=k) hk
 generalize [r0,r1,r2].map tupI=rs at*
 have fi1:=M.A.qL.1
 have fi2:=M.A.qL.2
 have fm1:=M.fmi.1
 have fm2:=M.fmi.2
 refine st (ρ':=[.val (.lst (sc.map .int)),.val (.int 1),.val (.lst rs),.owx (.l [.lst (i0.map tupI),.lst (i1.map tupI)]),.any,.any,.any,.val (aa CM C r0 r1 i0),.nil,.nil,.nil,.nil,.nil,.nil,.nil,.nil,.nil]) (by dsimp? [a0,a1,w0,o0,o1,p0,q0,fi1,fi2,fm1,fm2]) ?_
 refine st (ρ':=[.val (.lst (sc.map .int)),.val (.int 1),.val (.lst rs),.owx (.l [.lst (i0.map tupI),.lst (i1.map tupI)]),.any,.any,.any,.val (aa CM C r0 r1 i0),.val (aa CM C r1 r2 i1),.nil,.nil,.nil,.nil,.nil,.nil,.nil,.nil]) (by dsimp? [a1,a2,w1,o1,o2,p1,q1,fi1,fi2,fm1,fm2]) ?_
 have c3:=hc 3 (by decide) (by decide)
 have t4:(0:Int)<4:=by decide
 obtain ⟨S9,h9⟩:∃S9:Sl,IN.af G (kal G (n+11)) (.ife (.and (.cmp .eq (.bin .mod (.fn "_law_spread" [(.var 0),(.lit (.int 3))]) (.lit (.int 4))) (.lit (.int 1))) (.cmp .ne (.ix (.var 2) (.lit (.int 0))) (.ix (.var 2) (.lit (.int 1))))) [0,2] [(.asg (.nm 9) (.fn "Map" [(.fn "Rounds" [(.ix (.var 2) (.lit (.int 1)))]),(.fn "Rounds" [(.ix (.var 2) (.lit (.int 0)))]),(.comp 1 [2] (.nm 0) (.ix (.var 2) (.lit (.int 1))) (.lit (.bl true)) (.emit (.fn "_law_image" [(.var 0),(.ix (.var 1) (.lit (.int 0))),(.lit (.int 0))])))]) [2]),(.ife (.nt (.fn "_law_refused" [(.var 8),(.var 9)])) [8,9] [(.ret (.lit (.bl false)) [])] [])] []) [.val (.lst (sc.map .int)),.val (.int 1),.val (.lst rs),.owx (.l [.lst (i0.map tupI),.lst (i1.map tupI)]),.any,.any,.any,.val (aa CM C r0 r1 i0),.val (aa CM C r1 r2 i1),.nil,.nil,.nil,.nil,.nil,.nil,.nil,.nil]=some (.nx [.val (.lst (sc.map .int)),.val (.int 1),.val (.lst rs),.owx (.l [.lst (i0.map tupI),.lst (i1.map tupI)]),.any,.any,.any,.val (aa CM C r0 r1 i0),.val (aa CM C r1 r2 i1),S9,.nil,.nil,.nil,.nil,.nil,.nil,.nil]):=by
  by_cases b1:cf 3%4=1
  ·have d1:decide (cf 3%4=1)=true:=decide_eq_true b1
   by_cases b2:r0=r1
   ·have d2:bc .ne (tupI r0) (tupI r1)=some false:=by rw [d5,decide_eq_true b2];rfl
    exact ⟨.nil,by dsimp? [f1,c3,t4,d1,a0,a1,d2]⟩
   ·have d2:bc .ne (tupI r0) (tupI r1)=some true:=by rw [d5,decide_eq_false b2];rfl
    have im:=tT g0.g2 r1
    have p9:=fj (n:=n+4) M g1 g0 im
    have q9:aq (aa CM C r1 r0 (r1.map fun m=>bZ m r0 0))=true:=b7
    have fi:=X.lW
    have key9:ev G (kal G (n+11)) (.comp 1 [2] (.nm 0) (.ix (.var 2) (.lit (.int 1))) (.lit (.bl true)) (.emit (.fn "_law_image" [(.var 0),(.ix (.var 1) (.lit (.int 0))),(.lit (.int 0))]))) [.val (.lst (sc.map .int)),.val (.int 1),.val (.lst rs),.owx (.l [.lst (i0.map tupI),.lst (i1.map tupI)]),.any,.any,.any,.val (aa CM C r0 r1 i0),.val (aa CM C r1 r2 i1),.nil,.nil,.nil,.nil,.nil,.nil,.nil,.nil]=some (.lst ((r1.map fun m=>bZ m r0 0).map tupI)):=by
     rw [List.map_map]
     refine bB (g:=D.int) (by simp only [evI,ev.eq_1,ev.eq_2,ev.eq_16,aQ,List.getElem?_cons_zero,List.getElem?_cons_succ,i6,a1,it1]) rfl (Nat.le_trans g1.bA (by decide)) fun m hm=>⟨[.val (.int m),.val (.lst rs)],rfl,?_⟩
     have y1:=g1.ge m hm
     have y2:=g1.lt m hm
     have e2:=mj (n:=n+9) (m:=m) (c:=0) (g:=r0) X.img X.div X.fdiv X.dr X.fdr g0 (by omega) (by omega)
     dsimp? [fi,a0,e2]
     rfl
    have rf:=o4 (n:=n+7) (s:=r1) (m:=r0) (m':=r1) (g:=r2) (is:=r1.map fun m=>bZ m r0 0) (js:=i1) X.ref M hx hg hs b2 hkc
    have fr9:=X.Ba
    exact ⟨.val (aa CM C r1 r0 (r1.map fun m=>bZ m r0 0)),by dsimp? [f1,c3,t4,d1,a0,a1,d2,o0,o1,fi1,fi2,fm1,fm2,key9,p9,q9,rf,fr9]⟩
  ·have d1:decide (cf 3%4=1)=false:=decide_eq_false b1
   exact ⟨.nil,by dsimp? [f1,c3,t4,d1]⟩
 refine st h9 ?_
 have hm:=kC g1.g2
 have v1:=iE (n:=n+2) M g0 g1 g2 m0 m1
 have v2:=iE (n:=n+2) M g1 g1 g2 hm m1
 have v3:=iE (n:=n+2) M g1 g1 g1 hm hm
 have u1:aq (aa CM C r0 r2 (i0.map (ak r2 i1)))=true:=b7
 refine st (ρ':=[.val (.lst (sc.map .int)),.val (.int 1),.val (.lst rs),.owx (.l [.lst (i0.map tupI),.lst (i1.map tupI)]),.any,.any,.any,.val (aa CM C r0 r1 i0),.val (aa CM C r1 r2 i1),S9,.val (aa CM C r0 r2 (i0.map (ak r2 i1))),.nil,.nil,.nil,.nil,.nil,.nil]) (by dsimp? [v1,u1]) ?_
 have x1:=fu (s:=r0) (g:=r2) (is:=i0.map (ak r2 i1)) M
 have x2:=d6 (s:=r0) (g:=r2) (is:=i0.map (ak r2 i1)) M
 have y0:=dX (ns:=r0) M.A
 have y1:=dX (ns:=r1) M.A
 have y2:=dX (ns:=r2) M.A
 have z0:∀r,bc .ne (tupI r) (tupI r)=some false:=fun r=>by rw [d5,decide_eq_true rfl];rfl
 have z1:∀r,bc .eq (tupI r) (tupI r)=some true:=fun r=>by rw [gT,decide_eq_true rfl]
 refine st (ρ':=[.val (.lst (sc.map .int)),.val (.int 1),.val (.lst rs),.owx (.l [.lst (i0.map tupI),.lst (i1.map tupI)]),.any,.any,.any,.val (aa CM C r0 r1 i0),.val (aa CM C r1 r2 i1),S9,.val (aa CM C r0 r2 (i0.map (ak r2 i1))),.nil,.nil,.nil,.nil,.nil,.nil]) (by dsimp? [x1,x2,y0,y2,a0,a2,z0]) ?_
 have hh:=uk (n:=n+10) M.toGM g1
 have fh:bI (.l ((hdI r1).map tupI))=true:=ei _
 refine st (ρ':=[.val (.lst (sc.map .int)),.val (.int 1),.val (.lst rs),.owx (.l [.lst (i0.map tupI),.lst (i1.map tupI)]),.any,.any,.any,.val (aa CM C r0 r1 i0),.val (aa CM C r1 r2 i1),S9,.val (aa CM C r0 r2 (i0.map (ak r2 i1))),.owx (.l ((hdI r1).map tupI)),.nil,.nil,.nil,.nil,.nil]) (by dsimp? [a1,o1,fi1,fi2,hh,fh]) ?_
 have p5:=fj (n:=n+4) M g1 g1 hm
 have q5:aq (aa CM C r1 r1 (hdI r1))=true:=b7
 refine st (ρ':=[.val (.lst (sc.map .int)),.val (.int 1),.val (.lst rs),.owx (.l [.lst (i0.map tupI),.lst (i1.map tupI)]),.any,.any,.any,.val (aa CM C r0 r1 i0),.val (aa CM C r1 r2 i1),S9,.val (aa CM C r0 r2 (i0.map (ak r2 i1))),.owx (.l ((hdI r1).map tupI)),.val (aa CM C r1 r1 (hdI r1)),.nil,.nil,.nil,.nil]) (by dsimp? [a1,o1,fi1,fi2,fm1,fm2,p5,q5]) ?_
 have fz:(2:Nat)<=sizeLine:=by decide
 have u2:bI (.l [aa CM C r1 r2 ((hdI r1).map (ak r2 i1)),aa CM C r1 r1 ((hdI r1).map (ak r1 (hdI r1)))])=true:=by
  show (aq (aa CM C r1 r2 ((hdI r1).map (ak r2 i1)))&&(aq (aa CM C r1 r1 ((hdI r1).map (ak r1 (hdI r1))))&&true))=true
  rw [b7,b7];rfl
 refine st (ρ':=[.val (.lst (sc.map .int)),.val (.int 1),.val (.lst rs),.owx (.l [.lst (i0.map tupI),.lst (i1.map tupI)]),.any,.any,.any,.val (aa CM C r0 r1 i0),.val (aa CM C r1 r2 i1),S9,.val (aa CM C r0 r2 (i0.map (ak r2 i1))),.owx (.l ((hdI r1).map tupI)),.val (aa CM C r1 r1 (hdI r1)),.owx (.l [aa CM C r1 r2 ((hdI r1).map (ak r2 i1)),aa CM C r1 r1 ((hdI r1).map (ak r1 (hdI r1)))]),.nil,.nil,.nil]) (by dsimp? [v2,v3,fz,u2]) ?_
 refine st (ρ':=[.val (.lst (sc.map .int)),.val (.int 1),.val (.lst rs),.owx (.l [.lst (i0.map tupI),.lst (i1.map tupI)]),.any,.any,.any,.val (aa CM C r0 r1 i0),.val (aa CM C r1 r2 i1),S9,.val (aa CM C r0 r2 (i0.map (ak r2 i1))),.owx (.l ((hdI r1).map tupI)),.val (aa CM C r1 r1 (hdI r1)),.owx (.l [aa CM C r1 r2 ((hdI r1).map (ak r2 i1)),aa CM C r1 r1 ((hdI r1).map (ak r1 (hdI r1)))]),.any,.any,.any]) (by rfl) ?_
 have b40:cg .range [.int 40]=some ((bj 40).map D.int):=qp (by omega)
 obtain ⟨ρ',hr,S1,rfl⟩:=yy (G:=G) (cl:=kal G (n+11)) (t:=.nm 1) (g:=D.int) (it:=.blt .range [(.lit (.int 40))]) (L:=[]) (ρ:=[.val (.lst (sc.map .int)),.val (.int 1),.val (.lst rs),.owx (.l [.lst (i0.map tupI),.lst (i1.map tupI)]),.any,.any,.any,.val (aa CM C r0 r1 i0),.val (aa CM C r1 r2 i1),S9,.val (aa CM C r0 r2 (i0.map (ak r2 i1))),.owx (.l ((hdI r1).map tupI)),.val (aa CM C r1 r1 (hdI r1)),.owx (.l [aa CM C r1 r2 ((hdI r1).map (ak r2 i1)),aa CM C r1 r1 ((hdI r1).map (ak r1 (hdI r1)))]),.any,.any,.any]) (b:=[(.asg (.nm 14) (.fn "_law_drawn" [(.ix (.var 2) (.lit (.int 0))),(.fn "_law_spread" [(.var 0),(.bin .add (.lit (.int 40)) (.var 1))])]) [2,0,1]),(.asg (.nm 15) (.fn "_law_led" [(.ix (.var 2) (.lit (.int 1))),(.ix (.var 3) (.lit (.int 0))),(.var 14)]) [2,3,14]),(.ife (.or (.nt (.fn "_law_is" [(.ix (.var 2) (.lit (.int 2))),(.mth (.var 10) "led" [(.var 14)]),(.fn "_law_led" [(.ix (.var 2) (.lit (.int 2))),(.ix (.var 3) (.lit (.int 1))),(.var 15)])])) (.cmp .ne (.mth (.var 7) "led" [(.var 14)]) (.var 15))) [10,2,3,7,14,15] [(.ret (.lit (.bl false)) [])] []),(.asg (.nm 16) (.fn "_law_drawn" [(.ix (.var 2) (.lit (.int 1))),(.fn "_law_spread" [(.var 0),(.bin .add (.lit (.int 90)) (.var 1))])]) [2,0,1]),(.ife (.or (.cmp .ne (.mth (.ix (.var 13) (.lit (.int 0))) "led" [(.var 16)]) (.mth (.var 8) "led" [(.var 16)])) (.cmp .ne (.mth (.ix (.var 13) (.lit (.int 1))) "led" [(.var 16)]) (.var 16))) [8,13,16] [(.ret (.lit (.bl false)) [])] []),(.fgt [14,15,16])])
  (fun _ ρ=>∃S1:Sl,ρ=[.val (.lst (sc.map .int)),S1,.val (.lst rs),.owx (.l [.lst (i0.map tupI),.lst (i1.map tupI)]),.any,.any,.any,.val (aa CM C r0 r1 i0),.val (aa CM C r1 r2 i1),S9,.val (aa CM C r0 r2 (i0.map (ak r2 i1))),.owx (.l ((hdI r1).map tupI)),.val (aa CM C r1 r1 (hdI r1)),.owx (.l [aa CM C r1 r2 ((hdI r1).map (ak r2 i1)),aa CM C r1 r1 ((hdI r1).map (ak r1 (hdI r1)))]),.any,.any,.any]) (bj 40) (by simp only [evI,evA,ev.eq_2,b40]) rfl ⟨_,rfl⟩ (fun done k rest ρ e h=>by
   obtain ⟨S1,rfl⟩:=h
   have hk:=jR (show k∈bj 40 by rw [e];simp)
   exact ⟨_,_,rfl,lt S9 ((hdI r1).map tupI) k ⟨hk.1,by omega⟩,⟨_,rfl⟩⟩)
 refine st hr (a9 ?_)
 have x3:=d6 (s:=r0) (g:=r1) (is:=i0) M
 have x4:=fu (s:=r1) (g:=r2) (is:=i1) M
 dsimp? [x3,x4,y1,a1,z1]
end
end PL
namespace R52
open PySem PySem.Spec L2 CT IN
open PyProof.Rows hiding St
noncomputable def top (i:Nat):Stmt:=PySem.Challenge.pw_carrytower_k52_maps_behind_maps.main.body.getD i (.Pass ⟨0,0,0,0⟩)
noncomputable def src:Src where
 gl:=[("int",.ty "int"),("bool",.ty "bool"),("list",.ty "list"),("tuple",.ty "tuple"),("ValueError",.ty "ValueError"),("LEAST_ROUND",.int 2),("MOST_MEMBERS",.int 144),("Rounds",.cl 414),("CarryError",.cl 31),("NotLike",.cl 104),("NoCount",.cl 116),("NoElement",.cl 56),("NoHead",.cl 92),("NoPair",.cl 128),("NoKind",.cl 140),("TooMany",.cl 197),("NoLower",.cl 68),("NoUpper",.cl 80),("NoMap",.cl 216),("NoTower",.cl 178),("NoCarry",.cl 159)]
 fn:=["is_whole","product","are_rounds","is_image","need_images","need_like","_law_spread","_law_whole","_law_sum","_law_many","_law_divisor","_law_drawn","_law_group","_law_image","_law_led","_law_is","_law_kinds","_law_class","_law_refused","law"]
 ini:=[("Rounds",(414,"Rounds.__init__")),("Map",(457,"Map.__init__"))]
 mth:=[((414,"has"),"Rounds.has"),((414,"nought"),"Rounds.nought"),((414,"heads"),"Rounds.heads"),((414,"like"),"Rounds.like"),((414,"sum_of"),"Rounds.sum_of"),((414,"need"),"Group.need"),((414,"times"),"Group.times"),((414,"total"),"Group.total"),((457,"led"),"Map.led"),((457,"behind"),"Map.behind")]
 fok:=[(414,"rounds"),(457,"source"),(457,"goal"),(457,"images")]
 exc:=[("NotLike",(104,[]))]
 se:=[((104,104),true),((104,116),false),((104,56),false),((104,92),false),((104,128),false),((104,140),false),((104,197),false),((104,68),false),((104,80),false),((104,216),false),((104,178),false),((104,159),false),((104,31),true)]
 sL:=[(104,true)]
 sub:=[((104,31),true)]
 rM:=[((414,414),true)]
 defs:=[("is_whole",(none,P.ip)),("product",(none,P.product)),("are_rounds",(none,P.fQ)),("is_image",(none,P.fM)),("need_images",(none,P.eU)),("need_like",(none,P.dH)),("_law_spread",(none,L.spread)),("_law_whole",(none,L.whole)),("_law_sum",(none,L.sum)),("_law_many",(none,L.many)),("_law_divisor",(none,L.mL)),("_law_drawn",(none,L.drawn)),("_law_group",(none,L.group)),("_law_image",(none,L.image)),("_law_led",(none,L.led)),("_law_is",(none,L.is)),("_law_kinds",(none,L.kinds)),("_law_class",(none,L.class)),("_law_refused",(none,L.dw)),("law",(none,L.jw)),("Rounds.__init__",(some 414,P.c9)),("Map.__init__",(some 457,P.eB)),("Rounds.has",(none,P.c4)),("Rounds.nought",(none,P.cF)),("Rounds.heads",(none,P.eg)),("Rounds.like",(none,P.dz)),("Rounds.sum_of",(none,P.dJ)),("Group.need",(none,P.dY)),("Group.times",(none,P.eW)),("Group.total",(none,P.eX)),("Map.led",(none,P.gO)),("Map.behind",(none,P.fO))]
noncomputable abbrev G:Prg:=src.prg
local macro_rules|`(tactic|walk_at "c")=>`(tactic|exact ⟨rfl,rfl,rfl,by decide+kernel,rfl,by decide+kernel,by decide+kernel⟩)
theorem t0:DT G "is_whole" none P.ip "is_whole" "is_whole" (top 20) ["thing"]:=⟨⟨["thing"],by walk_at "c",by kernel_rfl,rfl⟩,fun _ _ _ _ _ _=>eV fun _=>rfl,rfl,rfl,rfl⟩
theorem t1:DT G "product" none P.product "product" "product" (top 21) ["numbers"]:=⟨⟨["numbers","whole","n"],by walk_at "c",by kernel_rfl,rfl⟩,fun _ _ _ _ _ _=>eV fun _=>rfl,rfl,rfl,rfl⟩
theorem t2:DT G "are_rounds" none P.fQ "are_rounds" "are_rounds" (top 22) ["thing"]:=⟨⟨["thing"],by walk_at "c",by kernel_rfl,rfl⟩,fun _ _ _ _ _ _=>eV fun _=>rfl,rfl,rfl,rfl⟩
theorem t3:DT G "is_image" none P.fM "is_image" "is_image" (top 26) ["goal","n","thing"]:=⟨⟨["goal","n","thing"],by walk_at "c",by kernel_rfl,rfl⟩,fun _ _ _ _ _ _=>fP fun _ _ _=>rfl,rfl,rfl,rfl⟩
theorem t4:DT G "need_images" none P.eU "need_images" "need_images" (top 27) ["source","goal","images"]:=⟨⟨["source","goal","images","i","n"],by walk_at "c",by kernel_rfl,rfl⟩,fun _ _ _ _ _ _=>fP fun _ _ _=>rfl,rfl,rfl,rfl⟩
theorem t5:DT G "need_like" none P.dH "need_like" "need_like" (top 29) ["one","other"]:=⟨⟨["one","other"],by walk_at "c",by kernel_rfl,rfl⟩,fun _ _ _ _ _ _=>dN fun _ _=>rfl,rfl,rfl,rfl⟩
theorem t6:DT G "_law_spread" none L.spread "_law_spread" "_law_spread" (top 31) ["_law_script","_law_k"]:=⟨⟨["_law_script","_law_k","_law_beyond","_law_cell","_law_number"],by walk_at "c",by kernel_rfl,rfl⟩,fun _ _ _ _ _ _=>dN fun _ _=>rfl,rfl,rfl,rfl⟩
theorem t7:DT G "_law_whole" none L.whole "_law_whole" "_law_whole" (top 32) ["_law_found"]:=⟨⟨["_law_found"],by walk_at "c",by kernel_rfl,rfl⟩,fun _ _ _ _ _ _=>eV fun _=>rfl,rfl,rfl,rfl⟩
theorem t8:DT G "_law_sum" none L.sum "_law_sum" "_law_sum" (top 33) ["_law_rounds","_law_a","_law_b"]:=⟨⟨["_law_rounds","_law_a","_law_b"],by walk_at "c",by kernel_rfl,rfl⟩,fun _ _ _ _ _ _=>fP fun _ _ _=>rfl,rfl,rfl,rfl⟩
theorem t9:DT G "_law_many" none L.many "_law_many" "_law_many" (top 34) ["_law_rounds","_law_n","_law_a"]:=⟨⟨["_law_rounds","_law_n","_law_a"],by walk_at "c",by kernel_rfl,rfl⟩,fun _ _ _ _ _ _=>fP fun _ _ _=>rfl,rfl,rfl,rfl⟩
theorem t10:DT G "_law_divisor" none L.mL "_law_divisor" "_law_divisor" (top 35) ["_law_one","_law_other"]:=⟨⟨["_law_one","_law_other"],by walk_at "c",by kernel_rfl,rfl⟩,fun _ _ _ _ _ _=>dN fun _ _=>rfl,rfl,rfl,rfl⟩
theorem t11:DT G "_law_drawn" none L.drawn "_law_drawn" "_law_drawn" (top 36) ["_law_rounds","_law_cell"]:=⟨⟨["_law_rounds","_law_cell","_law_found","_law_number"],by walk_at "c",by kernel_rfl,rfl⟩,fun _ _ _ _ _ _=>dN fun _ _=>rfl,rfl,rfl,rfl⟩
theorem t12:DT G "_law_group" none L.group "_law_group" "_law_group" (top 37) ["_law_cell"]:=⟨⟨["_law_cell","_law_some"],by walk_at "c",by kernel_rfl,rfl⟩,fun _ _ _ _ _ _=>eV fun _=>rfl,rfl,rfl,rfl⟩
theorem t13:DT G "_law_image" none L.image "_law_image" "_law_image" (top 38) ["_law_source_round","_law_goal","_law_cell"]:=⟨⟨["_law_source_round","_law_goal","_law_cell","_law_steps","_law_drawn_here"],by walk_at "c",by kernel_rfl,rfl⟩,fun _ _ _ _ _ _=>fP fun _ _ _=>rfl,rfl,rfl,rfl⟩
theorem t14:DT G "_law_led" none L.led "_law_led" "_law_led" (top 39) ["_law_goal","_law_images","_law_x"]:=⟨⟨["_law_goal","_law_images","_law_x","_law_total","_law_many_here","_law_image_here"],by walk_at "c",by kernel_rfl,rfl⟩,fun _ _ _ _ _ _=>fP fun _ _ _=>rfl,rfl,rfl,rfl⟩
theorem t15:DT G "_law_is" none L.is "_law_is" "_law_is" (top 40) ["_law_rounds","_law_found","_law_due"]:=⟨⟨["_law_rounds","_law_found","_law_due"],by walk_at "c",by kernel_rfl,rfl⟩,fun _ _ _ _ _ _=>fP fun _ _ _=>rfl,rfl,rfl,rfl⟩
theorem t16:DT G "_law_kinds" none L.kinds "_law_kinds" "_law_kinds" (top 41) ["_law_e"]:=⟨⟨["_law_e","_law_kinds_here"],by walk_at "c",by kernel_rfl,rfl⟩,fun _ _ _ _ _ _=>eV fun _=>rfl,rfl,rfl,rfl⟩
theorem t17:DT G "_law_class" none L.class "_law_class" "_law_class" (top 42) ["_law_word"]:=⟨⟨["_law_word","_law_some"],by walk_at "c",by kernel_rfl,rfl⟩,fun _ _ _ _ _ _=>eV fun _=>rfl,rfl,rfl,rfl⟩
theorem t18:DT G "_law_refused" none L.dw "_law_refused" "_law_refused" (top 43) ["_law_one","_law_other"]:=⟨⟨["_law_one","_law_other","_law_met","_law_e"],by walk_at "c",by kernel_rfl,rfl⟩,fun _ _ _ _ _ _=>dN fun _ _=>rfl,rfl,rfl,rfl⟩
theorem t19:DT G "law" none L.jw "law" "law" (top 44) ["_law_script"]:=⟨⟨["_law_script","_law_k","_law_rounds","_law_images","_law_row","_law_j","_law_n","_law_first","_law_second","_law_strange","_law_found","_law_heads","_law_plain","_law_again","_law_x","_law_due","_law_y"],by walk_at "c",by kernel_rfl,rfl⟩,fun _ _ _ _ _ _=>eV fun _=>rfl,rfl,rfl,rfl⟩
theorem t20:DT G "Rounds.__init__" (some 414) P.c9 "__init__" "Rounds.__init__" (inClass (top 24) 0) ["self","rounds"]:=⟨⟨["self","rounds"],by walk_at "c",by kernel_rfl,rfl⟩,fun _ _ _ _ _ _=>dN fun _ _=>rfl,rfl,rfl,rfl⟩
theorem t21:DT G "Map.__init__" (some 457) P.eB "__init__" "Map.__init__" (inClass (top 28) 0) ["self","source","goal","images"]:=⟨⟨["self","source","goal","images"],by walk_at "c",by kernel_rfl,rfl⟩,fun _ _ _ _ _ _=>Bd fun _ _ _ _=>rfl,rfl,rfl,rfl⟩
theorem t22:DT G "Rounds.has" none P.c4 "has" "Rounds.has" (inClass (top 24) 2) ["self","thing"]:=⟨⟨["self","thing"],by walk_at "c",by kernel_rfl,rfl⟩,fun _ _ _ _ _ _=>dN fun _ _=>rfl,rfl,rfl,rfl⟩
theorem t23:DT G "Rounds.nought" none P.cF "nought" "Rounds.nought" (inClass (top 24) 3) ["self"]:=⟨⟨["self"],by walk_at "c",by kernel_rfl,rfl⟩,fun _ _ _ _ _ _=>eV fun _=>rfl,rfl,rfl,rfl⟩
theorem t24:DT G "Rounds.heads" none P.eg "heads" "Rounds.heads" (inClass (top 24) 4) ["self"]:=⟨⟨["self","many"],by walk_at "c",by kernel_rfl,rfl⟩,fun _ _ _ _ _ _=>eV fun _=>rfl,rfl,rfl,rfl⟩
theorem t25:DT G "Rounds.like" none P.dz "like" "Rounds.like" (inClass (top 24) 5) ["self","other"]:=⟨⟨["self","other"],by walk_at "c",by kernel_rfl,rfl⟩,fun _ _ _ _ _ _=>dN fun _ _=>rfl,rfl,rfl,rfl⟩
theorem t26:DT G "Rounds.sum_of" none P.dJ "sum_of" "Rounds.sum_of" (inClass (top 24) 7) ["self","x","y"]:=⟨⟨["self","x","y"],by walk_at "c",by kernel_rfl,rfl⟩,fun _ _ _ _ _ _=>fP fun _ _ _=>rfl,rfl,rfl,rfl⟩
theorem t27:DT G "Group.need" none P.dY "need" "Group.need" (inClass (top 23) 7) ["self","thing"]:=⟨⟨["self","thing"],by walk_at "c",by kernel_rfl,rfl⟩,fun _ _ _ _ _ _=>dN fun _ _=>rfl,rfl,rfl,rfl⟩
theorem t28:DT G "Group.times" none P.eW "times" "Group.times" (inClass (top 23) 11) ["self","n","x"]:=⟨⟨["self","n","x","step","left","whole"],by walk_at "c",by kernel_rfl,rfl⟩,fun _ _ _ _ _ _=>fP fun _ _ _=>rfl,rfl,rfl,rfl⟩
theorem t29:DT G "Group.total" none P.eX "total" "Group.total" (inClass (top 23) 13) ["self","some"]:=⟨⟨["self","some","whole","x"],by walk_at "c",by kernel_rfl,rfl⟩,fun _ _ _ _ _ _=>dN fun _ _=>rfl,rfl,rfl,rfl⟩
theorem t30:DT G "Map.led" none P.gO "led" "Map.led" (inClass (top 28) 1) ["self","x"]:=⟨⟨["self","x"],by walk_at "c",by kernel_rfl,rfl⟩,fun _ _ _ _ _ _=>dN fun _ _=>rfl,rfl,rfl,rfl⟩
theorem t31:DT G "Map.behind" none P.fO "behind" "Map.behind" (inClass (top 28) 2) ["self","other"]:=⟨⟨["self","other"],by walk_at "c",by kernel_rfl,rfl⟩,fun _ _ _ _ _ _=>dN fun _ _=>rfl,rfl,rfl,rfl⟩
theorem xa (ns:List Int) (hl:ns.length<=63):kal G 12 "law" [.lst (ns.map .int)]=some (.ok (.bl true)):=by
 have A:PL.GA G 414:=⟨rfl,rfl,rfl,rfl,rfl,rfl,rfl,rfl,rfl,rfl,rfl,rfl,fun n hn c hc=>if_pos ⟨hn,hc⟩,rfl,⟨rfl,rfl⟩,rfl⟩
 have M:PL.GM G 414:=⟨A,rfl,rfl,rfl,rfl,rfl,rfl,rfl,rfl,rfl,rfl,rfl,rfl,rfl,rfl,rfl,rfl,rfl,rfl⟩
 have P:PL.GP G 414 457:=⟨M,rfl,rfl,rfl,rfl,rfl,⟨rfl,rfl⟩,rfl,rfl,rfl,rfl,rfl,rfl,rfl,rfl,rfl⟩
 have X:PL.LM G:=⟨rfl,rfl,rfl,rfl,rfl,rfl,rfl,rfl,rfl,rfl,rfl,rfl,rfl,rfl,rfl,rfl,rfl,rfl,rfl,rfl,rfl,rfl⟩
 exact PL.u4 (n:=0) (NL:=104) (CE:=31) rfl hl X P rfl rfl rfl fun a b=>by kernel_rfl
end R52
namespace R52
open PySem PySem.Spec PySem.W L2 CT IN
open PyProof.Rows hiding St
theorem al_ {α:Type} {p:α->Prop} {a:α} {l:List α} (h:p a) (t:∀x∈l,p x):∀x∈a::l,p x:=List.forall_mem_cons.mpr ⟨h,t⟩
theorem all_mk {l:PySem.W.OpenLaw} {w:World} {K:PySem.W.Frag} {h:Heap} {mg:Str->Option Value} {fa:Addr} {kLEAST_ROUND kMOST_MEMBERS:Tok} (X:K.In h) (Y:h.Ns mainGlobals mg) (hfa:mg "law"=some (.ref fa))
  (aRounds:nsIn K mainGlobals "Rounds"=some (some (.ref 414)))
  (aCarryError:nsIn K mainGlobals "CarryError"=some (some (.ref 31)))
  (aNotLike:nsIn K mainGlobals "NotLike"=some (some (.ref 104)))
  (aNoCount:nsIn K mainGlobals "NoCount"=some (some (.ref 116)))
  (aNoElement:nsIn K mainGlobals "NoElement"=some (some (.ref 56)))
  (aNoHead:nsIn K mainGlobals "NoHead"=some (some (.ref 92)))
  (aNoPair:nsIn K mainGlobals "NoPair"=some (some (.ref 128)))
  (aNoKind:nsIn K mainGlobals "NoKind"=some (some (.ref 140)))
  (aTooMany:nsIn K mainGlobals "TooMany"=some (some (.ref 197)))
  (aNoLower:nsIn K mainGlobals "NoLower"=some (some (.ref 68)))
  (aNoUpper:nsIn K mainGlobals "NoUpper"=some (some (.ref 80)))
  (aNoMap:nsIn K mainGlobals "NoMap"=some (some (.ref 216)))
  (aNoTower:nsIn K mainGlobals "NoTower"=some (some (.ref 178)))
  (aNoCarry:nsIn K mainGlobals "NoCarry"=some (some (.ref 159)))
  (aMap:nsIn K mainGlobals "Map"=some (some (.ref 457)))
  (et0:GF K "is_whole" (top 20))
  (et1:GF K "product" (top 21))
  (et2:GF K "are_rounds" (top 22))
  (et3:GF K "is_image" (top 26))
  (et4:GF K "need_images" (top 27))
  (et5:GF K "need_like" (top 29))
  (et6:GF K "_law_spread" (top 31))
  (et7:GF K "_law_whole" (top 32))
  (et8:GF K "_law_sum" (top 33))
  (et9:GF K "_law_many" (top 34))
  (et10:GF K "_law_divisor" (top 35))
  (et11:GF K "_law_drawn" (top 36))
  (et12:GF K "_law_group" (top 37))
  (et13:GF K "_law_image" (top 38))
  (et14:GF K "_law_led" (top 39))
  (et15:GF K "_law_is" (top 40))
  (et16:GF K "_law_kinds" (top 41))
  (et17:GF K "_law_class" (top 42))
  (et18:GF K "_law_refused" (top 43))
  (et19:GF K "law" (top 44))
  (et20:MF K 414 "__init__" "Rounds.__init__" (inClass (top 24) 0))
  (et21:MF K 457 "__init__" "Map.__init__" (inClass (top 28) 0))
  (et22:MF K 414 "has" "Rounds.has" (inClass (top 24) 2))
  (et23:MF K 414 "nought" "Rounds.nought" (inClass (top 24) 3))
  (et24:MF K 414 "heads" "Rounds.heads" (inClass (top 24) 4))
  (et25:MF K 414 "like" "Rounds.like" (inClass (top 24) 5))
  (et26:MF K 414 "sum_of" "Rounds.sum_of" (inClass (top 24) 7))
  (et27:MF K 414 "need" "Group.need" (inClass (top 23) 7))
  (et28:MF K 414 "times" "Group.times" (inClass (top 23) 11))
  (et29:MF K 414 "total" "Group.total" (inClass (top 23) 13))
  (et30:MF K 457 "led" "Map.led" (inClass (top 28) 1))
  (et31:MF K 457 "behind" "Map.behind" (inClass (top 28) 2))
  (oRounds:lL K 414=true)
  (oMap:lL K 457=true)
  (mkRounds:makesIn K 414=true)
  (kcRounds:keepIn K (.ref 414)=true)
  (mkMap:makesIn K 457=true)
  (kcMap:keepIn K (.ref 457)=true)
  (n0:findIn K (.ref 414) "rounds"=some none)
  (n1:findIn K (.ref 457) "source"=some none)
  (n2:findIn K (.ref 457) "goal"=some none)
  (n3:findIn K (.ref 457) "images"=some none)
  (vLEAST_ROUND:nsIn K mainGlobals "LEAST_ROUND"=some (some (.int 2 kLEAST_ROUND)))
  (vMOST_MEMBERS:nsIn K mainGlobals "MOST_MEMBERS"=some (some (.int 144 kMOST_MEMBERS)))
  (q0:kitOne K (.ref 414) (.ref 414)=some true)
  (ty:wW K=true)
  (zs:kO.all (fun x=>nsIn K mainGlobals x==some none)=true)
  (zbool:nsIn K mainGlobals "bool"=some none)
  (zVE:nsIn K mainGlobals "ValueError"=some none)
  (x0NotLike:excIn K 104 bmV "ValueError.__new__"=true)
  (xkNotLike:keepIn K (.ref 104)=true)
  (xcNotLike:lQ K 104=true)
  (xtNotLike:typeIn K (.ref 104)=some (.type "type"))
  (xcCarryError:lQ K 31=true)
  (xtCarryError:typeIn K (.ref 31)=some (.type "type"))
  (xm0:mroIn K 104 (.ref 31)=some true)
  (qx0:kitOne K (.ref 104) (.ref 104)=some true)
  (qx1:kitOne K (.ref 104) (.ref 116)=some false)
  (qx2:kitOne K (.ref 104) (.ref 56)=some false)
  (qx3:kitOne K (.ref 104) (.ref 92)=some false)
  (qx4:kitOne K (.ref 104) (.ref 128)=some false)
  (qx5:kitOne K (.ref 104) (.ref 140)=some false)
  (qx6:kitOne K (.ref 104) (.ref 197)=some false)
  (qx7:kitOne K (.ref 104) (.ref 68)=some false)
  (qx8:kitOne K (.ref 104) (.ref 80)=some false)
  (qx9:kitOne K (.ref 104) (.ref 216)=some false)
  (qx10:kitOne K (.ref 104) (.ref 178)=some false)
  (qx11:kitOne K (.ref 104) (.ref 159)=some false)
  (qx12:kitOne K (.ref 104) (.ref 31)=some true)
  (qv0:kitOne K (.ref 104) (.type "ValueError")=some true):
  ∃fd:FuncData,(∀(s:Shared) (v:Value),BindsTo s fd ⟨[v],[]⟩ [("_law_script",v)])∧∀base:Heap,K.In base->base.Ns mainGlobals mg->aA l.prog w K mg base CX0 39 fa fd ["_law_script"] (spD K (lE G 12)):=by
 have z:∀x∈kO,mg x=none:=fun x hx=>mg_none_of X Y (beq_iff_eq.mp (List.all_eq_true.mp zs x hx))
 exact xK (n:=12) X Y hfa (fun base=>xE (s:=src) z
  (al_ ⟨z _ (by decide),rfl⟩ (al_ ⟨mg_none_of X Y zbool,rfl⟩ (al_ ⟨z _ (by decide),rfl⟩ (al_ ⟨z _ (by decide),rfl⟩ (al_ ⟨mg_none_of X Y zVE,rfl⟩ (al_ ⟨_,mg_of X Y vLEAST_ROUND⟩ (al_ ⟨_,mg_of X Y vMOST_MEMBERS⟩ (al_ (mg_of X Y aRounds) (al_ (mg_of X Y aCarryError) (al_ (mg_of X Y aNotLike) (al_ (mg_of X Y aNoCount) (al_ (mg_of X Y aNoElement) (al_ (mg_of X Y aNoHead) (al_ (mg_of X Y aNoPair) (al_ (mg_of X Y aNoKind) (al_ (mg_of X Y aTooMany) (al_ (mg_of X Y aNoLower) (al_ (mg_of X Y aNoUpper) (al_ (mg_of X Y aNoMap) (al_ (mg_of X Y aNoTower) (al_ (mg_of X Y aNoCarry) (List.forall_mem_nil _)))))))))))))))))))))) ty
  (al_ ⟨q0,fq oRounds⟩ (List.forall_mem_nil _)) (al_ ⟨qx0,aW xcNotLike⟩ (al_ ⟨qx1,aW xcNotLike⟩ (al_ ⟨qx2,aW xcNotLike⟩ (al_ ⟨qx3,aW xcNotLike⟩ (al_ ⟨qx4,aW xcNotLike⟩ (al_ ⟨qx5,aW xcNotLike⟩ (al_ ⟨qx6,aW xcNotLike⟩ (al_ ⟨qx7,aW xcNotLike⟩ (al_ ⟨qx8,aW xcNotLike⟩ (al_ ⟨qx9,aW xcNotLike⟩ (al_ ⟨qx10,aW xcNotLike⟩ (al_ ⟨qx11,aW xcNotLike⟩ (al_ ⟨qx12,aW xcNotLike⟩ (List.forall_mem_nil _)))))))))))))) (al_ ⟨qv0,aW xcNotLike⟩ (List.forall_mem_nil _))
  (al_ (GF.row X Y t0 et0) (al_ (GF.row X Y t1 et1) (al_ (GF.row X Y t2 et2) (al_ (GF.row X Y t3 et3) (al_ (GF.row X Y t4 et4) (al_ (GF.row X Y t5 et5) (al_ (GF.row X Y t6 et6) (al_ (GF.row X Y t7 et7) (al_ (GF.row X Y t8 et8) (al_ (GF.row X Y t9 et9) (al_ (GF.row X Y t10 et10) (al_ (GF.row X Y t11 et11) (al_ (GF.row X Y t12 et12) (al_ (GF.row X Y t13 et13) (al_ (GF.row X Y t14 et14) (al_ (GF.row X Y t15 et15) (al_ (GF.row X Y t16 et16) (al_ (GF.row X Y t17 et17) (al_ (GF.row X Y t18 et18) (al_ (GF.row X Y t19 et19) (List.forall_mem_nil _)))))))))))))))))))))
  (al_ (MF.ini X Y aRounds mkRounds kcRounds t20 et20) (al_ (MF.ini X Y aMap mkMap kcMap t21 et21) (List.forall_mem_nil _)))
  (al_ (MF.row oRounds t22 et22) (al_ (MF.row oRounds t23 et23) (al_ (MF.row oRounds t24 et24) (al_ (MF.row oRounds t25 et25) (al_ (MF.row oRounds t26 et26) (al_ (MF.row oRounds t27 et27) (al_ (MF.row oRounds t28 et28) (al_ (MF.row oRounds t29 et29) (al_ (MF.row oMap t30 et30) (al_ (MF.row oMap t31 et31) (List.forall_mem_nil _)))))))))))
  (al_ ⟨(fq oRounds).cl,n0⟩ (al_ ⟨(fq oMap).cl,n1⟩ (al_ ⟨(fq oMap).cl,n2⟩ (al_ ⟨(fq oMap).cl,n3⟩ (List.forall_mem_nil _))))) (fun _ z=>(nomatch z)) (al_ ⟨mg_of X Y aNotLike,(aW xcNotLike).cl,xtNotLike,fun _=>⟨x0NotLike,xkNotLike⟩,fun z=>absurd rfl z⟩ (List.forall_mem_nil _)) (al_ ⟨xm0,uS xcCarryError xtCarryError⟩ (List.forall_mem_nil _))) t19 et19
theorem walk {l:PySem.W.OpenLaw} {q:Program} {loose:List Str} {XP:(Str->Option Value)->Heap->Prop} {YP:World->Heap->Prop} {d:DefRec} {K:Params->PySem.W.Frag} (hn:l.most=some 63) (hdf:d.params.defaults=[])
  (hY:∀(w:World) (h:Heap),YP w h->(K w.params).In h)
  (F:∀(w:World) (mg:Str->Option Value) (fa:Addr) (h:Heap),(K w.params).In h->h.Ns mainGlobals mg->mg d.name=some (.ref fa)->
   ∃fd:FuncData,(∀(s:Shared) (u:Value),BindsTo s fd ⟨[u],[]⟩ [("_law_script",u)])∧∀base:Heap,(K w.params).In base->base.Ns mainGlobals mg->aA l.prog w (K w.params) mg base CX0 39 fa fd ["_law_script"] (spD (K w.params) (lE G 12))):
  PySem.W.WalkO q loose XP YP l.row.toRowW d [] (fun f vs=>PySem.call f vs):=
 L2.uV (n:=63) (k:=39) (x:="_law_script") (CX:=fun _=>CX0) (sp:=fun w=>spD (K w.params) (lE G 12)) hn (by decide) hdf ⟨rfl,by decide,by decide⟩ hY F (fun _ _ a ns hl _ hS=>xu (xa ns hl) hS) fun _ _ _ _ _ z=>z
end R52
local macro_rules|`(universe $_)=>do
 let b:=`PySem.Challenge.cw_carrytower_k52_maps_behind_maps_holds
 let c<- ((List.range 725).map (b.str s!"o_{·}")++["tree_115","sts_71","heap_39","tree_312","sts_313","thread_511","sts_515","tree_160","heap_46","sts_250","sts_116","tree_47","sts_161","sts_228","sts_191","tree_145","tree_724","tree_70","tree_175","env_41","tree_130","sts_131","sts_176","sts_206","tree_638","sts_101","tree_190","sts_146","tree_426","heap_725","tree_584","sts_585","tree_271","sts_49","tree_85","tree_227","tree_100","tree_249","view_39","tree_205","sts_272","sts_639","sts_86","tree_511"].map b.str++[`PySem.Challenge.pw_carrytower_k52_maps_behind_maps]).mapM fun x=>do
  let n:=Lean.mkIdent (.str `PySem.W.Fast s!"tw{x.hash}")
  `(command|theorem $n:ident:True:=trivial)
 return Lean.mkNullNode (c.toArray.map (·.raw))
universe u
open PySem PySem.W PyProof.Rows
local macro_rules|`(tactic|walk_at "g")=>`(tactic|(refine' IN.zZ ?a ?l ?c ?k;(case a=>k_is);(case l=>k_is);(case c=>k_is);(case k=>k_is)))
local macro_rules|`(tactic|walk_at "m")=>`(tactic|(refine' IN.zp ?a ?i ?l ?c ?k;(case a=>k_is);(case i=>k_is);(case l=>k_is);(case c=>k_is);(case k=>k_is)))
set_option maxRecDepth 100000 in
set_option maxHeartbeats 0 in
theorem PySem.Challenge.cw_carrytower_k52_maps_behind_maps_holds : PySem.Challenge.rw_carrytower_k52_maps_behind_maps.Holds := by
 w_on;o_law;k_head;(case hw=>w_witness2)
 k_fill
 refine R52.walk (l:=PySem.Challenge.rw_carrytower_k52_maps_behind_maps) rfl rfl (fun w h Y=>PySem.W.kIn_of Y) ?F
 case F=>
  intro w mg fa h KX G hmg
  refine' R52.all_mk KX G hmg ?aRounds ?aCarryError ?aNotLike ?aNoCount ?aNoElement ?aNoHead ?aNoPair ?aNoKind ?aTooMany ?aNoLower ?aNoUpper ?aNoMap ?aNoTower ?aNoCarry ?aMap ?et0 ?et1 ?et2 ?et3 ?et4 ?et5 ?et6 ?et7 ?et8 ?et9 ?et10 ?et11 ?et12 ?et13 ?et14 ?et15 ?et16 ?et17 ?et18 ?et19 ?et20 ?et21 ?et22 ?et23 ?et24 ?et25 ?et26 ?et27 ?et28 ?et29 ?et30 ?et31 ?oRounds ?oMap ?mkRounds ?kcRounds ?mkMap ?kcMap ?n0 ?n1 ?n2 ?n3 ?vLEAST_ROUND ?vMOST_MEMBERS ?q0 ?ty ?zs ?zbool ?zVE ?x0NotLike ?xkNotLike ?xcNotLike ?xtNotLike ?xcCarryError ?xtCarryError ?xm0 ?qx0 ?qx1 ?qx2 ?qx3 ?qx4 ?qx5 ?qx6 ?qx7 ?qx8 ?qx9 ?qx10 ?qx11 ?qx12 ?qv0
  (case aRounds=>k_is)
  (case aCarryError=>k_is)
  (case aNotLike=>k_is)
  (case aNoCount=>k_is)
  (case aNoElement=>k_is)
  (case aNoHead=>k_is)
  (case aNoPair=>k_is)
  (case aNoKind=>k_is)
  (case aTooMany=>k_is)
  (case aNoLower=>k_is)
  (case aNoUpper=>k_is)
  (case aNoMap=>k_is)
  (case aNoTower=>k_is)
  (case aNoCarry=>k_is)
  (case aMap=>k_is)
  (case et0=>walk_at "g")
  (case et1=>walk_at "g")
  (case et2=>walk_at "g")
  (case et3=>walk_at "g")
  (case et4=>walk_at "g")
  (case et5=>walk_at "g")
  (case et6=>walk_at "g")
  (case et7=>walk_at "g")
  (case et8=>walk_at "g")
  (case et9=>walk_at "g")
  (case et10=>walk_at "g")
  (case et11=>walk_at "g")
  (case et12=>walk_at "g")
  (case et13=>walk_at "g")
  (case et14=>walk_at "g")
  (case et15=>walk_at "g")
  (case et16=>walk_at "g")
  (case et17=>walk_at "g")
  (case et18=>walk_at "g")
  (case et19=>walk_at "g")
  (case et20=>walk_at "m")
  (case et21=>walk_at "m")
  (case et22=>walk_at "m")
  (case et23=>walk_at "m")
  (case et24=>walk_at "m")
  (case et25=>walk_at "m")
  (case et26=>walk_at "m")
  (case et27=>walk_at "m")
  (case et28=>walk_at "m")
  (case et29=>walk_at "m")
  (case et30=>walk_at "m")
  (case et31=>walk_at "m")
  (case oRounds=>kernel_rfl)
  (case oMap=>kernel_rfl)
  (case mkRounds=>k_is)
  (case kcRounds=>k_is)
  (case mkMap=>k_is)
  (case kcMap=>k_is)
  (case n0=>k_is)
  (case n1=>k_is)
  (case n2=>k_is)
  (case n3=>k_is)
  (case vLEAST_ROUND=>k_is)
  (case vMOST_MEMBERS=>k_is)
  (case q0=>kernel_rfl)
  (case ty=>kernel_rfl)
  (case zs=>kernel_rfl)
  (case zbool=>k_is)
  (case zVE=>k_is)
  (case x0NotLike=>first|k_is|kernel_rfl)
  (case xkNotLike=>first|k_is|kernel_rfl)
  (case xcNotLike=>kernel_rfl)
  (case xtNotLike=>first|k_is|kernel_rfl)
  (case xcCarryError=>kernel_rfl)
  (case xtCarryError=>first|k_is|kernel_rfl)
  (case xm0=>first|k_is|kernel_rfl)
  (case qx0=>kernel_rfl)
  (case qx1=>kernel_rfl)
  (case qx2=>kernel_rfl)
  (case qx3=>kernel_rfl)
  (case qx4=>kernel_rfl)
  (case qx5=>kernel_rfl)
  (case qx6=>kernel_rfl)
  (case qx7=>kernel_rfl)
  (case qx8=>kernel_rfl)
  (case qx9=>kernel_rfl)
  (case qx10=>kernel_rfl)
  (case qx11=>kernel_rfl)
  (case qx12=>kernel_rfl)
  (case qv0=>kernel_rfl)
