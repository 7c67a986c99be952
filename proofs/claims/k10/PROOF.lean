import PyProof.Rows.All
import Wide.All
import OpenK.AllK
import Wide.FinOn
import Lean
import PyProof.EqAt
import PyProof.EqKinds
import PyProof.TupleCall
import PyProof.CompUse
import PyProof.Cells
import PyProof.CompFree
import PyProof.PlainList
import PyProof.ListMulRoad
import PyProof.AutoListH
import PyProof.TupleIter
import PyProof.FactsAll.tuple_2
import KE.KIsAll
import OpenK.KOwn
import PyProof.ExcInit
import PyProof.ExcArgsOwn
import PyProof.ExcAttrAll.ValueError
import PyProof.DictRoadsH
import PyProof.P3Eq
import KE.KDictOf
import PyProof.DictIter
import PyProof.ZipIter
import PyProof.NeData
import PyProof.Rows.SumAny
import PyProof.EnumMake
import PyProof.EnumFor
import PyProof.EnumStmt
import PyProof.Rows.SeqMore
import PyProof.DictCompW
import PySem.Challenge.RW_carrytower_k10_three_that_break
set_option Elab.async false
set_option linter.all false
set_option maxRecDepth 100000
set_option maxHeartbeats 4000000
set_option exponentiation.threshold 200000
set_option bootstrap.genMatcherCode false
set_option genSizeOf false
namespace L2
open PySem PySem.Spec PyProof.Rows
noncomputable abbrev Key:=Sum Int Str
noncomputable def sC:Key->Value->Bool
 |.inl k,v=>Value.isInt k v
 |.inr x,v=>Value.isStrOf x v
noncomputable def Ax (w:World):Key->Int
 |.inl k=>hashInt k
 |.inr x=>hashStr w x
theorem aZ:∀{k:Key} {v:Value},sC k v=true->(∃i t,k=Sum.inl i∧v=Value.int i t)∨(∃x t,k=Sum.inr x∧v=Value.str x t)
 |.inl i,v,h=>by
  obtain ⟨t,e⟩:=Value.isInt_shape (k:=i) (v:=v) h
  exact .inl ⟨i,t,rfl,e⟩
 |.inr x,v,h=>by
  obtain ⟨t,e⟩:=Value.isStrOf_shape (x:=x) (v:=v) h
  exact .inr ⟨x,t,rfl,e⟩
theorem wj (a b:Int):decide ((Sum.inl a:Key)=Sum.inl b)=(a==b):=by
 by_cases e:a=b
 ·subst e;simp
 ·have h:¬(Sum.inl a:Key)=Sum.inl b:=fun q=>e (Sum.inl.inj q)
  rw [decide_eq_false h]
  exact (beq_eq_false_iff_ne.mpr e).symm
theorem xY (a b:Str):decide ((Sum.inr a:Key)=Sum.inr b)=decide (a=b):=by
 by_cases e:a=b
 ·subst e;simp
 ·have h:¬(Sum.inr a:Key)=Sum.inr b:=fun q=>e (Sum.inr.inj q)
  rw [decide_eq_false h,decide_eq_false e]
theorem wF (a:Int) (b:Str):decide ((Sum.inl a:Key)=Sum.inr b)=false:=decide_eq_false (fun q=>nomatch q)
theorem wR (a:Str) (b:Int):decide ((Sum.inr a:Key)=Sum.inl b)=false:=decide_eq_false (fun q=>nomatch q)
noncomputable def mE (prog:Program) (w:World):PySem.KeyKind prog w Key where
 is:=sC
 hash:=Ax w
 inj:=fun v a b ha hb=>by
  rcases aZ ha with ⟨i,t,rfl,rfl⟩|⟨x,t,rfl,rfl⟩
  ·rcases aZ hb with ⟨j,u,rfl,e⟩|⟨y,u,rfl,e⟩
   ·injection e with e1 _;rw [e1]
   ·exact nomatch e
  ·rcases aZ hb with ⟨j,u,rfl,e⟩|⟨y,u,rfl,e⟩
   ·exact nomatch e
   ·injection e with e1 _;rw [e1]
 byValue:=fun k v h=>by
  rcases aZ h with ⟨i,t,rfl,rfl⟩|⟨x,t,rfl,rfl⟩<;>rfl
 pyHash:=fun hv h=>by
  rcases aZ hv with ⟨i,t,rfl,rfl⟩|⟨x,t,rfl,rfl⟩
  ·exact wpAny_pyHash_int h
  ·exact wpAny_pyHash_str h
 eqBool:=fun hu hv h=>by
  rcases aZ hu with ⟨i,t,rfl,rfl⟩|⟨x,t,rfl,rfl⟩
  ·rcases aZ hv with ⟨j,u,rfl,rfl⟩|⟨y,u,rfl,rfl⟩
   ·rw [wj] at h;exact wpAny_eqBool_int h
   ·rw [wF] at h;exact SeqAt.EqAt.int_str i t y u _ _ _ _ h
  ·rcases aZ hv with ⟨j,u,rfl,rfl⟩|⟨y,u,rfl,rfl⟩
   ·rw [wR] at h;exact SeqAt.EqAt.str_int x t j u _ _ _ _ h
   ·rw [xY] at h;exact wpAny_eqBool_str h
 «strs»:=fun k x t v h=>by
  rcases aZ h with ⟨i,u,rfl,e⟩|⟨y,u,rfl,e⟩
  ·exact nomatch e
  ·injection e with e1 _
   subst e1
   cases v<;>rfl
end L2
namespace L2
open PySem PySem.Spec PyProof.Rows
inductive V where
 |non|bl (b:Bool)|int (i:Int)|str (x:Str)|byt (b:Array UInt8)|flt (b:UInt64)|ref (a:Addr)|ty (n:String)
 deriving DecidableEq
noncomputable def RelV:V->Value->Prop
 |.non,u=>u=Value.none
 |.bl b,u=>u=Value.bool b
 |.int i,u=>∃t,u=Value.int i t
 |.str x,u=>∃t,u=Value.str x t
 |.byt b,u=>∃t,u=Value.bytes b t
 |.flt b,u=>∃t,u=Value.float b t
 |.ref a,u=>u=Value.ref a
 |.ty n,u=>u=Value.type n
noncomputable abbrev Vals:List V->List Value->Prop:=Paired RelV
theorem Vals.length {xs:List V} {us:List Value} (r:Vals xs us):xs.length=us.length:=Paired.length r
theorem Vals.get:∀{xs:List V} {us:List Value} {i:Nat} {x:V},Vals xs us->xs[i]?=some x->∃u,us[i]?=some u∧RelV x u
 |_,_,_,_,.nil,e=>by simp at e
 |_,_,0,_,.cons r _,e=>by simp at e;subst e;exact ⟨_,rfl,r⟩
 |_,_,i+1,x,.cons _ t,e=>by
  obtain ⟨u,h1,h2⟩:=Vals.get (i:=i) (x:=x) t (by simpa using e)
  exact ⟨u,by simpa using h1,h2⟩
theorem Vals.append:∀{xs ys:List V} {us ws:List Value},Vals xs us->Vals ys ws->Vals (xs++ys) (us++ws)
 |_,_,_,_,.nil,s=>s
 |_,_,_,_,.cons r t,s=>.cons r (Vals.append t s)
noncomputable def bX:Option V->Option Value->Prop
 |some v,some u=>RelV v u
 |none,none=>True
 |_,_=>False
noncomputable def KV {κ:Type}:List (κ×V)->List (κ×Value)->Prop:=Paired fun (p:κ×V) (q:κ×Value)=>p.1=q.1∧RelV p.2 q.2
noncomputable def kV:Key->V
 |.inl i=>.int i
 |.inr x=>.str x
inductive HO where
 |lst (xs:List V)
 |tup (xs:List V)
 |dK (kvs:List (Key×V))|dT (kvs:List (List Key×V))
 |set (S:Int->Bool) (n:Nat)
 |ins (C dx:Addr) (fs:List (Str×V))
 |own (x:Addr)
 |xd (fs:List (Str×V))
 |met (f x:Addr)
 |rng (lo hi:Int)
 |frz (o:Obj) (u:HO)
 |tbl (ps:Array Value)
 |ext (φ:Heap->Prop)
noncomputable abbrev Hp:=Addr->Option HO
noncomputable def upd (H:Hp) (a:Addr) (o:HO):Hp:=fun b=>if b=a then some o else H b
theorem aH {H:Hp} {a:Addr} {o:HO}:upd H a o a=some o:=by unfold upd;rw [if_pos rfl]
theorem aj {H:Hp} {a b:Addr} {o:HO} (h:b≠a):upd H a o b=H b:=by unfold upd;rw [if_neg h]
theorem aJ {H:Hp} {a b:Addr} {o:HO} (h:H a=some o) (h':H b=none):a≠b:=by
 intro e;subst e;rw [h] at h';cases h'
section
variable (P:Program) (w:World)
noncomputable def aP (H:Hp) (h:Heap) (a:Addr):HO->Prop
 |.lst xs=>xs.length<=sizeLine∧∃(its:List Value) (n:Nat),Vals xs its∧h.get? a=some {cls:=.type "list",data:=.seq its.toArray n}
 |.tup xs=>xs.length<=sizeLine∧∃its:List Value,Vals xs its∧IsTup h a its.toArray
 |.dK kvs=>kvs.length<=sizeLine∧(a==sysModules)=false∧∃vs,KV kvs vs∧h.DictOf (mE P w) a vs
 |.dT kvs=>kvs.length<=sizeLine∧(a==sysModules)=false∧∃xs:List (List Key×Addr×Value),
   Paired (fun (p:List Key×V) (q:List Key×Addr×Value)=>p.1=q.1∧H q.2.1=some (.tup (p.1.map kV))∧RelV p.2 q.2.2) kvs xs∧
   ∃o es ep,h.get? a=some o∧o.ExactDict∧o.data=.dict es ep∧es.toList=xs.map (entryOfKey (tupleKind (mE P w)))∧(xs.map (·.1)).Nodup
 |.set S n=>h.SetOf (intKind P w) a S n
 |.ins C dx fs=>H dx=some (.own a)∧fs.length<=1000∧dx≠a∧h.get? a=some (PySem.W.instObj C dx)∧
   ∃mA,h.Ns1 dx mA∧(∀f,bX (fs.lookup f) (mA f))∧PySem.Within mA (fs.map (·.1))
 |.own _=>∃o,h.get? a=some o
 |.xd fs=>∃mA,h.Ns1 a mA∧∀f,bX (fs.lookup f) (mA f)
 |.rng lo hi=>∃t u v,h.get? a=some {cls:=.type "range",data:=.fields #[.int lo t,.int hi u,.int 1 v]}
 |.frz o u=>h.get? a=some o∧aP H h a u
 |.tbl ps=>h.get? a=some {cls:=.none,data:=.fields ps}
 |.met f x=>h.get? a=some (PySem.W.methodObj (.ref f) (.ref x))
 |.ext φ=>φ h∧(∃o,h.get? a=some o)∧∀h1 h2:Heap,φ h1->(∀o,h1.get? a=some o->h2.get? a=some o)->φ h2
noncomputable def HOk (H:Hp) (h:Heap):Prop:=∀a o,H a=some o->aP P w H h a o
end
section
variable {P:Program} {w:World} {H H':Hp} {h h':Heap} {a:Addr} {o:HO}
theorem aP.lt (x:aP P w H h a o):a<h.objs.size:=by
 cases o with
 |lst xs=>obtain ⟨_,_,_,_,e⟩:=x;exact Heap.lt_size e
 |tup xs=>obtain ⟨_,_,_,p⟩:=x;exact p.lt
 |dK kvs=>obtain ⟨_,_,_,_,o,_,_,e,_⟩:=x;exact Heap.lt_size e
 |dT kvs=>obtain ⟨_,_,_,_,o,_,_,e,_⟩:=x;exact Heap.lt_size e
 |set S n=>obtain ⟨o,_,_,_,e,_⟩:=x;exact Heap.lt_size e
 |ins C dx fs=>obtain ⟨_,_,_,e,_⟩:=x;exact Heap.lt_size e
 |own y=>obtain ⟨_,e⟩:=x;exact Heap.lt_size e
 |xd fs=>obtain ⟨_,⟨_,_,_,e,_⟩,_⟩:=x;exact Heap.lt_size e
 |rng lo hi=>obtain ⟨_,_,_,e⟩:=x;exact Heap.lt_size e
 |frz ob u=>obtain ⟨e,_⟩:=x;exact Heap.lt_size e
 |tbl ps=>exact Heap.lt_size (show h.get? a=some _ from x)
 |met f y=>exact Heap.lt_size (show h.get? a=some _ from x)
 |ext φ=>obtain ⟨_,⟨_,e⟩,_⟩:=x;exact Heap.lt_size e
theorem Paired.yQ {α β:Type} {F G:α->β->Prop}:∀{l₁:List α} {l₂:List β},Paired F l₁ l₂->(∀a b,F a b->G a b)->Paired G l₁ l₂
 |_,_,.nil,_=>.nil
 |_,_,.cons r t,f=>.cons (f _ _ r) (Paired.yQ t f)
theorem aP.gg (x:aP P w H h a o) (k:∀b u,(b=a∨H b=some (.own a))->h.get? b=some u->h'.get? b=some u)
  (ho:∀b,H b=some (.own a)->H' b=some (.own a)) (ht:∀b xs,H b=some (.tup xs)->H' b=some (.tup xs)):aP P w H' h' a o:=by
 induction o with
 |lst xs=>obtain ⟨z,its,n,r,e⟩:=x;exact ⟨z,its,n,r,k _ _ (.inl rfl) e⟩
 |tup xs=>obtain ⟨z,its,r,ob,e,c⟩:=x;exact ⟨z,its,r,ob,k _ _ (.inl rfl) e,c⟩
 |dK kvs=>obtain ⟨z,y,vs,r,ob,es,ep,e,c⟩:=x;exact ⟨z,y,vs,r,ob,es,ep,k _ _ (.inl rfl) e,c⟩
 |dT kvs=>
  obtain ⟨z,y,xs,r,ob,es,ep,e,c⟩:=x
  exact ⟨z,y,xs,Paired.yQ r fun p q z=>⟨z.1,ht _ _ z.2.1,z.2.2⟩,ob,es,ep,k _ _ (.inl rfl) e,c⟩
 |set S n=>obtain ⟨ob,es,ep,t,e,c⟩:=x;exact ⟨ob,es,ep,t,k _ _ (.inl rfl) e,c⟩
 |ins C dx fs=>
  obtain ⟨d,z,ne,e,mA,⟨od,es,ep,e2,c⟩,r⟩:=x
  exact ⟨ho _ d,z,ne,k _ _ (.inl rfl) e,mA,⟨od,es,ep,k _ _ (.inr d) e2,c⟩,r⟩
 |own y=>obtain ⟨ob,e⟩:=x;exact ⟨ob,k _ _ (.inl rfl) e⟩
 |xd fs=>obtain ⟨mA,⟨od,es,ep,e,c⟩,r⟩:=x;exact ⟨mA,⟨od,es,ep,k _ _ (.inl rfl) e,c⟩,r⟩
 |rng lo hi=>obtain ⟨t,u,v,e⟩:=x;exact ⟨t,u,v,k _ _ (.inl rfl) e⟩
 |frz ob u ih=>obtain ⟨e,q⟩:=x;exact ⟨k _ _ (.inl rfl) e,ih q⟩
 |tbl ps=>
  have e:h.get? a=some {cls:=.none,data:=.fields ps}:=x
  show h'.get? a=some {cls:=.none,data:=.fields ps}
  exact k a _ (.inl rfl) e
 |met f y=>
  have e:h.get? a=some (PySem.W.methodObj (.ref f) (.ref y)):=x
  show h'.get? a=some (PySem.W.methodObj (.ref f) (.ref y))
  exact k a _ (.inl rfl) e
 |ext φ=>obtain ⟨p,⟨o,e⟩,st⟩:=x;exact ⟨st _ _ p fun o q=>k _ _ (.inl rfl) q,⟨o,k _ _ (.inl rfl) e⟩,st⟩
theorem HOk.lt (x:HOk P w H h) (e:H a=some o):a<h.objs.size:=(x a o e).lt
theorem HOk.fresh (x:HOk P w H h) (e:h.objs.size<=a):H a=none:=by
 cases q:H a with
 |none=>rfl
 |some u=>exact absurd (Nat.lt_of_lt_of_le (x.lt q) e) (Nat.lt_irrefl _)
theorem HOk.kept (x:HOk P w H h) (k:∀b u,h.get? b=some u->h'.get? b=some u):HOk P w H h':=fun a o e=>
 (x a o e).gg (fun b u _ q=>k b u q) (fun _ q=>q) fun _ _ q=>q
theorem HOk.laid (x:HOk P w H h) (k:∀b u,h.get? b=some u->h'.get? b=some u) (hp:h.objs.size<=a) (new:aP P w (upd H a o) h' a o):HOk P w (upd H a o) h':=fun b u e=>by
 have hn:=x.fresh hp
 by_cases hb:b=a
 ·subst hb;rw [aH] at e;cases e;exact new
 ·rw [aj hb] at e
  exact (x b u e).gg (fun c v _ q=>k c v q) (fun c q=>by rw [aj (aJ q hn)];exact q) fun c xs q=>by rw [aj (aJ q hn)];exact q
end
noncomputable def Rd (H:Hp) (a:Addr) (u:HO):Prop:=H a=some u∨∃o,H a=some (.frz o u)
theorem Rd.ok {P:Program} {w:World} {H:Hp} {h:Heap} {a:Addr} {u:HO} (r:Rd H a u) (x:HOk P w H h):aP P w H h a u:=by
 rcases r with r|⟨o,r⟩
 ·exact x a u r
 ·obtain ⟨_,q⟩:=x a _ r
  exact q
noncomputable def Mut:Option HO->Prop
 |some (.lst _)=>True
 |some (.dK _)=>True
 |some (.dT _)=>True
 |some (.set _ _)=>True
 |some (.ins _ _ _)=>True
 |some (.ext _)=>True
 |_=>False
section
variable {P:Program} {w:World} {H:Hp} {h h':Heap} {x e:Addr} {o':HO}
theorem HOk.write (ok:HOk P w H h) (mu:Mut (H x)) (he:e=x∨H e=some (.own x)) (k:∀b u,b≠e->h.get? b=some u->h'.get? b=some u) (heo:∃u,h'.get? e=some u)
  (new:aP P w (upd H x o') h' x o'):HOk P w (upd H x o') h':=fun b u q=>by
 have nown:∀c y,H c=some (.own y)->c≠x:=fun c y r z=>by subst z;rw [r] at mu;exact mu
 have ntup:∀c xs,H c=some (.tup xs)->c≠x:=fun c xs r z=>by subst z;rw [r] at mu;exact mu
 by_cases hb:b=x
 ·subst hb;rw [aH] at q;cases q;exact new
 ·rw [aj hb] at q
  by_cases hbe:b=e
  ·have q':H b=some (.own x):=by
    rcases he with z|z
    ·exact absurd (hbe.trans z) hb
    ·rw [hbe];exact z
   rw [q] at q';cases q'
   obtain ⟨v,hv⟩:=heo
   exact ⟨v,by rw [hbe];exact hv⟩
  ·refine (ok b u q).gg (fun c v hc r=>k c v ?_ r) (fun c r=>by rw [aj (nown c b r)];exact r) fun c xs r=>by rw [aj (ntup c xs r)];exact r
   rcases hc with rfl|hc
   ·exact hbe
   ·rintro rfl
    rcases he with z|z
    ·exact nown c b hc z
    ·rw [hc] at z;cases z;exact hb rfl
end
structure Un (fs ex:List Addr) (H H':Hp) (h h':Heap):Prop where
 keep:∀b o,h.get? b=some o->H b=none->b∉fs->b∉ex->h'.get? b=some o
 slot:∀b o,h.get? b=some o->H b=none->b∈fs->b∉ex->∃sl,h'.get? b=some {o with slots:=sl}
 free:∀b o,h.get? b=some o->H b=none->b∉ex->H' b=none
 there:∀b o,h.get? b=some o->b∉ex->∃o',h'.get? b=some o'
 fL:∀b xs,H b=some (.tup xs)->H' b=some (.tup xs)
 eU:∀b o u,H b=some (.frz o u)->H' b=some (.frz o u)
 fN:∀b ps,H b=some (.tbl ps)->∃more,H' b=some (.tbl (ps++more))
section
variable {fs fs' ex ex':List Addr} {H H1 H2:Hp} {h h1 h2 h':Heap} {a x e:Addr} {o:HO}
theorem Un.any (u:Un fs ex H H1 h h1) {b:Addr} {ob:Obj} (q:h.get? b=some ob) (n:H b=none) (hx:b∉ex):∃sl,h1.get? b=some {ob with slots:=sl}:=by
 by_cases hb:b∈fs
 ·exact u.slot b ob q n hb hx
 ·exact ⟨ob.slots,u.keep b ob q n hb hx⟩
theorem Un.kept (k:∀b u,h.get? b=some u->h'.get? b=some u):Un fs ex H H h h':=
 ⟨fun b ob q _ _ _=>k b ob q,fun b ob q _ _ _=>⟨ob.slots,k b ob q⟩,fun _ _ _ n _=>n,fun b ob q _=>⟨ob,k b ob q⟩,fun _ _ q=>q,fun _ _ _ q=>q,fun _ ps q=>⟨#[],by rw [q];simp⟩⟩
theorem Un.refl:Un fs ex H H h h:=Un.kept fun _ _ q=>q
theorem Un.laid (k:∀b u,h.get? b=some u->h'.get? b=some u) (hp:h.objs.size<=a) (hn:H a=none):Un fs ex H (upd H a o) h h' where
 keep:=fun b u q _ _ _=>k b u q
 slot:=fun b u q _ _ _=>⟨u.slots,k b u q⟩
 free:=fun b u q n _=>by rw [aj (Nat.ne_of_lt (Nat.lt_of_lt_of_le (Heap.lt_size q) hp))];exact n
 there:=fun b u q _=>⟨u,k b u q⟩
 fL:=fun b xs q=>by rw [aj (aJ q hn)];exact q
 eU:=fun b u xs q=>by rw [aj (aJ q hn)];exact q
 fN:=fun b ps q=>⟨#[],by rw [aj (aJ q hn),q];simp⟩
theorem Un.write (mu:Mut (H x)) (he:e=x∨H e=some (.own x)) (k:∀b u,b≠e->h.get? b=some u->h'.get? b=some u) (heo:∃u,h'.get? e=some u):Un fs ex H (upd H x o) h h':=by
 have hx:∀b,H b=none->b≠x:=fun b n z=>by subst z;rw [n] at mu;exact mu
 have hb:∀b,H b=none->b≠e:=fun b n z=>by
  subst z
  rcases he with r|r
  ·exact hx b n r
  ·rw [n] at r;cases r
 have hm:∀b u,H b=some u->¬Mut (some u)->b≠x:=fun b u q nm z=>by subst z;rw [q] at mu;exact nm mu
 refine ⟨fun b u q n _ _=>k b u (hb b n) q,fun b u q n _ _=>⟨u.slots,k b u (hb b n) q⟩,fun b u q n _=>by rw [aj (hx b n)];exact n,fun b u q _=>?_,
  fun b xs q=>by rw [aj (hm b _ q fun z=>z)];exact q,fun b u xs q=>by rw [aj (hm b _ q fun z=>z)];exact q,fun b ps q=>⟨#[],by rw [aj (hm b _ q fun z=>z),q];simp⟩⟩
 by_cases hbe:b=e
 ·subst hbe;exact heo
 ·exact ⟨u,k b u hbe q⟩
end
noncomputable def trk (h:Heap) (H:Hp):List Addr:=(List.range h.objs.size).filter fun a=>(H a).isSome
noncomputable def f9 (h:Heap) (H:Hp):Heap:=PySem.W.hideAll h (trk h H)
theorem oB (h:Heap) (H:Hp):(f9 h H).objs.size=h.objs.size:=PySem.W.hideAll_size _ _
theorem rJ {h:Heap} {H:Hp} {b:Addr} {o:Obj} (e:h.get? b=some o) (n:H b=none):(f9 h H).get? b=some o:=
 PySem.W.hideAll_get _ e fun hm=>by
  have q:(H b).isSome=true:=(List.mem_filter.mp hm).2
  rw [n] at q;simp at q
theorem tF {h:Heap} {H:Hp} {b:Addr} {o:Obj} (e:(f9 h H).get? b=some o):h.get? b=some o∧H b=none:=by
 have e':h.get? b=some o:=PySem.W.of_hideAll (trk h H) e
 refine ⟨e',?_⟩
 cases q:H b with
 |none=>rfl
 |some x=>
  have hm:b∈trk h H:=List.mem_filter.mpr ⟨List.mem_range.mpr (Heap.lt_size e'),by simp [q]⟩
  have z:(f9 h H).get? b=none:=PySem.W.hideAll_none (trk h H) hm
  rw [z] at e;cases e
noncomputable def uS (g h:Heap) (L:Addr):List (Addr×Obj):=(List.range h.objs.size).filterMap fun a=>if a=L∨(g.get? a).isSome=true then none else (h.get? a).map fun o=>(a,o)
noncomputable def rest (g h:Heap) (L d:Addr):List (Addr×Obj):=(uS g h L).filter fun p=>decide (p.1≠d)
end L2
namespace L2
open PySem PySem.Spec PyProof.Rows
structure Mod (K:PySem.W.Frag) (mg:Str->Option Value) (base:Heap):Prop where
 kin:K.In base
 glob:base.Ns mainGlobals mg
 blt:∃mb,base.Ns builtinsNs mb∧∀x:Str,x≠"__name__"->mb x=bootBuiltins x
 nolimit:base.NoLimit
structure Cx where
 prog:Program
 w:World
 K:PySem.W.Frag
 mg:Str->Option Value
 base:Heap
 A:Around
 N:List Str
 s₀:Shared
 H₀:Hp
 env:Env
 outer:List Env
 stack:List Env
 ex:List Addr
 fn:Str->Bool
 calm:Bool
 pn:List (Addr×Obj)
 xe:Value->Shared->Prop
noncomputable def frs (l:List Env):List Addr:=l.filterMap (·.frame)
noncomputable abbrev Cx.fs (X:Cx):List Addr:=frs X.outer
noncomputable def Vis (sc:Scope) (x:Str):Prop:=sc.names.lookup x=some .local∨sc.names.lookup x=some .cell∨sc.names.lookup x=some .free
noncomputable def Loc (sc:Scope) (x:Str):Prop:=sc.names.lookup x=some .local∨sc.names.lookup x=some .cell
noncomputable def Look (env:Env) (h:Heap) (m:Str->Option Value) (x:Str) (u:Value):Prop:=
 (env.kindOf x=some .local∧m x=some u)∨((env.kindOf x=some .cell∨env.kindOf x=some .free)∧∃c,env.cells.lookup x=some c∧h.IsCell c (some u))
structure Cx.Ok (X:Cx):Prop where
 mod:Mod X.K X.mg X.base
 kind:X.env.scope.kind=.function
 glob:X.env.globals=mainGlobals
 blt:X.env.builtins=builtinsNs
 above:X.s₀.heap.objs.size<=X.env.locals
 inj:∀x y c,X.env.cells.lookup x=some c->X.env.cells.lookup y=some c->x=y
 has:∀x,(X.env.kindOf x=some .cell∨X.env.kindOf x=some .free)->∃c,X.env.cells.lookup x=some c
 cab:∀x c,X.fn x=true->X.env.cells.lookup x=some c->X.s₀.heap.objs.size<=c
 hd:X.calm=true->X.A.handled=none
 frames:X.A.frames=some X.stack
 stk:X.stack=X.outer∨(X.stack=X.env::X.outer∧X.env.frame=some X.env.locals)
 exf:∀b∈X.ex,b≠X.env.locals∧∀x c,X.env.cells.lookup x=some c->c≠b
 bs:∀b o,X.base.get? b=some o->X.s₀.heap.get? b=some o∧X.H₀ b=none
 bsz:X.base.objs.size<=X.s₀.heap.objs.size
 iu:∀b o,X.base.get? b=some o->b∉X.ex
 lM:∀b∈X.ex,b∉X.fs
 dq:X.s₀.heap.FunFrames X.base X.outer
 frf:∀b∈X.fs,X.H₀ b=none
structure Inv (X:Cx) (pins:List (Addr×Obj)) (σ:List (Option V)) (H:Hp) (s:Shared):Prop where
 ok:X.Ok
 os:s.os=X.s₀.os
 bare:AllBare s.gens
 base:Un X.fs X.ex X.H₀ H X.s₀.heap s.heap
 loc:∃m,s.heap.Ns X.env.locals m∧∀(i:Nat) (x:Str) (v:V),X.N[i]?=some x->σ[i]?=some (some v)->Vis X.env.scope x->∃u,RelV v u∧Look X.env s.heap m x u
 cell:∀x c,X.env.cells.lookup x=some c->∃v,s.heap.IsCell c v
 free:H X.env.locals=none
 cV:∀x c,X.env.cells.lookup x=some c->H c=none
 pin:∀p∈X.pn++pins,s.heap.get? p.1=some p.2∧H p.1=none∧p.1≠X.env.locals∧p.1∉X.fs∧∀v,p.2.data≠.cell v
 hok:HOk X.prog X.w H s.heap
 len:σ.length=X.N.length
section
variable {X:Cx} {pins:List (Addr×Obj)} {σ:List (Option V)} {H H':Hp} {s:Shared} {h':Heap}
theorem Cx.Ok.Av (ok:X.Ok) {b:Addr} {o:Obj} (e:X.base.get? b=some o):b∉X.fs:=fun hb=>by
 have:=(ok.dq.mem hb).1
 rw [e] at this;cases this
theorem Inv.bs (I:Inv X pins σ H s):∀b o,X.base.get? b=some o->s.heap.get? b=some o∧H b=none:=fun b o e=>
 ⟨I.base.keep b o (I.ok.bs b o e).1 (I.ok.bs b o e).2 (I.ok.Av e) (I.ok.iu b o e),I.base.free b o (I.ok.bs b o e).1 (I.ok.bs b o e).2 (I.ok.iu b o e)⟩
theorem Inv.bk (I:Inv X pins σ H s):∀b o,X.base.get? b=some o->s.heap.get? b=some o:=fun b o e=>(I.bs b o e).1
theorem Inv.mod (I:Inv X pins σ H s):Mod X.K X.mg X.base:=I.ok.mod
theorem Inv.kIn (I:Inv X pins σ H s):X.K.In s.heap:=I.ok.mod.kin.keeps I.bk
theorem Inv.lt (I:Inv X pins σ H s):X.env.locals<s.heap.objs.size:=let ⟨_,hn,_⟩:=I.loc;hn.lt
theorem Inv.sz (I:Inv X pins σ H s):X.s₀.heap.objs.size<=s.heap.objs.size:=Nat.le_trans I.ok.above (Nat.le_of_lt I.lt)
theorem Inv.ye (I:Inv X pins σ H s) {a:Addr} (h:s.heap.objs.size<=a):a∉X.fs:=fun hb=>by
 obtain ⟨_,o,ho,_⟩:=I.ok.dq.mem hb
 exact absurd (Nat.lt_of_lt_of_le (Heap.lt_size ho) (Nat.le_trans I.sz h)) (Nat.lt_irrefl _)
theorem Inv.cne (I:Inv X pins σ H s):∀x c,X.env.cells.lookup x=some c->c≠X.env.locals:=fun x c e z=>by
 obtain ⟨v,o,ho,hd⟩:=I.cell x c e
 obtain ⟨m,⟨o',es,ep,ho',hd',_⟩,_⟩:=I.loc
 rw [z,ho'] at ho;cases ho;rw [hd'] at hd;cases hd
theorem Inv.dq (I:Inv X pins σ H s):s.heap.FunFrames X.base X.outer:=by
 have all:∀(l:List Env),(∀b∈frs l,b∈X.fs)->X.s₀.heap.FunFrames X.base l->s.heap.FunFrames X.base l:=by
  intro l
  induction l with
  |nil=>intro _ _;trivial
  |cons env r ih=>
   intro hs hl
   obtain ⟨hk,⟨L,o,hf,hn,ho,hd⟩,hr⟩:=hl
   have hL:L∈X.fs:=hs L (by unfold frs;rw [List.filterMap_cons,hf];exact List.mem_cons_self)
   obtain ⟨sl,e⟩:=I.base.slot L o ho (I.ok.frf L hL) hL fun z=>I.ok.lM L z hL
   exact ⟨hk,⟨L,_,hf,hn,e,hd⟩,ih (fun b hb=>hs b (by unfold frs;rw [List.filterMap_cons,hf];exact List.mem_cons_of_mem _ hb)) hr⟩
 exact all X.outer (fun _ hb=>hb) I.ok.dq
theorem Inv.stack (I:Inv X pins σ H s):s.heap.FunFrames X.base X.stack:=by
 rcases I.ok.stk with e|⟨e,hf⟩
 ·rw [e];exact I.dq
 ·rw [e]
  obtain ⟨m,hn,_⟩:=I.loc
  refine .cons (by rw [I.ok.kind];decide) hf hn ?_ I.dq
  exact Heap.get?_none_of_le (Nat.le_trans I.ok.bsz I.ok.above)
theorem Inv.fA (I:Inv X pins σ H s):∀b∈frs X.stack,b∈X.env.locals::X.fs:=fun b hb=>by
 rcases I.ok.stk with e|⟨e,hf⟩
 ·rw [e] at hb;exact List.mem_cons_of_mem _ hb
 ·rw [e] at hb
  unfold frs at hb
  rw [List.filterMap_cons,hf] at hb
  exact hb
theorem Inv.l5 (I:Inv X pins σ H s):∀b∈frs X.stack,H b=none:=fun b hb=>by
 rcases List.mem_cons.mp (I.fA b hb) with e|hb
 ·rw [e];exact I.free
 ·obtain ⟨_,o,ho,_⟩:=I.ok.dq.mem hb
  exact I.base.free b o ho (I.ok.frf b hb) fun z=>I.ok.lM b z hb
theorem Inv.step {g':Array GenState} {t':Nat} {d':Drawn} {ch:List Addr} (I:Inv X pins σ H s)
  (hch:∀b∈ch,(b∈X.ex∨X.s₀.heap.objs.size<=b)∧b≠X.env.locals∧(∀x c,X.env.cells.lookup x=some c->c≠b)∧∀p∈X.pn++pins,p.1≠b)
  (keep:∀b o,b≠X.env.locals->b∉X.fs->b∉ch->s.heap.get? b=some o->H b=none->h'.get? b=some o)
  (slot:∀b o,b≠X.env.locals->b∈X.fs->b∉ch->s.heap.get? b=some o->H b=none->∃sl,h'.get? b=some {o with slots:=sl}) (free:∀b o,b∉ch->s.heap.get? b=some o->H b=none->H' b=none)
  (there:∀b o,b∉ch->s.heap.get? b=some o->∃o',h'.get? b=some o')
  (fL:∀b xs,H b=some (.tup xs)->H' b=some (.tup xs)) (eU:∀b o u,H b=some (.frz o u)->H' b=some (.frz o u)) (fN:∀b ps,H b=some (.tbl ps)->∃more,H' b=some (.tbl (ps++more)))
  (ns:∀m,s.heap.Ns X.env.locals m->h'.Ns X.env.locals m) (hok:HOk X.prog X.w H' h') (hg:AllBare g'):
  Inv X pins σ H' {s with heap:=h',gens:=g',drawn:=d',toks:=t'}:=by
 have neL:∀b o,X.s₀.heap.get? b=some o->b≠X.env.locals:=fun b o e=>Nat.ne_of_lt (Nat.lt_of_lt_of_le (Heap.lt_size e) I.ok.above)
 have neC:∀b o,X.s₀.heap.get? b=some o->b∉X.ex->b∉ch:=fun b o e hx hb=>by
  rcases (hch b hb).1 with z|z
  ·exact hx z
  ·exact absurd (Nat.lt_of_lt_of_le (Heap.lt_size e) z) (Nat.lt_irrefl _)
 have cellK:∀x c,X.env.cells.lookup x=some c->∀v,s.heap.IsCell c v->h'.IsCell c v:=fun x c e v ⟨o,ho,hd⟩=>by
  have nch:c∉ch:=fun z=>(hch c z).2.2.1 x c e rfl
  by_cases hc:c∈X.fs
  ·obtain ⟨sl,q⟩:=slot c o (I.cne x c e) hc nch ho (I.cV x c e)
   exact ⟨_,q,hd⟩
  ·exact ⟨o,keep c o (I.cne x c e) hc nch ho (I.cV x c e),hd⟩
 refine ⟨I.ok,I.os,hg,⟨fun b o e n hb hx=>?_,fun b o e n hb hx=>?_,fun b o e n hx=>?_,fun b o e hx=>?_,fun b xs e=>fL b xs (I.base.fL b xs e),fun b o xs e=>eU b o xs (I.base.eU b o xs e),fun b ps e=>?_⟩,?_,fun x c e=>?_,?_,fun x c e=>?_,fun p hp=>?_,hok,I.len⟩
 ·exact keep b o (neL b o e) hb (neC b o e hx) (I.base.keep b o e n hb hx) (I.base.free b o e n hx)
 ·obtain ⟨sl,e1⟩:=I.base.slot b o e n hb hx
  obtain ⟨sl',e2⟩:=slot b _ (neL b o e) hb (neC b o e hx) e1 (I.base.free b o e n hx)
  exact ⟨sl',e2⟩
 ·obtain ⟨o',e1⟩:=I.base.there b o e hx
  exact free b o' (neC b o e hx) e1 (I.base.free b o e n hx)
 ·obtain ⟨o',e1⟩:=I.base.there b o e hx
  exact there b o' (neC b o e hx) e1
 ·obtain ⟨m1,e1⟩:=I.base.fN b ps e
  obtain ⟨m2,e2⟩:=fN b _ e1
  exact ⟨m1++m2,by rw [e2,Array.append_assoc]⟩
 ·obtain ⟨m,hn,hl⟩:=I.loc
  refine ⟨m,ns m hn,fun i x v e1 e2 e3=>?_⟩
  obtain ⟨u,r,l⟩:=hl i x v e1 e2 e3
  refine ⟨u,r,?_⟩
  rcases l with l|⟨k,c,e,z⟩
  ·exact .inl l
  ·exact .inr ⟨k,c,e,cellK x c e _ z⟩
 ·obtain ⟨v,z⟩:=I.cell x c e
  exact ⟨v,cellK x c e v z⟩
 ·obtain ⟨m,⟨o,_,_,ho,_⟩,_⟩:=I.loc
  exact free _ o (fun z=>(hch _ z).2.1 rfl) ho I.free
 ·obtain ⟨v,o,ho,hd⟩:=I.cell x c e
  exact free c o (fun z=>(hch c z).2.2.1 x c e rfl) ho (I.cV x c e)
 ·obtain ⟨e,n,ne,nf,d⟩:=I.pin p hp
  have nch:p.1∉ch:=fun z=>(hch p.1 z).2.2.2 p hp rfl
  exact ⟨keep p.1 p.2 ne nf nch e n,free p.1 p.2 nch e n,ne,nf,d⟩
theorem Inv.un {t':Nat} (I:Inv X pins σ H s) (u:Un X.fs [] H H' s.heap h') (hok:HOk X.prog X.w H' h'):Inv X pins σ H' {s with heap:=h',toks:=t'}:=by
 obtain ⟨m,⟨o,es,ep,ho,r⟩,_⟩:=id I.loc
 obtain ⟨sl,hL⟩:=u.any ho I.free (by simp)
 exact I.step (g':=s.gens) (d':=s.drawn) (ch:=[]) (fun _ z=>nomatch z) (fun b o _ hb _ e n=>u.keep b o e n hb (by simp)) (fun b o _ hb _ e n=>u.slot b o e n hb (by simp)) (fun b o _ e n=>u.free b o e n (by simp)) (fun b o _ e=>u.there b o e (by simp)) u.fL u.eU u.fN (fun m' hm=>by
  obtain ⟨o',es',ep',ho',r'⟩:=hm
  rw [ho] at ho';cases ho'
  exact ⟨_,es',ep',hL,r'⟩) hok I.bare
theorem Inv.call {g':Array GenState} {t':Nat} {d':Drawn} {ch:List Addr} (I:Inv X pins σ H s) (u:Un (frs X.stack) ch H H' s.heap h') (hok:HOk X.prog X.w H' h') (hg:AllBare g')
  (hch:∀b∈ch,(b∈X.ex∨X.s₀.heap.objs.size<=b)∧b≠X.env.locals∧(∀x c,X.env.cells.lookup x=some c->c≠b)∧∀p∈X.pn++pins,p.1≠b):
  Inv X pins σ H' {s with heap:=h',gens:=g',drawn:=d',toks:=t'}:=by
 obtain ⟨m,⟨o,es,ep,ho,r⟩,_⟩:=id I.loc
 obtain ⟨sl,hL⟩:=u.any ho I.free fun z=>(hch _ z).2.1 rfl
 exact I.step (ch:=ch) hch (fun b o hL hb hc e n=>u.keep b o e n (fun z=>(List.mem_cons.mp (I.fA b z)).elim hL hb) hc) (fun b o _ _ hc e n=>u.any e n hc) (fun b o hc e n=>u.free b o e n hc) (fun b o hc e=>u.there b o e hc) u.fL u.eU u.fN (fun m' hm=>by
  obtain ⟨o',es',ep',ho',r'⟩:=hm
  rw [ho] at ho';cases ho'
  exact ⟨_,es',ep',hL,r'⟩) hok hg
theorem Inv.turned {t':Nat} {it:Addr} (I:Inv X pins σ H s) (k:∀b o,b≠it->s.heap.get? b=some o->h'.get? b=some o) (hn:H it=none) (hL:it≠X.env.locals)
  (h1:it∈X.ex∨X.s₀.heap.objs.size<=it) (h2:∀x c,X.env.cells.lookup x=some c->c≠it) (h3:∀p∈X.pn++pins,p.1≠it):Inv X pins σ H {s with heap:=h',toks:=t'}:=by
 have nit:∀b u,H b=some u->b≠it:=fun b u e z=>by rw [z,hn] at e;cases e
 refine I.step (g':=s.gens) (d':=s.drawn) (ch:=[it]) (fun b hb=>?_) (fun b o _ _ hc e _=>k b o (fun z=>hc (by simp [z])) e) (fun b o _ _ hc e _=>⟨o.slots,k b o (fun z=>hc (by simp [z])) e⟩) (fun _ _ _ _ n=>n)
  (fun b o hc e=>⟨o,k b o (fun z=>hc (by simp [z])) e⟩) (fun _ _ e=>e) (fun _ _ _ e=>e) (fun b ps e=>⟨#[],by rw [e];simp⟩) (fun m hm=>?_) (fun b u e=>?_) I.bare
 ·have e:b=it:=by simpa using hb
  subst e
  exact ⟨h1,hL,h2,h3⟩
 ·obtain ⟨o,es,ep,ho,r⟩:=hm
  exact ⟨o,es,ep,k _ o (Ne.symm hL) ho,r⟩
 ·refine (I.hok b u e).gg (fun c v hc q=>k c v ?_ q) (fun _ q=>q) fun _ _ q=>q
  rcases hc with z|z
  ·rw [z];exact nit b u e
  ·exact nit c _ z
theorem Inv.tok (I:Inv X pins σ H s) (t:Nat):Inv X pins σ H {s with toks:=t}:=I.un (h':=s.heap) (t':=t) Un.refl I.hok
theorem Inv.kept {t':Nat} (I:Inv X pins σ H s) (k:∀b u,s.heap.get? b=some u->h'.get? b=some u):Inv X pins σ H {s with heap:=h',toks:=t'}:=I.un (Un.kept k) (I.hok.kept k)
theorem Inv.laid {a:Addr} {o:HO} {t':Nat} (I:Inv X pins σ H s) (k:∀b u,s.heap.get? b=some u->h'.get? b=some u) (hp:s.heap.objs.size<=a) (new:aP X.prog X.w (upd H a o) h' a o):
  Inv X pins σ (upd H a o) {s with heap:=h',toks:=t'}:=I.un (Un.laid k hp (I.hok.fresh hp)) (I.hok.laid k hp new)
theorem Inv.write {x e:Addr} {o:HO} {t':Nat} (I:Inv X pins σ H s) (mu:Mut (H x)) (he:e=x∨H e=some (.own x)) (k:∀b u,b≠e->s.heap.get? b=some u->h'.get? b=some u) (heo:∃u,h'.get? e=some u)
  (new:aP X.prog X.w (upd H x o) h' x o):Inv X pins σ (upd H x o) {s with heap:=h',toks:=t'}:=I.un (Un.write mu he k heo) (I.hok.write mu he k heo new)
theorem Inv.weak {σ':List (Option V)} (I:Inv X pins σ H s) (hl:σ'.length=σ.length) (w:∀(i:Nat) v,σ'[i]?=some (some v)->σ[i]?=some (some v)):Inv X pins σ' H s:=
 ⟨I.ok,I.os,I.bare,I.base,let ⟨m,hn,hl'⟩:=I.loc;⟨m,hn,fun i x v e1 e2 e3=>hl' i x v e1 (w i v e2) e3⟩,I.cell,I.free,I.cV,I.pin,I.hok,hl.trans I.len⟩
theorem Inv.jj {pins':List (Addr×Obj)} (I:Inv X pins σ H s) (h:∀p∈pins',s.heap.get? p.1=some p.2∧H p.1=none∧p.1≠X.env.locals∧p.1∉X.fs∧∀v,p.2.data≠.cell v):Inv X pins' σ H s:=
 ⟨I.ok,I.os,I.bare,I.base,I.loc,I.cell,I.free,I.cV,fun p hp=>(List.mem_append.mp hp).elim (fun z=>I.pin p (List.mem_append_left _ z)) (h p),I.hok,I.len⟩
theorem lK {N:List Str} (hN:N.Nodup) {i j:Nat} {x:Str} (a:N[i]?=some x) (b:N[j]?=some x):i=j:=by
 obtain ⟨h1,e1⟩:=List.getElem?_eq_some_iff.mp a
 obtain ⟨h2,e2⟩:=List.getElem?_eq_some_iff.mp b
 exact (List.getElem_inj hN).mp (e1.trans e2.symm)
theorem gG {M:Model} {A:Around} {E:Value->Shared->Prop} {i:Nat} {x:Str} {v:V} {u:Value} {Q:Unit->Shared->Prop} (I:Inv X pins σ H s) (hN:X.N.Nodup) (hi:X.N[i]?=some x) (hx:Loc X.env.scope x) (r:RelV v u)
  (h:∀s',Inv X pins (σ.set i (some v)) H s'->(∃a,Heap.SameBut a s.heap s'.heap∧(a=X.env.locals∨X.env.cells.lookup x=some a))->Q () s') (hf:X.fn x=true∨X.env.scope.names.lookup x=some .local:=by first|exact .inl rfl|exact .inr rfl|assumption):wpAny M A (storeName X.env x u) Q E s:=by
 obtain ⟨m,hn,hl⟩:=id I.loc
 have hcls:(X.env.scope.kind==.class||(X.env.scope.kind==.module&&X.env.locals !=X.env.globals))=false:=by rw [I.ok.kind];rfl
 have hiσ:i<σ.length:=by rw [I.len];exact (List.getElem?_eq_some_iff.mp hi).1
 have cne:=I.cne
 have tracked:∀{a:Addr} {h':Heap},(∃o,s.heap.get? a=some o∧H a=none)->Heap.SameBut a s.heap h'->HOk X.prog X.w H h':=fun {a h'} ha hs b ob e=>by
  obtain ⟨_,_,hfree⟩:=ha
  refine (I.hok b ob e).gg (fun c w' hc q=>(hs.2 c ?_).trans q) (fun _ q=>q) fun _ _ q=>q
  rintro rfl
  rcases hc with rfl|hc
  ·rw [hfree] at e;cases e
  ·rw [hfree] at hc;cases hc
 rcases hx with hk|hk
 ·refine wpAny_storeName_local hk hn (fun h' hn' hs=>?_) hcls
  obtain ⟨oL,_,_,hoL,_⟩:=id hn
  refine h _ ⟨I.ok,I.os,I.bare,⟨fun b o e n hb hx=>?_,fun b o e n hb hx=>?_,I.base.free,fun b o e hx=>?_,I.base.fL,I.base.eU,I.base.fN⟩,⟨_,hn',fun j y v' e1 e2 e3=>?_⟩,fun y c e=>?_,I.free,I.cV,fun p hp=>?_,tracked ⟨oL,hoL,I.free⟩ hs,by simpa using I.len⟩ ⟨_,hs,.inl rfl⟩
  ·exact (hs.2 b (Nat.ne_of_lt (Nat.lt_of_lt_of_le (Heap.lt_size e) I.ok.above))).trans (I.base.keep b o e n hb hx)
  ·obtain ⟨sl,e1⟩:=I.base.slot b o e n hb hx
   exact ⟨sl,(hs.2 b (Nat.ne_of_lt (Nat.lt_of_lt_of_le (Heap.lt_size e) I.ok.above))).trans e1⟩
  ·obtain ⟨o',e1⟩:=I.base.there b o e hx
   exact ⟨o',(hs.2 b (Nat.ne_of_lt (Nat.lt_of_lt_of_le (Heap.lt_size e) I.ok.above))).trans e1⟩
  ·by_cases hj:j=i
   ·subst hj
    rw [hi] at e1;cases e1
    rw [List.getElem?_set_self hiσ] at e2
    cases e2
    exact ⟨u,r,.inl ⟨hk,by simp⟩⟩
   ·rw [List.getElem?_set_ne (Ne.symm hj)] at e2
    obtain ⟨u',r',q⟩:=hl j y v' e1 e2 e3
    refine ⟨u',r',?_⟩
    rcases q with ⟨k,e⟩|⟨k,c,e,z⟩
    ·refine .inl ⟨k,?_⟩
     have:y≠x:=fun e=>hj (lK hN e1 (e▸hi))
     simp [this,e]
    ·exact .inr ⟨k,c,e,z.sameBut hs (cne y c e)⟩
  ·obtain ⟨w',z⟩:=I.cell y c e
   exact ⟨w',z.sameBut hs (cne y c e)⟩
  ·obtain ⟨e,n,ne,nf,d⟩:=I.pin p hp
   exact ⟨(hs.2 p.1 ne).trans e,n,ne,nf,d⟩
 ·have hfn:X.fn x=true:=by
   rcases hf with z|z
   ·exact z
   ·rw [z] at hk;cases hk
  obtain ⟨c,hc⟩:=I.ok.has x (.inl hk)
  obtain ⟨w',z⟩:=I.cell x c hc
  refine wpAny_storeName_cell I.ok.kind hk hc z (fun h' hc' hs=>?_)
  obtain ⟨oc,hoc,hocd⟩:=id z
  refine h {s with heap:=h'} ⟨I.ok,I.os,I.bare,⟨fun b o e n hb hx=>?_,fun b o e n hb hx=>?_,I.base.free,fun b o e hx=>?_,I.base.fL,I.base.eU,I.base.fN⟩,⟨m,hn.sameBut hs (Ne.symm (cne x c hc)),fun j y v' e1 e2 e3=>?_⟩,fun y c' e=>?_,I.free,I.cV,fun p hp=>?_,tracked ⟨oc,hoc,I.cV x c hc⟩ hs,by simpa using I.len⟩ ⟨c,hs,.inr hc⟩
  ·exact (hs.2 b (Nat.ne_of_lt (Nat.lt_of_lt_of_le (Heap.lt_size e) (I.ok.cab x c hfn hc)))).trans (I.base.keep b o e n hb hx)
  ·obtain ⟨sl,e1⟩:=I.base.slot b o e n hb hx
   exact ⟨sl,(hs.2 b (Nat.ne_of_lt (Nat.lt_of_lt_of_le (Heap.lt_size e) (I.ok.cab x c hfn hc)))).trans e1⟩
  ·obtain ⟨o',e1⟩:=I.base.there b o e hx
   exact ⟨o',(hs.2 b (Nat.ne_of_lt (Nat.lt_of_lt_of_le (Heap.lt_size e) (I.ok.cab x c hfn hc)))).trans e1⟩
  ·by_cases hj:j=i
   ·subst hj
    rw [hi] at e1;cases e1
    rw [List.getElem?_set_self hiσ] at e2
    cases e2
    exact ⟨u,r,.inr ⟨.inl hk,c,hc,hc'⟩⟩
   ·rw [List.getElem?_set_ne (Ne.symm hj)] at e2
    obtain ⟨u',r',q⟩:=hl j y v' e1 e2 e3
    refine ⟨u',r',?_⟩
    rcases q with q|⟨k,c',e,z'⟩
    ·exact .inl q
    ·refine .inr ⟨k,c',e,z'.sameBut hs ?_⟩
     rintro rfl
     exact hj (lK hN e1 (I.ok.inj _ _ _ e hc▸hi))
  ·by_cases hcc:c'=c
   ·subst hcc;exact ⟨_,hc'⟩
   ·obtain ⟨w2,z2⟩:=I.cell y c' e
    exact ⟨w2,z2.sameBut hs hcc⟩
  ·obtain ⟨e,n,ne,nf,d⟩:=I.pin p hp
   refine ⟨(hs.2 p.1 ?_).trans e,n,ne,nf,d⟩
   intro q
   rw [q,hoc] at e
   have q':oc=p.2:=Option.some.inj e
   exact d w' (by rw [←q'];exact hocd)
theorem gc {M:Model} {A:Around} {E:Value->Shared->Prop} {i:Nat} {x:Str} {v:V} {u:Value} {Q:Unit->Shared->Prop} (I:Inv X pins σ H s) (hN:X.N.Nodup) (hi:X.N[i]?=some x) (hx:Loc X.env.scope x) (r:RelV v u)
  (h:∀s',Inv X pins (σ.set i (some v)) H s'->Q () s') (hf:X.fn x=true∨X.env.scope.names.lookup x=some .local:=by first|exact .inl rfl|exact .inr rfl|assumption):wpAny M A (storeName X.env x u) Q E s:=
 gG I hN hi hx r (fun s' I' _=>h s' I') hf
theorem Inv.zQ {s':Shared} {ch:List Addr} (I:Inv X pins σ H s) (ho:s'.os=s.os) (u:Un (frs X.stack) ch H H' s.heap s'.heap) (hok:HOk X.prog X.w H' s'.heap) (hg:AllBare s'.gens)
  (hch:∀b∈ch,(b∈X.ex∨X.s₀.heap.objs.size<=b)∧b≠X.env.locals∧(∀x c,X.env.cells.lookup x=some c->c≠b)∧∀p∈X.pn++pins,p.1≠b):Inv X pins σ H' s':=by
 obtain ⟨h',g',d',t',o'⟩:=s'
 have e:o'=s.os:=ho
 subst e
 exact I.call (g':=g') (t':=t') (d':=d') u hok hg hch
end
noncomputable abbrev XK:=Value->Option Addr->Hp->Prop
noncomputable abbrev St:=List (Option V)
noncomputable abbrev VK:=V->Hp->Prop
noncomputable abbrev TE:=St->Hp->VK->Prop
noncomputable abbrev TT:=St->Hp->(Bool->Hp->Prop)->Prop
noncomputable abbrev TA:=St->Hp->(List V->Hp->Prop)->Prop
structure Ends where
 nx:St->Hp->Prop
 rt:VK
 bk:St->Hp->Prop:=fun _ _=>False
 ct:St->Hp->Prop:=fun _ _=>False
noncomputable abbrev TS:=Ends->St->Hp->Prop
noncomputable def EP (X:Cx) (pins:List (Addr×Obj)) (σ:St) (Q:VK) (u:Value) (s':Shared):Prop:=∃v H',Inv X pins σ H' s'∧RelV v u∧Q v H'
noncomputable def TP (X:Cx) (pins:List (Addr×Obj)) (σ:St) (Q:Bool->Hp->Prop) (b:Bool) (s':Shared):Prop:=∃H',Inv X pins σ H' s'∧Q b H'
noncomputable def AP (X:Cx) (pins:List (Addr×Obj)) (σ:St) (Q:List V->Hp->Prop) (us:List Value) (s':Shared):Prop:=∃vs H',Inv X pins σ H' s'∧Vals vs us∧Q vs H'
noncomputable def SP (X:Cx) (pins:List (Addr×Obj)) (D:Ends) (f:Flow) (s':Shared):Prop:=
 match f with
 |.next=>∃σ' H',Inv X pins σ' H' s'∧D.nx σ' H'
 |.brk=>∃σ' H',Inv X pins σ' H' s'∧D.bk σ' H'
 |.cont=>∃σ' H',Inv X pins σ' H' s'∧D.ct σ' H'
 |.ret u=>∃v σ' H',Inv X pins σ' H' s'∧RelV v u∧D.rt v H'
noncomputable def PE (X:Cx) (e:Expr) (t:TE):Prop:=
 ∀(pins:List (Addr×Obj)) (s:Shared) (σ:St) (H:Hp) (Q:VK),Inv X pins σ H s->t σ H Q->wpAny (model X.prog X.w) X.A (eval e X.env) (EP X pins σ Q) X.xe s
noncomputable def PT (X:Cx) (e:Expr) (t:TT):Prop:=
 ∀(pins:List (Addr×Obj)) (s:Shared) (σ:St) (H:Hp) (Q:Bool->Hp->Prop),Inv X pins σ H s->t σ H Q->wpAny (model X.prog X.w) X.A (isTrue e X.env (eval e X.env)) (TP X pins σ Q) X.xe s
noncomputable def PW (X:Cx) (e:Expr) (t:TT):Prop:=
 ∀(whole:Sem Value) (pins:List (Addr×Obj)) (s:Shared) (σ:St) (H:Hp) (Q:Bool->Hp->Prop),Inv X pins σ H s->t σ H Q->wpAny (model X.prog X.w) X.A (isTrue e X.env whole) (TP X pins σ Q) X.xe s
theorem PW.pt {X:Cx} {e:Expr} {t:TT} (h:PW X e t):PT X e t:=h _
noncomputable def PA (X:Cx) (es:List Expr) (t:TA):Prop:=
 ∀(pos:Pos) (pins:List (Addr×Obj)) (s:Shared) (σ:St) (H:Hp) (Q:List V->Hp->Prop),Inv X pins σ H s->t σ H Q->wpAny (model X.prog X.w) X.A (spliced (backTo pos (starEach es X.env))) (AP X pins σ Q) X.xe s
noncomputable def PS (X:Cx) (st:Stmt) (t:TS):Prop:=
 ∀(pins:List (Addr×Obj)) (s:Shared) (σ:St) (H:Hp) (D:Ends),Inv X pins σ H s->t D σ H->wpAny (model X.prog X.w) X.A (exec st X.env) (SP X pins D) X.xe s
noncomputable def PSs (X:Cx) (st:List Stmt) (t:TS):Prop:=
 ∀(pins:List (Addr×Obj)) (s:Shared) (σ:St) (H:Hp) (D:Ends),Inv X pins σ H s->t D σ H->wpAny (model X.prog X.w) X.A (execs st X.env) (SP X pins D) X.xe s
theorem thn {α:Type} {t:Sem α} {Q Q':α->Shared->Prop} {M:Model} {A:Around} {E:Value->Shared->Prop} {s:Shared} (h:wpAny M A t Q E s) (hQ:∀a s,Q a s->Q' a s):wpAny M A t Q' E s:=wpAny_mono h hQ fun _ _ x=>x
end L2
namespace L2
open PySem PySem.Spec PyProof.Rows
section
variable {X:Cx}
noncomputable def AZ (i:Nat):TE:=fun σ H Q=>∃v,σ[i]?=some (some v)∧Q v H
noncomputable def tC (v:V):TE:=fun _ H Q=>Q v H
theorem fm {i:Nat} {x:Str} {pos:Pos} (hN:X.N[i]?=some x) (hv:Vis X.env.scope x) (hd:(x==("__debug__":Str))=false:=by decide) (hcd:(x==("__classdict__":Str))=false:=by decide):PE X (.Name x pos) (AZ i):=by
 intro pins s σ H Q I h
 obtain ⟨v,e,h⟩:=h
 obtain ⟨m,hn,hl⟩:=I.loc
 obtain ⟨u,r,l⟩:=hl i x v hN e hv
 have fin:EP X pins σ Q u s:=⟨v,H,I,r,h⟩
 rcases l with ⟨hk,hm⟩|⟨hk,c,hc,hcell⟩
 ·exact wpAny_Name (wpAny_loadName_local I.ok.kind hk hn hm fin) hd
 ·rcases hk with hk|hk
  ·exact wpAny_Name (wpAny_loadName_cell I.ok.kind hk hc hcell fin) hd
  ·exact wpAny_Name (wpAny_loadName_free I.ok.kind hk hc hcell fin hcd) hd
theorem wX {i j pos}:PE X (.Constant (.int i) j pos) (tC (.int i)):=fun _ _ _ H _ I h=>wpAny_Constant_int ⟨.int i,H,I.tok _,⟨_,rfl⟩,h⟩
theorem Aq {b j pos}:PE X (.Constant (.bool b) j pos) (tC (.bl b)):=fun _ _ _ H _ I h=>Constant_bool ⟨.bl b,H,I,rfl,h⟩
theorem xW {j pos}:PE X (.Constant .none j pos) (tC .non):=fun _ _ _ H _ I h=>Constant_none ⟨.non,H,I,rfl,h⟩
theorem xN {x j pos}:PE X (.Constant (.str x) j pos) (tC (.str x)):=fun _ _ _ H _ I h=>Calls.Constant_str ⟨.str x,H,I.tok _,⟨_,rfl⟩,h⟩
noncomputable def Gl (X:Cx) (x:Str):Prop:=X.env.kindOf x=some .globalImplicit
theorem jI {E:Value->Shared->Prop} {pins:List (Addr×Obj)} {s:Shared} {σ:St} {H:Hp} {x:Str} {u:Value} {pos:Pos} {Q:Value->Shared->Prop} (I:Inv X pins σ H s) (hg:Gl X x) (hm:X.mg x=some u) (h:Q u s)
  (hd:(x==("__debug__":Str))=false:=by decide):wpAny (model X.prog X.w) X.A (eval (.Name x pos) X.env) Q E s:=
 Calls.Name_function_global I.ok.kind hg (Calls.loadGlobal_global (by rw [I.ok.glob];exact I.mod.glob.keeps I.bk) hm h) hd
theorem dM {E:Value->Shared->Prop} {pins:List (Addr×Obj)} {s:Shared} {σ:St} {H:Hp} {x:Str} {u:Value} {pos:Pos} {Q:Value->Shared->Prop} (I:Inv X pins σ H s) (hg:Gl X x) (hm:X.mg x=none) (hv:bootBuiltins x=some u) (h:Q u s)
  (hn:x≠"__name__":=by decide) (hd:(x==("__debug__":Str))=false:=by decide):wpAny (model X.prog X.w) X.A (eval (.Name x pos) X.env) Q E s:=by
 obtain ⟨mb,h1,h2⟩:=I.mod.blt
 exact Calls.Name_function_global I.ok.kind hg (Calls.loadGlobal_builtin (by rw [I.ok.glob];exact I.mod.glob.keeps I.bk) hm (by rw [I.ok.blt];exact h1.keeps I.bk) ((h2 x hn).trans hv) h) hd
theorem l8 {x:Str} {v:V} {u:Value} {pos:Pos} (hg:Gl X x) (hm:X.mg x=some u) (r:RelV v u) (hd:(x==("__debug__":Str))=false:=by decide):PE X (.Name x pos) (tC v):=
 fun _ _ _ H _ I h=>jI I hg hm ⟨v,H,I,r,h⟩ hd
theorem tM {x:Str} {v:V} {u:Value} {pos:Pos} (hg:Gl X x) (hm:X.mg x=none) (hv:bootBuiltins x=some u) (r:RelV v u) (hn:x≠"__name__":=by decide) (hd:(x==("__debug__":Str))=false:=by decide):PE X (.Name x pos) (tC v):=
 fun _ _ _ H _ I h=>dM I hg hm hv ⟨v,H,I,r,h⟩ hn hd
variable {a b:Expr} {ta tb:TE} {pos:Pos}
noncomputable def tB (t:TE):TT:=fun σ H Q=>t σ H fun x H1=>∃c,x=.bl c∧Q c H1
theorem xD {e:Expr} {t:TE} (h:PE X e t) (he:∀whole,isTrue e X.env whole=(do let v←whole;standAt e.pos;holding [v] (truthy v)):=by intro _;rfl):PT X e (tB t):=by
 intro pins s σ H Q I hw
 refine isTrue_plain (thn (h pins s σ H _ I hw) fun v s1 ⟨x,H1,I1,r1,q1⟩=>?_) (he _)
 obtain ⟨d,rfl,q⟩:=q1
 cases r1
 exact wpAny_truthy_bool ⟨H1,I1,q⟩
variable {tA tB':TT} {rest:List Expr}
noncomputable def A1 (t u:TT):TT:=fun σ H Q=>t σ H fun c H1=>if c=true then u σ H1 Q else Q false H1
noncomputable def tOr (t u:TT):TT:=fun σ H Q=>t σ H fun c H1=>if c=true then Q true H1 else u σ H1 Q
noncomputable def AS (t:TT):TT:=fun σ H Q=>t σ H fun c H1=>Q (!c) H1
theorem vh (ha:PT X a tA):PW X (.BoolOp .And [a] pos) tA:=by
 intro wh pins s σ H Q I h
 refine isTrue_and (thn (ha pins s σ H Q I h) fun c s1 e=>?_)
 cases c with
 |true=>exact isTrue_and_nil e
 |false=>exact e
theorem xn (ha:PT X a tA):PW X (.BoolOp .Or [a] pos) tA:=by
 intro wh pins s σ H Q I h
 refine isTrue_or (thn (ha pins s σ H Q I h) fun c s1 e=>?_)
 cases c with
 |false=>exact isTrue_or_nil e
 |true=>exact e
theorem qj (ha:PT X a tA) (hb:PW X (.BoolOp .And (b::rest) pos) tB'):PW X (.BoolOp .And (a::b::rest) pos) (A1 tA tB'):=by
 intro wh pins s σ H Q I h
 refine isTrue_and (thn (ha pins s σ H _ I h) fun c s1 ⟨H1,I1,q1⟩=>?_)
 cases c with
 |true=>exact hb wh pins s1 σ H1 Q I1 q1
 |false=>exact ⟨H1,I1,q1⟩
theorem so (ha:PT X a tA) (hb:PW X (.BoolOp .Or (b::rest) pos) tB'):PW X (.BoolOp .Or (a::b::rest) pos) (tOr tA tB'):=by
 intro wh pins s σ H Q I h
 refine isTrue_or (thn (ha pins s σ H _ I h) fun c s1 ⟨H1,I1,q1⟩=>?_)
 cases c with
 |true=>exact ⟨H1,I1,q1⟩
 |false=>exact hb wh pins s1 σ H1 Q I1 q1
theorem v7 (ha:PT X a tA):PT X (.UnaryOp .Not a pos) (AS tA):=by
 intro pins s σ H Q I h
 exact isTrue_not (ha pins s σ H (fun c H1=>Q (!c) H1) I h)
noncomputable def zA (ta tb:TE):TE:=fun σ H Q=>ta σ H fun x H1=>∃c,x=.bl c∧if c=true then tb σ H1 Q else Q (.bl false) H1
noncomputable def AG (ta tb:TE):TE:=fun σ H Q=>ta σ H fun x H1=>∃c,x=.bl c∧if c=true then Q (.bl true) H1 else tb σ H1 Q
noncomputable def Ai (ta:TE):TE:=fun σ H Q=>ta σ H fun x H1=>∃c,x=.bl c∧Q (.bl (!c)) H1
theorem xh {op} {t:TE} (h:PE X a t):PE X (.BoolOp op [a] pos) t:=fun pins s σ H Q I hw=>BoolOp_one (h pins s σ H Q I hw)
theorem pO (ha:PE X a ta) (hb:PE X (.BoolOp .And (b::rest) pos) tb):PE X (.BoolOp .And (a::b::rest) pos) (zA ta tb):=by
 intro pins s σ H Q I h
 refine BoolOp_and (thn (ha pins s σ H _ I h) fun v s1 ⟨x,H1,I1,r1,q1⟩=>?_)
 obtain ⟨c,rfl,q1⟩:=q1
 cases r1
 refine wpAny_truthy_bool ?_
 cases c with
 |true=>exact hb pins s1 σ H1 Q I1 q1
 |false=>exact ⟨.bl false,H1,I1,rfl,q1⟩
theorem tq (ha:PE X a ta) (hb:PE X (.BoolOp .Or (b::rest) pos) tb):PE X (.BoolOp .Or (a::b::rest) pos) (AG ta tb):=by
 intro pins s σ H Q I h
 refine BoolOp_or (thn (ha pins s σ H _ I h) fun v s1 ⟨x,H1,I1,r1,q1⟩=>?_)
 obtain ⟨c,rfl,q1⟩:=q1
 cases r1
 refine wpAny_truthy_bool ?_
 cases c with
 |false=>exact hb pins s1 σ H1 Q I1 q1
 |true=>exact ⟨.bl true,H1,I1,rfl,q1⟩
theorem yM (ha:PE X a ta):PE X (.UnaryOp .Not a pos) (Ai ta):=by
 intro pins s σ H Q I h
 refine UnaryOp_ (thn (ha pins s σ H _ I h) fun v s1 ⟨x,H1,I1,r1,q1⟩=>?_)
 obtain ⟨c,rfl,q1⟩:=q1
 cases r1
 exact not_of (wpAny_truthy_bool ⟨.bl (!c),H1,I1,rfl,q1⟩)
end
end L2
namespace L2
open PySem PySem.Spec PyProof.Rows
noncomputable def SqL (K:PySem.W.Frag) (H:Hp) (a:Addr) (xs:List V):Prop:=
 Rd H a (.lst xs)∨
  ∃(o:Obj) (its:Array Value) (n:Nat),K.lookup a=some o∧o.cls=.type "list"∧o.dict=none∧o.data=.seq its n∧its.size<=sizeLine∧Vals xs its.toList
noncomputable def SqT (K:PySem.W.Frag) (H:Hp) (a:Addr) (xs:List V):Prop:=
 Rd H a (.tup xs)∨
  ∃(o:Obj) (its:Array Value) (n:Nat),K.lookup a=some o∧o.cls=.type "tuple"∧o.data=.seq its n∧its.size<=sizeLine∧Vals xs its.toList
noncomputable def A9:Value->Option V
 |.none=>some .non
 |.bool b=>some (.bl b)
 |.int i _=>some (.int i)
 |.str x _=>some (.str x)
 |.bytes b _=>some (.byt b)
 |.float b _=>some (.flt b)
 |.ref a=>some (.ref a)
 |.type n=>some (.ty n)
 |_=>none
theorem RelV.abs {x:V} {u:Value} (r:RelV x u):A9 u=some x:=by
 cases x with
 |non=>cases r;rfl
 |bl _=>cases r;rfl
 |int _=>obtain ⟨t,rfl⟩:=r;rfl
 |str _=>obtain ⟨t,rfl⟩:=r;rfl
 |byt _=>obtain ⟨t,rfl⟩:=r;rfl
 |flt _=>obtain ⟨t,rfl⟩:=r;rfl
 |ref _=>cases r;rfl
 |ty _=>cases r;rfl
theorem RelV.inj {x y:V} {u:Value} (r:RelV x u) (q:RelV y u):x=y:=Option.some.inj (r.abs.symm.trans q.abs)
theorem Vals.inj:∀{xs ys:List V} {us:List Value},Vals xs us->Vals ys us->xs=ys
 |_,_,_,.nil,.nil=>rfl
 |_,_,_,.cons r t,.cons r' t'=>by rw [r.inj r',Vals.inj t t']
section
variable {X:Cx} {pins:List (Addr×Obj)} {σ:St} {H:Hp} {s:Shared} {a:Addr} {xs ys:List V}
theorem Inv.list (I:Inv X pins σ H s) (h:SqL X.K H a xs):∃its:List Value,Vals xs its∧PlainL s.heap a its.toArray∧xs.length<=sizeLine:=by
 rcases h with h|⟨o,its,n,hk,hc,hd,hs,hz,r⟩
 ·obtain ⟨z,its,n,r,e⟩:=h.ok I.hok
  exact ⟨its,r,⟨_,n,e,rfl,rfl,rfl⟩,z⟩
 ·refine ⟨its.toList,r,⟨o,n,I.kIn a o hk,hc,hd,by simpa using hs⟩,?_⟩
  have e:=r.length
  simp only [Array.length_toList] at e
  omega
theorem Inv.tuple (I:Inv X pins σ H s) (h:SqT X.K H a xs):∃its:List Value,Vals xs its∧IsTup s.heap a its.toArray∧xs.length<=sizeLine:=by
 rcases h with h|⟨o,its,n,hk,hc,hs,hz,r⟩
 ·obtain ⟨z,its,r,p⟩:=h.ok I.hok
  exact ⟨its,r,p,z⟩
 ·refine ⟨its.toList,r,⟨o,I.kIn a o hk,hc,n,by simpa using hs⟩,?_⟩
  have e:=r.length
  simp only [Array.length_toList] at e
  omega
theorem Inv.lI (I:Inv X pins σ H s) (h:SqL X.K H a xs) (h':SqL X.K H a ys):xs=ys:=by
 obtain ⟨its,r,⟨o,n,e,_,_,d⟩,_⟩:=I.list h
 obtain ⟨its',r',⟨o',n',e',_,_,d'⟩,_⟩:=I.list h'
 rw [e] at e';cases e'
 rw [d] at d'
 injection d' with d1 _
 have:its=its':=by simpa using congrArg Array.toList d1
 subst this
 exact r.inj r'
theorem Inv.jX (I:Inv X pins σ H s) (h:SqT X.K H a xs) (h':SqT X.K H a ys):xs=ys:=by
 obtain ⟨its,r,⟨o,e,_,n,d⟩,_⟩:=I.tuple h
 obtain ⟨its',r',⟨o',e',_,n',d'⟩,_⟩:=I.tuple h'
 rw [e] at e';cases e'
 rw [d] at d'
 injection d' with d1 _
 have:its=its':=by simpa using congrArg Array.toList d1
 subst this
 exact r.inj r'
end
noncomputable abbrev Cx.eW (X:Cx) (E:Value->Shared->Prop):Cx:={X with xe:=E}
noncomputable abbrev Cx.nox (X:Cx):Cx:=X.eW fun _ _=>False
theorem Cx.Ok.eW {X:Cx} (ok:X.Ok) (E:Value->Shared->Prop):(X.eW E).Ok:=
 ⟨ok.mod,ok.kind,ok.glob,ok.blt,ok.above,ok.inj,ok.has,ok.cab,ok.hd,ok.frames,ok.stk,ok.exf,ok.bs,ok.bsz,ok.iu,ok.lM,ok.dq,ok.frf⟩
theorem Cx.Ok.dJ {X:Cx} {E:Value->Shared->Prop} (ok:(X.eW E).Ok):X.Ok:=
 ⟨ok.mod,ok.kind,ok.glob,ok.blt,ok.above,ok.inj,ok.has,ok.cab,ok.hd,ok.frames,ok.stk,ok.exf,ok.bs,ok.bsz,ok.iu,ok.lM,ok.dq,ok.frf⟩
section
variable {X:Cx} {pins:List (Addr×Obj)} {σ:St} {H:Hp} {s:Shared} {E:Value->Shared->Prop}
theorem Inv.eW (I:Inv X pins σ H s) (E:Value->Shared->Prop):Inv (X.eW E) pins σ H s:=⟨I.ok.eW E,I.os,I.bare,I.base,I.loc,I.cell,I.free,I.cV,I.pin,I.hok,I.len⟩
theorem Inv.dJ (I:Inv (X.eW E) pins σ H s):Inv X pins σ H s:=⟨I.ok.dJ,I.os,I.bare,I.base,I.loc,I.cell,I.free,I.cV,I.pin,I.hok,I.len⟩
theorem SP.dJ {D:Ends} {f:Flow} {s':Shared} (h:SP (X.eW E) pins D f s'):SP X pins D f s':=by
 cases f with
 |next=>obtain ⟨σ',H',I,q⟩:=h;exact ⟨σ',H',I.dJ,q⟩
 |brk=>obtain ⟨σ',H',I,q⟩:=h;exact ⟨σ',H',I.dJ,q⟩
 |cont=>obtain ⟨σ',H',I,q⟩:=h;exact ⟨σ',H',I.dJ,q⟩
 |ret u=>obtain ⟨v,σ',H',I,r,q⟩:=h;exact ⟨v,σ',H',I.dJ,r,q⟩
theorem PSs.nox {st:List Stmt} {t:TS} (h:PSs X.nox st t):PSs X st t:=fun pins s σ H D I hw=>
 wpAny_mono (h pins s σ H D (I.eW _) hw) (fun _ _ q=>q.dJ) fun _ _ z=>False.elim z
end
section
variable {X:Cx} {st:Stmt} {rest:List Stmt} {t u:TS} {e:Expr} {te:TE} {pos:Pos}
noncomputable def nh:TS:=fun D σ H=>D.nx σ H
noncomputable def A2 (t u:TS):TS:=fun D σ H=>t {D with nx:=u D} σ H
theorem ur:PSs X [] nh:=fun _ _ σ H _ I h=>wpAny_execs_nil ⟨σ,H,I,h⟩
theorem lg (h1:PS X st t) (h2:PSs X rest u):PSs X (st::rest) (A2 t u):=by
 intro pins s σ H D I h
 refine wpAny_execs_cons (thn (h1 pins s σ H {D with nx:=u D} I h) fun f s1 q=>?_)
 cases f with
 |next=>
  obtain ⟨σ',H',I',q⟩:=q
  exact h2 pins s1 σ' H' D I' q
 |ret v=>exact q
 |brk=>exact q
 |cont=>exact q
theorem uB:PS X (.Pass pos) nh:=fun _ _ σ H _ I h=>wpAny_Pass ⟨σ,H,I,h⟩
theorem Inv.quiet {pins:List (Addr×Obj)} {σ:St} {H:Hp} {s:Shared} (I:Inv X pins σ H s):interactive X.env=false:=by simp [interactive,I.ok.kind]
theorem yo {x j pos pos'}:PS X (.Expr (.Constant (.str x) j pos) pos') nh:=fun _ s σ H _ I h=>wpAny_Expr (Calls.Constant_str (show SP X _ _ .next {s with toks:=s.toks+1} from ⟨σ,H,I.tok _,h⟩)) I.quiet
noncomputable def yZ (te:TE):TS:=fun D σ H=>te σ H fun _ H1=>D.nx σ H1
theorem jF (he:PE X e te) (hs:swapsWith e none pos.line X.env=pure false:=by rfl):PS X (.Expr e pos) (yZ te):=by
 intro pins s σ H D I h
 exact wpAny_Expr_any (thn (he pins s σ H _ I h) fun v s1 ⟨x,H1,I1,r1,q1⟩=>⟨σ,H1,I1,q1⟩) I.quiet hs
noncomputable def AF (te:TE):TS:=fun D σ H=>te σ H D.rt
theorem lb (he:PE X e te):PS X (.Return (some e) pos) (AF te):=by
 intro pins s σ H D I h
 exact wpAny_Return_some (thn (he pins s σ H _ I h) fun v s1 ⟨x,H1,I1,r1,q1⟩=>⟨x,σ,H1,I1,r1,q1⟩)
noncomputable def zS:TS:=fun D _ H=>D.rt .non H
theorem vm:PS X (.Return none pos) zS:=fun _ _ σ H _ I h=>wpAny_Return_none ⟨.non,σ,H,I,rfl,h⟩
noncomputable def AR (c:TT) (t u:TS):TS:=fun D σ H=>c σ H fun b H1=>if b=true then t D σ H1 else u D σ H1
theorem zR {c:Expr} {a b:List Stmt} {tc:TT} (hc:PT X c tc) (ha:PSs X a t) (hb:PSs X b u):PS X (.If c a b pos) (AR tc t u):=by
 intro pins s σ H D I h
 refine wpAny_If (thn (hc pins s σ H _ I h) fun d s1 ⟨H1,I1,q1⟩=>?_)
 cases d with
 |true=>exact ha pins s1 σ H1 D I1 q1
 |false=>exact hb pins s1 σ H1 D I1 q1
noncomputable def xk:TS:=fun _ _ _=>False
theorem pQ {sts:List Stmt}:PSs X sts xk:=fun _ _ _ _ _ _ h=>h.elim
end
noncomputable abbrev TG:=V->St->Hp->(St->Hp->Prop)->Prop
noncomputable abbrev TGs:=List V->St->Hp->(St->Hp->Prop)->Prop
noncomputable def PG (X:Cx) (target:Expr) (t:TG):Prop:=
 ∀(pins:List (Addr×Obj)) (s:Shared) (σ:St) (H:Hp) (v:V) (u:Value) (Q:St->Hp->Prop),Inv X pins σ H s->RelV v u->t v σ H Q->
  wpAny (model X.prog X.w) X.A (assign target X.env u) (fun _ s'=>∃σ' H',Inv X pins σ' H' s'∧Q σ' H') X.xe s
noncomputable def PGs (X:Cx) (ts:List Expr) (t:TGs):Prop:=
 ∀(pins:List (Addr×Obj)) (s:Shared) (σ:St) (H:Hp) (vs:List V) (us:List Value) (Q:St->Hp->Prop),Inv X pins σ H s->Vals vs us->t vs σ H Q->
  wpAny (model X.prog X.w) X.A (assignInOrder ((assignEach ts X.env).map (·.2)) us) (fun _ s'=>∃σ' H',Inv X pins σ' H' s'∧Q σ' H') X.xe s
section
variable {X:Cx} {pos:Pos}
noncomputable def dZ (i:Nat):TG:=fun v σ H Q=>Q (σ.set i (some v)) H
theorem vH {i:Nat} {x:Str} (hN:X.N.Nodup) (hi:X.N[i]?=some x) (hx:Loc X.env.scope x) (hf:X.fn x=true∨X.env.scope.names.lookup x=some .local:=by first|exact .inl rfl|exact .inr rfl|assumption):PG X (.Name x pos) (dZ i):=by
 intro pins s σ H v u Q I r h
 exact wpAny_assign_Name (gc I hN hi hx r (fun s' I'=>⟨_,H,I',h⟩) hf)
noncomputable def AM:TGs:=fun vs σ H Q=>vs=[]∧Q σ H
noncomputable def Aa (t:TG) (u:TGs):TGs:=fun vs σ H Q=>∃v r,vs=v::r∧t v σ H fun σ' H'=>u r σ' H' Q
theorem uW:PGs X [] AM:=by
 intro pins s σ H vs us Q I r h
 obtain ⟨e,h⟩:=h
 subst e
 cases r
 exact assignInOrder_nil ⟨σ,H,I,h⟩
theorem qR {e:Expr} {es:List Expr} {t:TG} {u:TGs} (h1:PG X e t) (h2:PGs X es u)
  (hs:(assignEach (e::es) X.env).map (·.2)=assign e X.env::(assignEach es X.env).map (·.2):=by rfl):PGs X (e::es) (Aa t u):=by
 intro pins s σ H vs us Q I r h
 obtain ⟨v,vr,e1,h⟩:=h
 subst e1
 cases r with
 |cons r rr=>
  rw [hs]
  refine assignInOrder_cons (thn (h1 pins s σ H _ _ _ I r h) fun _ s1 ⟨σ1,H1,I1,q1⟩=>?_)
  exact h2 pins s1 σ1 H1 _ _ Q I1 rr q1
noncomputable def Bb (K:PySem.W.Frag) (n:Nat) (t:TGs):TG:=fun v σ H Q=>∃a xs,v=.ref a∧SqT K H a xs∧xs.length=n∧t xs σ H Q
theorem w5 {es:List Expr} {k:Nat} {t:TGs} {n:Nat} (hc:X.calm=true) (h:PGs X es t)
  (hn:(assignEach es X.env).length=n:=by rfl) (hst:(assignEach es X.env).findIdx? (·.1)=none:=by rfl):PG X (.Tuple es k pos) (Bb X.K n t):=by
 intro pins s σ H v u Q I r hw
 obtain ⟨a,xs,e1,hq,hl,hw⟩:=hw
 subst e1
 cases r
 obtain ⟨its,rv,ht,hz⟩:=I.tuple hq
 refine assign_Tuple_tuple (I.ok.hd hc) ht (by simp [hn,←hl,rv.length]) hst fun h' hx=>?_
 have I1:Inv X pins σ H {s with heap:=h'}:=I.kept (t':=s.toks) fun b o e=>hx b o (Nat.ne_of_lt (Heap.lt_size e)) e
 exact h pins _ σ H xs _ Q I1 (by simpa using rv) hw
noncomputable def jx (te:TE) (g:TG):TS:=fun D σ H=>te σ H fun x H1=>g x σ H1 D.nx
theorem xT {tg e:Expr} {te:TE} {g:TG} (he:PE X e te) (hg:PG X tg g) (hs:swapsWithSole [tg] e pos.line X.env=pure false:=by rfl) (hw:swappedStores [tg] e X.env=pure none:=by rfl)
  (h1:(assignEach [tg] X.env).map (·.2)=[assign tg X.env]:=by rfl):PS X (.Assign [tg] e pos) (jx te g):=by
 intro pins s σ H D I h
 refine wpAny_Assign_stores (thn (he pins s σ H _ I h) fun v s1 ⟨x,H1,I1,r1,q1⟩=>?_) hs hw
 rw [h1]
 exact thn (hg pins s1 σ H1 x v _ I1 r1 q1) fun _ s2 q=>q
theorem kZ {i:Nat} {x:Str} {e:Expr} {te:TE} {pos':Pos} (hN:X.N.Nodup) (hi:X.N[i]?=some x) (hx:Loc X.env.scope x) (he:PE X e te) (hs:swapsWith e (some (.Name x pos')) pos.line X.env=pure false:=by rfl) (hf:X.fn x=true∨X.env.scope.names.lookup x=some .local:=by first|exact .inl rfl|exact .inr rfl|assumption):
  PS X (.Assign [.Name x pos'] e pos) (jx te (dZ i)):=by
 intro pins s σ H D I h
 refine wpAny_Assign_Name (thn (he pins s σ H _ I h) fun v s1 ⟨y,H1,I1,r1,q1⟩=>?_) hs
 exact gc I1 hN hi hx r1 (fun s2 I2=>⟨_,H1,I2,q1⟩) hf
noncomputable def AJ (i j:Nat) (ta:TA):TS:=fun D σ H=>ta σ H fun vs H1=>∃v w,vs=[v,w]∧D.nx ((σ.set i (some v)).set j (some w)) H1
theorem wZ {i j:Nat} {x y:Str} {a b:Expr} {ta:TA} {px py pt:Pos} {kt k2 pt2} (hc:X.calm=true) (hN:X.N.Nodup) (hi:X.N[i]?=some x) (hj:X.N[j]?=some y) (hij:i≠j)
  (hx:X.env.scope.names.lookup x=some .local) (hy:X.env.scope.names.lookup y=some .local) (ha:PA X [a,b] ta)
  (hw:swappedStores [.Tuple [.Name x px,.Name y py] kt pt] (.Tuple [a,b] k2 pt2) X.env=pure (some [x,y]))
  (hs:swapsWithSole [.Tuple [.Name x px,.Name y py] kt pt] (.Tuple [a,b] k2 pt2) pos.line X.env=pure false:=by rfl):
  PS X (.Assign [.Tuple [.Name x px,.Name y py] kt pt] (.Tuple [a,b] k2 pt2) pos) (AJ i j ta):=by
 intro pins s σ H D I h
 rw [exec_Assign_arm]
 refine wpAny_bind (wpAny_standAt ?_)
 rw [hs]
 refine wpAny_bind (wpAny_pure ?_)
 rw [if_neg (by decide)]
 refine wpAny_bind (Tuple_ (thn (ha _ pins s σ H _ I h) fun us s1 ⟨vs,H1,I1,r1,q1⟩=>?_))
 obtain ⟨v,w,e1,q1⟩:=q1
 subst e1
 obtain ⟨u1,u2,rfl,rv,rw'⟩:∃u1 u2,us=[u1,u2]∧RelV v u1∧RelV w u2:=by
  cases r1 with
  |cons p q=>
   cases q with
   |cons p' q'=>
    cases q'
    exact ⟨_,_,rfl,p,p'⟩
 refine wpAny_newObj_type ?_ (by show 2<=sizeLine;decide)
 have I2:Inv X pins σ H1 {s1 with heap:=s1.heap.push {cls:=.type "tuple",data:=.seq [u1,u2].toArray}}:=I1.kept (t':=s1.toks) fun b o e=>Heap.get?_push_of_some _ e
 rw [hw]
 refine wpAny_bind (wpAny_pure ?_)
 show wpAny (model X.prog X.w) X.A (do rule "assign.swapped-stores";let items←unpackItems (.ref s1.heap.objs.size) 2 none;assignInOrder [fun v=>bindName X.env y v,fun v=>bindName X.env x v] items.reverse;pure Flow.next) _ _ _
 refine wpAny_bind (wpAny_rule (wpAny_bind (unpackItems_tuple (items:=#[u1,u2]) (I.ok.hd hc) (IsTup.new s1.heap _) fun h' hx'=>?_)))
 have I3:=I2.kept (h':=h') (t':=s1.toks) fun b o e=>hx' b o (Nat.ne_of_lt (Heap.lt_size e)) e
 show wpAny _ _ (assignInOrder [fun v=>bindName X.env y v,fun v=>bindName X.env x v] [u2,u1]>>=fun _=>pure Flow.next) _ _ _
 refine wpAny_bind (assignInOrder_cons (wpAny_bindName (gc I3 hN hj (.inl hy) rw' (fun s2 I4=>?_) (.inr hy))))
 refine assignInOrder_cons (wpAny_bindName (gc I4 hN hi (.inl hx) rv (fun s3 I5=>assignInOrder_nil (wpAny_pure ?_)) (.inr hx)))
 rw [List.set_comm _ _ (Ne.symm hij)] at I5
 exact ⟨_,H1,I5,q1⟩
end
section
variable {X:Cx} {pos:Pos}
noncomputable def yy (c:TT) (tb:TS):TS:=fun D σ H=>∃W:Nat->St->Hp->Prop,(∃m,W m σ H)∧∀m σ H,W m σ H->
 c σ H fun b H1=>if b=true then ∃N:St->Hp->Prop,(∀σ' H',N σ' H'->∃m',m'<m∧W m' σ' H')∧tb {D with nx:=N,ct:=N,bk:=D.nx} σ H1 else D.nx σ H1
theorem qG {c:Expr} {body:List Stmt} {tc:TT} {tb:TS} (hp:PassesOwn (model X.prog X.w) X.A X.env X.xe) (hc:PT X c tc) (hb:PSs X body tb):PS X (.While c body [] pos) (yy tc tb):=by
 intro pins s σ H D I h
 obtain ⟨W,⟨m0,w0⟩,turn⟩:=h
 refine wpAny_While (codeAny_whileLoop (fun n s'=>∃σ' H',Inv X pins σ' H' s'∧W n σ' H') ?_ m0 ⟨σ,H,I,w0⟩)
 rintro n s1 ⟨σ1,H1,I1,w1⟩
 refine wpAny_passesOwn hp (thn (hc pins s1 σ1 H1 _ I1 (turn n σ1 H1 w1)) fun b s2 ⟨H2,I2,q2⟩=>?_)
 cases b with
 |true=>
  obtain ⟨N,hN,q2⟩:=q2
  rw [if_pos rfl]
  refine wpAny_passesOwn hp (thn (hb pins s2 σ1 H2 _ I2 q2) fun f s3 q3=>?_)
  cases f with
  |next=>
   obtain ⟨σ3,H3,I3,n3⟩:=q3
   obtain ⟨m',hm,w3⟩:=hN σ3 H3 n3
   exact ⟨m',hm,σ3,H3,I3,w3⟩
  |cont=>
   obtain ⟨σ3,H3,I3,n3⟩:=q3
   obtain ⟨m',hm,w3⟩:=hN σ3 H3 n3
   exact ⟨m',hm,σ3,H3,I3,w3⟩
  |brk=>exact q3
  |ret v=>exact q3
 |false=>
  rw [if_neg Bool.false_ne_true]
  exact wpAny_execs_nil ⟨σ1,H2,I2,q2⟩
end
structure It where
 go:Nat->Hp->Prop
 yld:Nat->Hp->V->Hp->Prop
 stop:Nat->Hp->Prop
noncomputable def a_ (X:Cx) (pins:List (Addr×Obj)) (H:Hp) (b:Addr):Prop:=
 H b=none∧b≠X.env.locals∧b∉X.fs∧(b∈X.ex∨X.s₀.heap.objs.size<=b)∧(∀x c,X.env.cells.lookup x=some c->c≠b)∧∀p∈X.pn++pins,p.1≠b
theorem Inv.eg {X:Cx} {pins:List (Addr×Obj)} {σ:St} {H H':Hp} {s:Shared} {b:Addr} (I:Inv X pins σ H s) (hb:s.heap.objs.size<=b) (hn:H' b=none):a_ X pins H' b:=by
 refine ⟨hn,Nat.ne_of_gt (Nat.lt_of_lt_of_le I.lt hb),I.ye hb,.inr (Nat.le_trans I.sz hb),fun x c e z=>?_,fun p hp z=>?_⟩
 ·obtain ⟨v,q⟩:=I.cell x c e
  exact absurd (Nat.lt_of_lt_of_le q.lt (by rw [z];exact hb)) (Nat.lt_irrefl _)
 ·exact absurd (Nat.lt_of_lt_of_le (Heap.lt_size (I.pin p hp).1) (by rw [z];exact hb)) (Nat.lt_irrefl _)
structure Turn (P:Program) (w:World) (K:PySem.W.Frag) (tg:Expr) (J:It) (fp:List Addr) (it:Addr) (tn:Nat->Heap->Prop):Prop where
 mem:it∈fp
 obj:∀i h,tn i h->∀b∈fp,∃o,h.get? b=some o∧∀v,o.data≠.cell v
 keep:∀i h h',tn i h->(∀b∈fp,∀o,h.get? b=some o->h'.get? b=some o)->tn i h'
 item:∀(X:Cx),X.prog=P->X.w=w->X.K=K->X.calm=true->∀(i:Nat) (pins:List (Addr×Obj)) (s:Shared) (σ:St) (H:Hp) (E:Value->Shared->Prop),Inv X pins σ H s->(∀b∈fp,a_ X pins H b)->tn i s.heap->J.go i H->
  wpAny (model P w) X.A (pyNext (.ref it)) (fun r s1=>∃u,r=some u∧
   wpAny (model P w) X.A (letOwnedTupleGo tg (.ref it) u) (fun _ s2=>∃x H',Inv X pins σ H' s2∧RelV x u∧J.yld i H x H'∧tn (i+1) s2.heap∧∀b∈fp,H' b=none) E s1) E s
 done:∀(X:Cx),X.prog=P->X.w=w->X.K=K->X.calm=true->∀(i:Nat) (pins:List (Addr×Obj)) (s:Shared) (σ:St) (H:Hp) (E:Value->Shared->Prop),Inv X pins σ H s->(∀b∈fp,a_ X pins H b)->tn i s.heap->J.stop i H->
  wpAny (model P w) X.A (pyNext (.ref it)) (fun r s1=>r=none∧Inv X pins σ H s1) E s
 self:∀(A:Around) (i:Nat) (s:Shared) (Q:Value->Shared->Prop) (E:Value->Shared->Prop),tn i s.heap->Q (.ref it) s->wpAny (model P w) A (pyIter (.ref it)) Q E s
noncomputable abbrev TI:=St->Hp->(It->Hp->Prop)->Prop
noncomputable def PIE (X:Cx) (pins:List (Addr×Obj)) (σ:St) (tg:Expr) (R:It->Hp->Prop) (itv:Value) (s2:Shared):Prop:=
 ∃(it:Addr) (fp:List Addr) (tn:Nat->Heap->Prop) (J:It) (H':Hp),itv=.ref it∧Inv X pins σ H' s2∧Turn X.prog X.w X.K tg J fp it tn∧tn 0 s2.heap∧(∀b∈fp,a_ X pins H' b)∧R J H'
noncomputable def PI (X:Cx) (tg iter:Expr) (wi:TI):Prop:=
 ∀(pins:List (Addr×Obj)) (s:Shared) (σ:St) (H:Hp) (R:It->Hp->Prop),Inv X pins σ H s->wi σ H R->
  wpAny (model X.prog X.w) X.A (eval iter X.env) (fun v s1=>wpAny (model X.prog X.w) X.A (pyIter v) (PIE X pins σ tg R) X.xe s1) X.xe s
theorem kA {M:Model} {A:Around} {E:Value->Shared->Prop} {s:Shared} {tg:Expr} {it:Addr} {u:Value} {o:Obj} {n:String} {vs:Array Value} {Q:Unit->Shared->Prop} (ho:s.heap.get? it=some o) (hc:o.cls=.type n) (hd:o.data=.fields vs)
  (hn:["enumerate","zip","dict_itemiterator","dict_reverseitemiterator","odict_iterator","itertools.zip_longest","itertools.pairwise"].contains n=false) (hQ:Q () s):wpAny M A (letOwnedTupleGo tg (.ref it) u) Q E s:=by
 unfold letOwnedTupleGo
 cases tg<;>first
  |exact wpAny_pure hQ
  |(cases u<;>first
    |exact wpAny_pure hQ
    |(refine wpAny_bind (wpAny_load ho ?_)
      rw [hc,hd]
      show wpAny M A (if (["enumerate","zip","dict_itemiterator","dict_reverseitemiterator","odict_iterator","itertools.zip_longest","itertools.pairwise"].contains n&&vs[0]?==some (rawInt _))=true then _ else _) Q E s
      rw [if_neg (by intro h;rw [hn,Bool.false_and] at h;cases h)]
      exact wpAny_pure hQ))
noncomputable def Itl (K:PySem.W.Frag) (a:Addr):It:=
 ⟨fun i H=>∃xs x,SqL K H a xs∧xs[i]?=some x,fun i H x H'=>H'=H∧∀xs,SqL K H a xs->xs[i]?=some x,fun i H=>∃xs,SqL K H a xs∧xs.length<=i⟩
noncomputable def Itt (K:PySem.W.Frag) (a:Addr):It:=
 ⟨fun i H=>∃xs x,SqT K H a xs∧xs[i]?=some x,fun i H x H'=>H'=H∧∀xs,SqT K H a xs->xs[i]?=some x,fun i H=>∃xs,SqT K H a xs∧xs.length<=i⟩
noncomputable def Itr (lo:Int) (n:Nat):It:=⟨fun i _=>i<n,fun i H x H'=>H'=H∧x=.int (lo+i),fun i _=>n<=i⟩
theorem oA {P:Program} {w:World} {K:PySem.W.Frag} {tg:Expr} (a it:Addr):Turn P w K tg (Itl K a) [it] it (fun i h=>h.IsListIter it a i) where
 mem:=by simp
 obj:=fun i h st b hb=>by
  have e:b=it:=by simpa using hb
  subst e
  obtain ⟨o,e,c,d⟩:=st
  exact ⟨o,e,fun v z=>by rw [d] at z;cases z⟩
 keep:=fun i h h' st k=>st.at fun o e=>k it (by simp) o e
 item:=by
  intro X hP hw hK hc i pins s σ H E I hf st hg
  subst hP hw hK
  obtain ⟨xs,x,hq,hx⟩:=hg
  obtain ⟨its,rv,p,hz⟩:=I.list hq
  obtain ⟨u,hu,ru⟩:=rv.get hx
  obtain ⟨f0,f1,f2,f3,f4,f5⟩:=hf it (by simp)
  refine wpAny_pyNext_list_item st p.isList (x:=u) (by simpa using hu) fun h' st' sb=>?_
  have I1:Inv X pins σ H {s with heap:=h'}:=I.turned (t':=s.toks) (fun b o hb e=>(sb.2 b hb).trans e) f0 f1 f3 f4 f5
  obtain ⟨o,e,c,d⟩:=id st'
  exact ⟨u,rfl,kA (s:={s with heap:=h'}) e c d (by decide) ⟨x,H,I1,ru,⟨rfl,fun ys hy=>by rw [I.lI hy hq];exact hx⟩,st',fun b hb=>(hf b hb).1⟩⟩
 done:=by
  intro X hP hw hK hc i pins s σ H E I hf st hg
  subst hP hw hK
  obtain ⟨xs,hq,hx⟩:=hg
  obtain ⟨its,rv,p,hz⟩:=I.list hq
  obtain ⟨f0,f1,f2,f3,f4,f5⟩:=hf it (by simp)
  have hl:=rv.length
  exact wpAny_pyNext_list_end (I.ok.hd hc) st p.isList (by simp;omega) fun h' eb=>⟨rfl,I.turned (t':=s.toks) (fun b o hb e=>eb b o hb e) f0 f1 f3 f4 f5⟩
 self:=fun _ _ _ _ _ st h=>wpAny_pyIter_listiter st h
theorem mV {P:Program} {w:World} {K:PySem.W.Frag} {tg:Expr} (a it:Addr):Turn P w K tg (Itt K a) [it] it (fun i h=>h.IsTupleIter it a i) where
 mem:=by simp
 obj:=fun i h st b hb=>by
  have e:b=it:=by simpa using hb
  subst e
  obtain ⟨o,e,c,d⟩:=st
  exact ⟨o,e,fun v z=>by rw [d] at z;cases z⟩
 keep:=fun i h h' st k=>st.at fun o e=>k it (by simp) o e
 item:=by
  intro X hP hw hK hc i pins s σ H E I hf st hg
  subst hP hw hK
  obtain ⟨xs,x,hq,hx⟩:=hg
  obtain ⟨its,rv,p,hz⟩:=I.tuple hq
  obtain ⟨u,hu,ru⟩:=rv.get hx
  obtain ⟨f0,f1,f2,f3,f4,f5⟩:=hf it (by simp)
  refine wpAny_pyNext_tuple_item st (show s.heap.IsTuple a its.toArray from p) (x:=u) (by simpa using hu) fun h' st' sb=>?_
  have I1:Inv X pins σ H {s with heap:=h'}:=I.turned (t':=s.toks) (fun b o hb e=>(sb.2 b hb).trans e) f0 f1 f3 f4 f5
  obtain ⟨o,e,c,d⟩:=id st'
  exact ⟨u,rfl,kA (s:={s with heap:=h'}) e c d (by decide) ⟨x,H,I1,ru,⟨rfl,fun ys hy=>by rw [I.jX hy hq];exact hx⟩,st',fun b hb=>(hf b hb).1⟩⟩
 done:=by
  intro X hP hw hK hc i pins s σ H E I hf st hg
  subst hP hw hK
  obtain ⟨xs,hq,hx⟩:=hg
  obtain ⟨its,rv,p,hz⟩:=I.tuple hq
  obtain ⟨f0,f1,f2,f3,f4,f5⟩:=hf it (by simp)
  have hl:=rv.length
  exact wpAny_pyNext_tuple_end (I.ok.hd hc) st (show s.heap.IsTuple a its.toArray from p) (by simp;omega) fun h' eb=>⟨rfl,I.turned (t':=s.toks) (fun b o hb e=>eb b o hb e) f0 f1 f3 f4 f5⟩
 self:=fun _ _ _ _ _ st h=>wpAny_pyIter_tupleiter st h
theorem mS {P:Program} {w:World} {K:PySem.W.Frag} {tg:Expr} (it:Addr) (lo:Int) (n:Nat):Turn P w K tg (Itr lo n) [it] it (fun i h=>IsRangeIter h it (lo+(i:Nat)*1) ((n:Int) - (i:Nat)) 1) where
 mem:=by simp
 obj:=fun i h st b hb=>by
  have e:b=it:=by simpa using hb
  subst e
  exact ⟨_,st,fun v z=>by
   have z':Data.fields _=Data.cell v:=z
   cases z'⟩
 keep:=fun i h h' st k=>k it (by simp) _ st
 item:=by
  intro X hP hw hK hc i pins s σ H E I hf st hg
  subst hP hw hK
  obtain ⟨f0,f1,f2,f3,f4,f5⟩:=hf it (by simp)
  have W:=Walks.range (prog:=X.prog) (w:=X.w) (I.ok.hd hc) it lo 1 n
  refine W.item i s _ _ hg st fun v h' tk hv st' kk=>?_
  obtain ⟨t,rfl⟩:=hv
  have I1:Inv X pins σ H {s with heap:=h',toks:=tk}:=I.turned (fun b o hb e=>kk b o (by simpa using hb) e) f0 f1 f3 f4 f5
  refine ⟨_,rfl,kA (s:={s with heap:=h',toks:=tk}) (n:="range_iterator") st' rfl rfl (by decide) ⟨.int (lo+i),H,I1,⟨t,?_⟩,⟨rfl,rfl⟩,st',fun b hb=>(hf b hb).1⟩⟩
  rw [Int.mul_one]
 done:=by
  intro X hP hw hK hc i pins s σ H E I hf st hg
  subst hP hw hK
  obtain ⟨f0,f1,f2,f3,f4,f5⟩:=hf it (by simp)
  exact wpAny_pyNext_range_end (I.ok.hd hc) st (by have:n<=i:=hg;omega) fun h' eb=>⟨rfl,I.turned (t':=s.toks) (fun b o hb e=>eb b o hb e) f0 f1 f3 f4 f5⟩
 self:=fun _ _ _ _ _ st h=>wpAny_pyIter_rangeiter st h
end L2
namespace L2
open PySem PySem.Spec PyProof.Rows
section
variable {X:Cx} {tg:Expr}
noncomputable def zf (K:PySem.W.Frag) (tl:TE):TI:=fun σ H R=>tl σ H fun x H1=>∃a,x=.ref a∧(∃xs,SqL K H1 a xs)∧R (Itl K a) H1
noncomputable def Aw (K:PySem.W.Frag) (tl:TE):TI:=fun σ H R=>tl σ H fun x H1=>∃a,x=.ref a∧(∃xs,SqT K H1 a xs)∧R (Itt K a) H1
theorem vc {l:Expr} {tl:TE} (hl:PE X l tl):PI X tg l (zf X.K tl):=by
 intro pins s σ H R I h
 refine thn (hl pins s σ H _ I h) fun v s1 ⟨x,H1,I1,r1,q1⟩=>?_
 obtain ⟨a,e,⟨xs,hq⟩,q⟩:=q1
 subst e
 cases r1
 obtain ⟨its,rv,p,hz⟩:=I1.list hq
 refine wpAny_pyIter_list p.isList ?_
 refine ⟨s1.heap.objs.size,[s1.heap.objs.size],_,_,H1,rfl,I1.kept (t':=s1.toks) fun b o e=>Heap.get?_push_of_some _ e,oA a _,⟨_,Heap.get?_push_size _ rfl,rfl,rfl⟩,fun b hb=>?_,q⟩
 have e:b=s1.heap.objs.size:=by simpa using hb
 subst e
 exact I1.eg (Nat.le_refl _) (I1.hok.fresh (Nat.le_refl _))
theorem v8 {l:Expr} {tl:TE} (hl:PE X l tl):PI X tg l (Aw X.K tl):=by
 intro pins s σ H R I h
 refine thn (hl pins s σ H _ I h) fun v s1 ⟨x,H1,I1,r1,q1⟩=>?_
 obtain ⟨a,e,⟨xs,hq⟩,q⟩:=q1
 subst e
 cases r1
 obtain ⟨its,rv,p,hz⟩:=I1.tuple hq
 refine wpAny_pyIter_tuple (show s1.heap.IsTuple a its.toArray from p) ?_
 refine ⟨s1.heap.objs.size,[s1.heap.objs.size],_,_,H1,rfl,I1.kept (t':=s1.toks) fun b o e=>Heap.get?_push_of_some _ e,mV a _,⟨_,Heap.get?_push_size _ rfl,rfl,rfl⟩,fun b hb=>?_,q⟩
 have e:b=s1.heap.objs.size:=by simpa using hb
 subst e
 exact I1.eg (Nat.le_refl _) (I1.hok.fresh (Nat.le_refl _))
theorem lj {pins:List (Addr×Obj)} {σ:St} {H:Hp} {s:Shared} {R:It->Hp->Prop} {E:Value->Shared->Prop} {lo hi:Int} {t u v:Tok} {tk:Nat} (I:Inv X pins σ H s) (h1: -(2^62)<=lo) (h2:lo<2^62) (h3: -(2^62)<=hi) (h4:hi<2^62)
  (q:R (Itr lo (hi - lo).toNat) H):wpAny (model X.prog X.w) X.A (pyIter (.ref s.heap.objs.size)) (PIE X pins σ tg R) E {s with heap:=s.heap.push {cls:=.type "range",data:=.fields #[.int lo t,.int hi u,.int 1 v]},toks:=tk}:=by
 refine wpAny_pyIter_range (IsRange.new ..) (small_one h1 h2 h3 h4) ?_
 have I1:Inv X pins σ H {s with heap:=s.heap.push {cls:=.type "range",data:=.fields #[.int lo t,.int hi u,.int 1 v]},toks:=tk}:=I.kept fun b o e=>Heap.get?_push_of_some _ e
 refine ⟨(s.heap.push {cls:=.type "range",data:=.fields #[.int lo t,.int hi u,.int 1 v]}).objs.size,[(s.heap.push {cls:=.type "range",data:=.fields #[.int lo t,.int hi u,.int 1 v]}).objs.size],_,_,H,rfl,
  I1.kept (t':=tk) fun b o e=>Heap.get?_push_of_some _ e,mS _ lo (hi - lo).toNat,?_,fun b hb=>?_,q⟩
 ·have e1:lo+((0:Nat):Int)*1=lo:=by simp
  have e2:(((hi - lo).toNat:Nat):Int) - ((0:Nat):Int)=Builtin.Range.rangeSize lo hi 1:=by rw [rangeSize_one];split<;>omega
  show IsRangeIter _ _ (lo+((0:Nat):Int)*1) ((((hi - lo).toNat:Nat):Int) - ((0:Nat):Int)) 1
  rw [e1,e2]
  exact Heap.get?_push_size _ rfl
 ·have e:b=(s.heap.push {cls:=.type "range",data:=.fields #[.int lo t,.int hi u,.int 1 v]}).objs.size:=by simpa using hb
  subst e
  exact I1.eg (Nat.le_refl _) (I1.hok.fresh (Nat.le_refl _))
noncomputable def Aj (ta:TA):TI:=fun σ H R=>ta σ H fun vs H1=>∃j:Int,vs=[.int j]∧ -(2^62)<=j∧j<2^62∧R (Itr 0 j.toNat) H1
noncomputable def zG (ta:TA):TI:=fun σ H R=>ta σ H fun vs H1=>∃i j:Int,vs=[.int i,.int j]∧(-(2^62)<=i∧i<2^62∧ -(2^62)<=j∧j<2^62)∧R (Itr i (j - i).toNat) H1
theorem oU {a:Expr} {ta:TA} {p pos:Pos} (hg:Gl X "range") (hm:X.mg "range"=none) (ha:PA X [a] ta) (hs:starEach [a] X.env=[(false,eval a X.env)]:=by rfl):PI X tg (.Call (.Name "range" p) [a] [] pos) (Aj ta):=by
 intro pins s σ H R I h
 refine Call_ (dM I hg hm boot_range (PyProof.Rows.callWith_type1 (thn (ha pos pins s σ H _ I h) fun us s1 ⟨vs,H1,I1,r1,q1⟩=>?_) hs rfl))
 obtain ⟨j,e,q1,q2,q⟩:=q1
 subst e
 cases r1 with
 |cons r rr=>
  cases rr
  obtain ⟨t,rfl⟩:=r
  exact call_range_1 (lj I1 (by omega) (by omega) q1 q2 (by simpa using q))
theorem oJ {a b:Expr} {ta:TA} {p pos:Pos} (hg:Gl X "range") (hm:X.mg "range"=none) (ha:PA X [a,b] ta) (hs:starEach [a,b] X.env=[(false,eval a X.env),(false,eval b X.env)]:=by rfl) (hs2:starEach [b] X.env=[(false,eval b X.env)]:=by rfl):
  PI X tg (.Call (.Name "range" p) [a,b] [] pos) (zG ta):=by
 intro pins s σ H R I h
 refine Call_ (dM I hg hm boot_range (PyProof.Rows.callWith_type1 (thn (ha pos pins s σ H _ I h) fun us s1 ⟨vs,H1,I1,r1,q1⟩=>?_) (by rw [hs,hs2]) (by rw [hs2];rfl)))
 obtain ⟨i,j,e,⟨q1,q2,q3,q4⟩,q⟩:=q1
 subst e
 cases r1 with
 |cons r rr=>
  cases rr with
  |cons r' rr=>
   cases rr
   obtain ⟨t,rfl⟩:=r
   obtain ⟨t',rfl⟩:=r'
   exact call_range_2 (lj I1 q1 q2 q3 q4 q)
noncomputable def Ar (wi:TI) (g:TG) (tb:TS):TS:=fun D σ H=>wi σ H fun J H1=>∃W:Nat->Nat->St->Hp->Prop,(∃m,W 0 m σ H1)∧∀i m σ H,W i m σ H->
 (J.stop i H∧D.nx σ H)∨(J.go i H∧∃N:St->Hp->Prop,(∀σ' H',N σ' H'->∃m',m'<m∧W (i+1) m' σ' H')∧∀x H',J.yld i H x H'->g x σ H' fun σ2 H2=>tb {D with nx:=N,ct:=N,bk:=D.nx} σ2 H2)
noncomputable def bS (fp:List Addr) (h:Heap):List (Addr×Obj):=fp.filterMap fun b=>(h.get? b).map fun o=>(b,o)
theorem bC {fp:List Addr} {h:Heap} {b:Addr} {o:Obj} (hb:b∈fp) (e:h.get? b=some o):(b,o)∈bS fp h:=List.mem_filterMap.mpr ⟨b,hb,by rw [e];rfl⟩
theorem gv {fp:List Addr} {h:Heap} {p:Addr×Obj} (hp:p∈bS fp h):p.1∈fp∧h.get? p.1=some p.2:=by
 obtain ⟨b,hb,e⟩:=List.mem_filterMap.mp hp
 cases q:h.get? b with
 |none=>rw [q] at e;cases e
 |some o=>
  rw [q] at e
  have e':(b,o)=p:=Option.some.inj e
  subst e'
  exact ⟨hb,q⟩
theorem Inv.pinned {pins:List (Addr×Obj)} {σ:St} {H:Hp} {s:Shared} {fp:List Addr} (I:Inv X pins σ H s) (hf:∀b∈fp,a_ X pins H b) (ho:∀b∈fp,∃o,s.heap.get? b=some o∧∀v,o.data≠.cell v):Inv X (pins++bS fp s.heap) σ H s:=
 I.jj fun p hp=>(List.mem_append.mp hp).elim (fun z=>I.pin p (List.mem_append_right _ z)) fun z=>by
  obtain ⟨hb,e⟩:=gv z
  obtain ⟨f0,f1,f2,_⟩:=hf p.1 hb
  obtain ⟨o,e',d⟩:=ho p.1 hb
  rw [e] at e';cases e'
  exact ⟨e,f0,f1,f2,d⟩
theorem Inv.bN {pins pl:List (Addr×Obj)} {σ:St} {H:Hp} {s:Shared} (I:Inv X (pins++pl) σ H s):Inv X pins σ H s:=I.jj fun p hp=>I.pin p (List.mem_append_right _ (List.mem_append_left _ hp))
theorem vZ {iter:Expr} {body:List Stmt} {wi:TI} {g:TG} {tb:TS} {pos:Pos} (hp:PassesOwn (model X.prog X.w) X.A X.env X.xe) (hc:X.calm=true) (hi:PI X tg iter wi) (hg:PG X tg g) (hb:PSs X body tb)
  (hs:∀x,foldedSetIterable iter X.env x=pure x:=by intro _;rfl):PS X (.For tg iter body [] pos) (Ar wi g tb):=by
 intro pins s σ H D I h
 refine wpAny_For (thn (hi pins s σ H _ I h) fun v s1 h1=>thn h1 fun itv s2 h2=>?_) hs
 obtain ⟨it,fp,tn,J,H2,e,I2,T,st2,f2,W,⟨m0,w0⟩,turn⟩:=h2
 subst e
 have stat:∀{H':Hp},(∀b∈fp,H' b=none)->∀b∈fp,a_ X pins H' b:=fun hn b hb=>⟨hn b hb,(f2 b hb).2⟩
 refine codeAny_forLoop_any (fun n s'=>∃i σ' H',Inv X pins σ' H' s'∧tn i s'.heap∧(∀b∈fp,H' b=none)∧W i n σ' H') ?_ m0 ⟨0,σ,H2,I2,st2,fun b hb=>(f2 b hb).1,w0⟩
 rintro n s3 ⟨i,σ3,H3,I3,st3,fr3,w3⟩
 rcases turn i n σ3 H3 w3 with ⟨stop,qn⟩|⟨go,N,hN,step⟩
 ·refine wpAny_passesOwn hp (thn (T.done X rfl rfl rfl hc i pins s3 σ3 H3 X.xe I3 (stat fr3) st3 stop) fun r s4 ⟨hr,I4⟩=>?_)
  subst hr
  exact wpAny_execs_nil ⟨σ3,H3,I4,qn⟩
 ·refine wpAny_passesOwn hp (thn (T.item X rfl rfl rfl hc i pins s3 σ3 H3 X.xe I3 (stat fr3) st3 go) fun r s4 ⟨u,hr,h4⟩=>?_)
  subst hr
  refine wpAny_passesOwn hp (thn h4 fun _ s5 ⟨x,H5,I5,r5,y5,st5,fr5⟩=>?_)
  have I5':=I5.pinned (stat fr5) (T.obj _ _ st5)
  refine wpAny_passesOwn hp (thn (hg _ s5 σ3 H5 x u _ I5' r5 (step x H5 y5)) fun _ s6 ⟨σ6,H6,I6,q6⟩=>?_)
  refine wpAny_passesOwn hp (thn (hb _ s6 σ6 H6 _ I6 q6) fun f s7 q7=>?_)
  have again:∀{σ7:St} {H7:Hp},Inv X (pins++bS fp s5.heap) σ7 H7 s7->N σ7 H7->∃m,m<n∧∃i σ' H',Inv X pins σ' H' s7∧tn i s7.heap∧(∀b∈fp,H' b=none)∧W i m σ' H':=fun {σ7 H7} I7 n7=>by
   obtain ⟨m',hm,w7⟩:=hN σ7 H7 n7
   refine ⟨m',hm,i+1,σ7,H7,I7.bN,T.keep _ _ _ st5 fun b hb o e=>(I7.pin (b,o) (List.mem_append_right _ (List.mem_append_right _ (bC hb e)))).1,fun b hb=>?_,w7⟩
   obtain ⟨o,e,d⟩:=T.obj _ _ st5 b hb
   exact (I7.pin (b,o) (List.mem_append_right _ (List.mem_append_right _ (bC hb e)))).2.1
  cases f with
  |next=>obtain ⟨σ7,H7,I7,n7⟩:=q7;exact again I7 n7
  |cont=>obtain ⟨σ7,H7,I7,n7⟩:=q7;exact again I7 n7
  |brk=>obtain ⟨σ7,H7,I7,q7⟩:=q7;exact ⟨σ7,H7,I7.bN,q7⟩
  |ret v=>obtain ⟨x7,σ7,H7,I7,r7,q7⟩:=q7;exact ⟨x7,σ7,H7,I7.bN,r7,q7⟩
end
end L2
namespace L2
open PySem PySem.Spec PyProof.Rows
noncomputable abbrev R2:=V->V->Hp->VK->Prop
noncomputable def OpR (X:Cx) (f:Value->Value->Sem Value) (r:R2):Prop:=
 ∀(pins:List (Addr×Obj)) (s:Shared) (σ:St) (H:Hp) (x y:V) (v u:Value) (Q:VK),Inv X pins σ H s->RelV x v->RelV y u->r x y H Q->
  wpAny (model X.prog X.w) X.A (f v u) (EP X pins σ Q) X.xe s
noncomputable def UnR (X:Cx) (f:Value->Sem Value) (r:V->Hp->VK->Prop):Prop:=
 ∀(pins:List (Addr×Obj)) (s:Shared) (σ:St) (H:Hp) (x:V) (v:Value) (Q:VK),Inv X pins σ H s->RelV x v->r x H Q->
  wpAny (model X.prog X.w) X.A (f v) (EP X pins σ Q) X.xe s
noncomputable def cL (X:Cx) (f:Value) (r:List V->Hp->VK->Prop):Prop:=
 ∀(pins:List (Addr×Obj)) (s:Shared) (σ:St) (H:Hp) (xs:List V) (us:List Value) (Q:VK),Inv X pins σ H s->Vals xs us->r xs H Q->
  wpAny (model X.prog X.w) X.A (call f us) (EP X pins σ Q) X.xe s
noncomputable def tOp (r:R2) (ta tb:TE):TE:=fun σ H Q=>ta σ H fun x H1=>tb σ H1 fun y H2=>r x y H2 Q
noncomputable def tUn (r:V->Hp->VK->Prop) (ta:TE):TE:=fun σ H Q=>ta σ H fun x H1=>r x H1 Q
noncomputable def rI (C:Int->Int->Prop) (g:Int->Int->V):R2:=fun x y H Q=>∃i j,x=.int i∧y=.int j∧C i j∧Q (g i j) H
noncomputable def rI0 (g:Int->Int->V):R2:=fun x y H Q=>∃i j,x=.int i∧y=.int j∧Q (g i j) H
noncomputable def rU (g:Int->V):V->Hp->VK->Prop:=fun x H Q=>∃i,x=.int i∧Q (g i) H
section
variable {X:Cx} {a b c:Expr} {ta tb tc:TE} {pos:Pos}
theorem rV (ha:PE X a ta) (hb:PE X b tb) {pins:List (Addr×Obj)} {s:Shared} {σ:St} {H:Hp} {R:V->V->Hp->Prop} (I:Inv X pins σ H s)
  (h:ta σ H fun x H1=>tb σ H1 fun y H2=>R x y H2) {Q:Value->Shared->Prop} {f:Value->Value->Sem Value}
  (hf:∀v u s2 x y H2,Inv X pins σ H2 s2->RelV x v->RelV y u->R x y H2->wpAny (model X.prog X.w) X.A (f v u) Q X.xe s2):
  wpAny (model X.prog X.w) X.A (eval a X.env) (fun v s₁=>wpAny (model X.prog X.w) X.A (eval b X.env) (fun u s₂=>wpAny (model X.prog X.w) X.A (f v u) Q X.xe s₂) X.xe s₁) X.xe s:=by
 refine thn (ha pins s σ H _ I h) fun v s1 ⟨x,H1,I1,r1,q1⟩=>?_
 refine thn (hb pins s1 σ H1 _ I1 q1) fun u s2 ⟨y,H2,I2,r2,q2⟩=>?_
 exact hf v u s2 x y H2 I2 r1 r2 q2
theorem zK {op:Operator} {r:R2} (ho:OpR X (binaryOp op) r) (ha:PE X a ta) (hb:PE X b tb):PE X (.BinOp a op b pos) (tOp r ta tb):=by
 intro pins s σ H Q I h
 exact wpAny_BinOp (rV ha hb I h fun v u s2 x y H2 I2 rx ry q=>ho pins s2 σ H2 x y v u Q I2 rx ry q)
theorem zT {op:UnaryOp} {r:V->Hp->VK->Prop} (ho:UnR X (unaryOp op) r) (ha:PE X a ta):PE X (.UnaryOp op a pos) (tUn r ta):=by
 intro pins s σ H Q I h
 exact UnaryOp_ (thn (ha pins s σ H _ I h) fun v s1 ⟨x,H1,I1,r1,q1⟩=>ho pins s1 σ H1 x v Q I1 r1 q1)
theorem opI {f:Value->Value->Sem Value} {C:Int->Int->Prop} {g:Int->Int->Int}
  (rule:∀(i j:Int) (t u:Tok) (s:Shared) (Q:Value->Shared->Prop) (E:Value->Shared->Prop),C i j->Q (.int (g i j) s.toks) {s with toks:=s.toks+1}->wpAny (model X.prog X.w) X.A (f (.int i t) (.int j u)) Q E s):
  OpR X f (rI C fun i j=>.int (g i j)):=by
 intro pins s σ H x y v u Q I rx ry h
 obtain ⟨i,j,rfl,rfl,hc,q⟩:=h
 obtain ⟨t,rfl⟩:=rx
 obtain ⟨t',rfl⟩:=ry
 exact rule i j t t' s _ _ hc ⟨.int (g i j),H,I.tok _,⟨_,rfl⟩,q⟩
theorem v_ {f:Value->Value->Sem Value} {g:Int->Int->Int}
  (rule:∀(i j:Int) (t u:Tok) (s:Shared) (Q:Value->Shared->Prop) (E:Value->Shared->Prop),Q (.int (g i j) s.toks) {s with toks:=s.toks+1}->wpAny (model X.prog X.w) X.A (f (.int i t) (.int j u)) Q E s):
  OpR X f (rI0 fun i j=>.int (g i j)):=by
 intro pins s σ H x y v u Q I rx ry h
 obtain ⟨i,j,rfl,rfl,q⟩:=h
 obtain ⟨t,rfl⟩:=rx
 obtain ⟨t',rfl⟩:=ry
 exact rule i j t t' s _ _ ⟨.int (g i j),H,I.tok _,⟨_,rfl⟩,q⟩
theorem nr {f:Value->Value->Sem Value} {g:Int->Int->Bool}
  (rule:∀(i j:Int) (t u:Tok) (s:Shared) (Q:Value->Shared->Prop) (E:Value->Shared->Prop),Q (.bool (g i j)) s->wpAny (model X.prog X.w) X.A (f (.int i t) (.int j u)) Q E s):
  OpR X f (rI0 fun i j=>.bl (g i j)):=by
 intro pins s σ H x y v u Q I rx ry h
 obtain ⟨i,j,rfl,rfl,q⟩:=h
 obtain ⟨t,rfl⟩:=rx
 obtain ⟨t',rfl⟩:=ry
 exact rule i j t t' s _ _ ⟨.bl (g i j),H,I,rfl,q⟩
noncomputable def nJ (i j:Int):Prop:=0<j∧j<1073741824
noncomputable def ic (i j:Int):Prop:=(-(2^64)<i∧i<2^64)∨(-(2^64)<j∧j<2^64)
theorem ic.ok {i j:Int} (h:ic i j):IntMulOk i j:=by
 rcases h with ⟨h1,h2⟩|⟨h1,h2⟩
 ·exact .of_left (intBits_le_64 h1 h2)
 ·exact .of_right (intBits_le_64 h1 h2)
theorem yL:OpR X (binaryOp .Add) (rI0 fun i j=>.int (i+j)):=v_ fun _ _ _ _ _ _ _ q=>add_int q
theorem xS:OpR X (binaryOp .Sub) (rI0 fun i j=>.int (i - j)):=v_ fun _ _ _ _ _ _ _ q=>sub_int q
theorem vR:OpR X (binaryOp .Mult) (rI ic fun i j=>.int (i*j)):=opI fun _ _ _ _ _ _ _ hc q=>mul_int q hc.ok
theorem t_:OpR X (binaryOp .FloorDiv) (rI nJ fun i j=>.int (i / j)):=opI fun i j _ _ _ _ _ hc q=>by
 have h1:(0:Int)<j:=hc.1
 have h2:j<1073741824:=hc.2
 exact floordiv_int (by omega) (by rw [Int.fdiv_eq_ediv_of_nonneg i (by omega)];exact q) (.inl (PyProof.noPylong_small (by omega)))
theorem w9:OpR X (binaryOp .Mod) (rI (fun _ j=>0<j) fun i j=>.int (i%j)):=opI fun i j _ _ _ _ _ hc q=>by
 have h1:(0:Int)<j:=hc
 exact mod_int' (by omega) (by rw [Int.fmod_eq_emod_of_nonneg i (by omega)];exact q)
theorem unI {f:Value->Sem Value} {g:Int->Int}
  (rule:∀(i:Int) (t:Tok) (s:Shared) (Q:Value->Shared->Prop) (E:Value->Shared->Prop),Q (.int (g i) s.toks) {s with toks:=s.toks+1}->wpAny (model X.prog X.w) X.A (f (.int i t)) Q E s):
  UnR X f (rU fun i=>.int (g i)):=by
 intro pins s σ H x v Q I rx h
 obtain ⟨i,rfl,q⟩:=h
 obtain ⟨t,rfl⟩:=rx
 exact rule i t s _ _ ⟨.int (g i),H,I.tok _,⟨_,rfl⟩,q⟩
theorem vX:UnR X (unaryOp .USub) (rU fun i=>.int (-i)):=unI fun _ _ _ _ _ q=>neg_int q
end
noncomputable def mN:V->V->Bool
 |.non,.non=>true|.non,.int _=>true|.int _,.non=>true|.non,.bl _=>true|.bl _,.non=>true|.non,.str _=>true|.str _,.non=>true
 |.int _,.int _=>true|.bl _,.bl _=>true|.str _,.str _=>true|.byt _,.byt _=>true
 |.int _,.str _=>true|.str _,.int _=>true|.bl _,.str _=>true|.str _,.bl _=>true
 |_,_=>false
noncomputable def rEq:R2:=fun x y H Q=>mN x y=true∧Q (.bl (decide (x=y))) H
noncomputable def rNe:R2:=fun x y H Q=>mN x y=true∧Q (.bl (!decide (x=y))) H
theorem mm {i j:Int}:decide (V.int i=V.int j)=(i==j):=by
 rw [Bool.eq_iff_iff]
 simp
theorem qe {i j:Bool}:decide (V.bl i=V.bl j)=(i==j):=by
 rw [Bool.eq_iff_iff]
 simp
theorem my {i j:Str}:decide (V.str i=V.str j)=(i==j):=by
 rw [Bool.eq_iff_iff]
 simp
theorem l7 {i j:Array UInt8}:decide (V.byt i=V.byt j)=(i.toList==j.toList):=by
 rw [Bool.eq_iff_iff]
 cases i
 cases j
 simp
section
variable {X:Cx} {a b c:Expr} {ta tb tc:TE} {pos:Pos}
theorem aw {pins:List (Addr×Obj)} {σ:St} {H:Hp} {s:Shared} {Q:VK} {k k':Bool} (I:Inv X pins σ H s) (q:Q (.bl k) H) (e:k=k'):EP X pins σ Q (.bool k') s:=by
 subst e
 exact ⟨.bl k,H,I,rfl,q⟩
theorem s9:OpR X (compareOp .Eq) rEq:=by
 intro pins s σ H x y v u Q I rx ry h
 obtain ⟨hs,q⟩:=h
 cases x with
 |non=>
  cases rx
  cases y with
  |non=>cases ry;exact PySem.EqNone.eq_none_none (aw I q (by simp))
  |bl j=>cases ry;exact PySem.EqNone.eq_none_bool (aw I q (by simp))
  |int j=>obtain ⟨t',rfl⟩:=ry;exact PySem.EqNone.eq_none_int (aw I q (by simp))
  |str j=>obtain ⟨t',rfl⟩:=ry;exact PySem.EqNone.eq_none_str (aw I q (by simp))
  |_=>exact absurd (show false=true from hs) Bool.false_ne_true
 |bl i=>
  cases rx
  cases y with
  |non=>cases ry;exact PySem.EqNone.eq_bool_none (aw I q (by simp))
  |bl j=>cases ry;exact eq_bool (aw I q qe)
  |str j=>obtain ⟨t',rfl⟩:=ry;exact PySem.EqMixed.eq_bool_str (aw I q (by simp))
  |_=>exact absurd (show false=true from hs) Bool.false_ne_true
 |int i=>
  obtain ⟨t,rfl⟩:=rx
  cases y with
  |non=>cases ry;exact PySem.EqNone.eq_int_none (aw I q (by simp))
  |int j=>obtain ⟨t',rfl⟩:=ry;exact eq_int (aw I q mm)
  |str j=>obtain ⟨t',rfl⟩:=ry;exact PySem.EqMixed.eq_int_str (aw I q (by simp))
  |_=>exact absurd (show false=true from hs) Bool.false_ne_true
 |str i=>
  obtain ⟨t,rfl⟩:=rx
  cases y with
  |non=>cases ry;exact PySem.EqNone.eq_str_none (aw I q (by simp))
  |bl j=>cases ry;exact PySem.EqMixed.eq_str_bool (aw I q (by simp))
  |int j=>obtain ⟨t',rfl⟩:=ry;exact PySem.EqMixed.eq_str_int (aw I q (by simp))
  |str j=>obtain ⟨t',rfl⟩:=ry;exact eq_str (aw I q my)
  |_=>exact absurd (show false=true from hs) Bool.false_ne_true
 |byt i=>
  obtain ⟨t,rfl⟩:=rx
  cases y with
  |byt j=>obtain ⟨t',rfl⟩:=ry;exact PySem.W.eq_bytes (aw I q l7)
  |_=>exact absurd (show false=true from hs) Bool.false_ne_true
 |_=>cases y<;>exact absurd (show false=true from hs) Bool.false_ne_true
theorem sF:OpR X (compareOp .NotEq) rNe:=by
 intro pins s σ H x y v u Q I rx ry h
 obtain ⟨hs,q⟩:=h
 cases x with
 |non=>
  cases rx
  cases y with
  |non=>cases ry;exact PySem.EqNone.ne_none_none (aw I q (by simp))
  |bl j=>cases ry;exact PySem.EqNone.ne_none_bool (aw I q (by simp))
  |int j=>obtain ⟨t',rfl⟩:=ry;exact PySem.EqNone.ne_none_int (aw I q (by simp))
  |str j=>obtain ⟨t',rfl⟩:=ry;exact PySem.EqNone.ne_none_str (aw I q (by simp))
  |_=>exact absurd (show false=true from hs) Bool.false_ne_true
 |bl i=>
  cases rx
  cases y with
  |non=>cases ry;exact PySem.EqNone.ne_bool_none (aw I q (by simp))
  |bl j=>cases ry;exact ne_bool (aw I q (congrArg not qe))
  |str j=>obtain ⟨t',rfl⟩:=ry;exact PySem.EqMixed.ne_bool_str (aw I q (by simp))
  |_=>exact absurd (show false=true from hs) Bool.false_ne_true
 |int i=>
  obtain ⟨t,rfl⟩:=rx
  cases y with
  |non=>cases ry;exact PySem.EqNone.ne_int_none (aw I q (by simp))
  |int j=>obtain ⟨t',rfl⟩:=ry;exact ne_int (aw I q (congrArg not mm))
  |str j=>obtain ⟨t',rfl⟩:=ry;exact PySem.EqMixed.ne_int_str (aw I q (by simp))
  |_=>exact absurd (show false=true from hs) Bool.false_ne_true
 |str i=>
  obtain ⟨t,rfl⟩:=rx
  cases y with
  |non=>cases ry;exact PySem.EqNone.ne_str_none (aw I q (by simp))
  |bl j=>cases ry;exact PySem.EqMixed.ne_str_bool (aw I q (by simp))
  |int j=>obtain ⟨t',rfl⟩:=ry;exact PySem.EqMixed.ne_str_int (aw I q (by simp))
  |str j=>obtain ⟨t',rfl⟩:=ry;exact ne_str (aw I q (congrArg not my))
  |_=>exact absurd (show false=true from hs) Bool.false_ne_true
 |byt i=>
  obtain ⟨t,rfl⟩:=rx
  cases y with
  |byt j=>obtain ⟨t',rfl⟩:=ry;exact PySem.W.ne_bytes (aw I q (congrArg not l7))
  |_=>exact absurd (show false=true from hs) Bool.false_ne_true
 |_=>cases y<;>exact absurd (show false=true from hs) Bool.false_ne_true
theorem nV:OpR X (compareOp .Lt) (rI0 fun i j=>.bl (decide (i<j))):=nr fun _ _ _ _ _ _ _ q=>lt_int q
theorem m8:OpR X (compareOp .LtE) (rI0 fun i j=>.bl (decide (i<=j))):=nr fun _ _ _ _ _ _ _ q=>le_int q
theorem sW:OpR X (compareOp .Gt) (rI0 fun i j=>.bl (decide (j<i))):=nr fun _ _ _ _ _ _ _ q=>gt_int q
theorem sD:OpR X (compareOp .GtE) (rI0 fun i j=>.bl (decide (j<=i))):=nr fun _ _ _ _ _ _ _ q=>ge_int q
theorem o_:OpR X (compareOp .Is) (fun x y H Q=>y=.non∧Q (.bl (decide (x=.non))) H):=by
 intro pins s σ H x y v u Q I rx ry h
 obtain ⟨rfl,q⟩:=h
 cases ry
 refine is_none_gen (aw I q ?_)
 cases x<;>first
  |(cases rx;rfl)
  |(obtain ⟨t,rfl⟩:=rx;rfl)
theorem me:OpR X (compareOp .IsNot) (fun x y H Q=>y=.non∧Q (.bl (!decide (x=.non))) H):=by
 intro pins s σ H x y v u Q I rx ry h
 obtain ⟨rfl,q⟩:=h
 cases ry
 refine isnot_none_gen (aw I q ?_)
 cases x<;>first
  |(cases rx;rfl)
  |(obtain ⟨t,rfl⟩:=rx;rfl)
theorem aL (b:Expr) {op:CmpOp} (h:op≠.In:=by decide) (h2:op≠.NotIn:=by decide):behindInMarks op b=false:=by
 have e1:(op==CmpOp.In)=false:=by cases op<;>first|rfl|exact absurd rfl h
 have e2:(op==CmpOp.NotIn)=false:=by cases op<;>first|rfl|exact absurd rfl h2
 cases b<;>simp [behindInMarks,e1,e2]
theorem tT {op:CmpOp} {r:R2} (ho:OpR X (compareOp op) r) (ha:PE X a ta) (hb:PE X b tb) (hm:behindInMarks op b=false):PE X (.Compare a [op] [b] pos) (tOp r ta tb):=by
 intro pins s σ H Q I h
 exact wpAny_Compare1 (rV ha hb I h fun v u s2 x y H2 I2 rx ry q=>ho pins s2 σ H2 x y v u Q I2 rx ry q) hm
noncomputable def yX (t:TE):TT:=fun σ H Q=>t σ H fun x H'=>∃k,x=.bl k∧Q k H'
theorem vP {op:CmpOp} {r:R2} (ho:OpR X (compareOp op) r) (ha:PE X a ta) (hb:PE X b tb) (hm:behindInMarks op b=false):PT X (.Compare a [op] [b] pos) (yX (tOp r ta tb)):=by
 intro pins s σ H Q I h
 refine wpAny_isTrue_Compare1 (thn (ha pins s σ H _ I h) fun v s1 ⟨x,H1,I1,r1,q1⟩=>thn (hb pins s1 σ H1 _ I1 q1) fun u s2 ⟨y,H2,I2,r2,q2⟩=>
  thn (ho pins s2 σ H2 x y v u _ I2 r1 r2 q2) fun c s3 ⟨z,H3,I3,r3,k,e,q3⟩=>?_) hm
 subst e
 cases r3
 exact wpAny_truthy_bool ⟨H3,I3,q3⟩
noncomputable def ym (r r':R2) (ta tb tc:TE):TE:=fun σ H Q=>ta σ H fun x H1=>tb σ H1 fun y H2=>r x y H2 fun z H3=>∃k,z=.bl k∧
 (if k=true then tc σ H3 fun w' H4=>r' y w' H4 Q else Q (.bl false) H3)
theorem ri {op op':CmpOp} {r r':R2} (ho:OpR X (compareOp op) r) (ho':OpR X (compareOp op') r') (ha:PE X a ta) (hb:PE X b tb) (hc:PE X c tc)
  (hm:lastMarks [op,op'] [b,c]=false:=by with_unfolding_all rfl):PE X (.Compare a [op,op'] [b,c] pos) (ym r r' ta tb tc):=by
 intro pins s σ H Q I h
 refine Compare_chain (thn (ha pins s σ H _ I h) fun v s1 ⟨x,H1,I1,r1,q1⟩=>chain_link (thn (hb pins s1 σ H1 _ I1 q1) fun u s2 ⟨y,H2,I2,r2,q2⟩=>
  thn (ho pins s2 σ H2 x y v u _ I2 r1 r2 q2) fun d s3 ⟨z,H3,I3,r3,k,e,q3⟩=>?_)) hm
 subst e
 cases r3
 refine wpAny_truthy_bool ?_
 cases k with
 |false=>exact ite_ff ⟨.bl false,H3,I3,rfl,q3⟩
 |true=>exact ite_tt (chain_last (thn (hc pins s3 σ H3 _ I3 q3) fun w' s4 ⟨z',H4,I4,r4,q4⟩=>ho' pins s4 σ H4 y z' u w' Q I4 r2 r4 q4))
theorem kJ:(sizeLine:Nat)<2^63:=by rw [sizeLine_eq];decide
theorem vals1 {x:V} {us:List Value} (r:Vals [x] us):∃u,us=[u]∧RelV x u:=by
 cases r with
 |cons r1 r2=>cases r2;exact ⟨_,rfl,r1⟩
theorem vals2 {x y:V} {us:List Value} (r:Vals [x,y] us):∃u w',us=[u,w']∧RelV x u∧RelV y w':=by
 cases r with
 |cons r1 r2=>
  cases r2 with
  |cons r3 r4=>cases r4;exact ⟨_,_,rfl,r1,r3⟩
theorem pZ (hc:X.calm=true):cL X (.builtin "min") (fun xs H Q=>∃i j,xs=[.int i,.int j]∧Q (.int (if j<i then j else i)) H):=by
 intro pins s σ H xs us Q I r h
 obtain ⟨i,j,rfl,q⟩:=h
 obtain ⟨u,w',rfl,⟨t,rfl⟩,⟨t',rfl⟩⟩:=vals2 r
 refine min_two_ints (I.ok.hd hc) fun h' tk k=>⟨_,H,I.kept k,?_,q⟩
 by_cases hj:j<i
 ·rw [if_pos hj,if_pos hj];exact ⟨_,rfl⟩
 ·rw [if_neg hj,if_neg hj];exact ⟨_,rfl⟩
end
end L2
namespace L2
open PySem PySem.Spec PyProof.Rows
structure hW (h:Heap) (x dx C:Addr) (mA:Str->Option Value):Prop where
 obj:h.get? x=some (PySem.W.instObj C dx)
 ns:h.Ns1 dx mA
 ne:dx≠x
theorem jO {h:Heap} {dx:Addr} {mA:Str->Option Value} (n:h.Ns1 dx mA):∃od,h.get? dx=some od∧∀name,PySem.W.lookIn name od=some (mA name):=by
 obtain ⟨o,es,ep,ho,hd,hk,_,hm⟩:=n
 refine ⟨o,ho,fun name=>?_⟩
 have e:=hm name
 unfold nsFind findBy at e
 rw [←Array.find?_toList] at e
 unfold PySem.W.lookIn
 rw [hd]
 dsimp only
 split
 ·rename_i y q
  rw [q] at e
  exact congrArg some e
 ·rename_i q
  rw [q] at e
  have a:es.toList.any (·.refKey)=false:=by
   rw [List.any_eq_false]
   intro y hy
   obtain ⟨z,t,hkey⟩:=hk y (Array.mem_toList_iff.mp hy)
   simp [DictEntry.refKey,hkey]
  have a':¬es.toList.any (·.refKey)=true:=by rw [a];exact Bool.false_ne_true
  rw [if_neg a']
  exact congrArg some e
theorem hW.look {h:Heap} {x dx C:Addr} {mA:Str->Option Value} (I:hW h x dx C mA):∃od,PySem.W.InstAt h x (PySem.W.instObj C dx) C (some od)∧∀name,PySem.W.lookIn name od=some (mA name):=
 let ⟨od,ho,hl⟩:=jO I.ns
 ⟨od,⟨I.obj,rfl,rfl,ho⟩,hl⟩
section
variable {prog:Program} {w:World} {A:Around} {E:Value->Shared->Prop} {s:Shared} {K:PySem.W.Frag} {x dx C f:Addr} {mA:Str->Option Value} {name:Str} {v:Value}
theorem get_map {expr:Bool} {Q:Value->Shared->Prop} (X:K.In s.heap) (I:hW s.heap x dx C mA) (hg:PySem.W.plainGet K C name=true) (hh:PySem.W.hasDictIn K C=true)
  (ha:PySem.W.findIn K (.ref C) name=some none) (hv:mA name=some v) (hv':PySem.W.handedIn v=true) (h:Q v {s with toks:=s.toks+1}):
  wpAny (model prog w) A (getAttr (.ref x) name expr) Q E s:=by
 obtain ⟨od,J,hl⟩:=I.look
 exact PySem.W.get_value X J (PySem.W.plainGet_of hg).1 (PySem.W.findObj_own hh ha rfl (by rw [hl,hv])) hv' h
theorem rN {pl:Sem Bool} {Q:Value×List Value->Shared->Prop} (X:K.In s.heap) (I:hW s.heap x dx C mA) (hg:PySem.W.plainGet K C name=true)
  (hf:PySem.W.findIn K (.ref C) name=some (some (.ref f))) (ht:PySem.W.isFn K (.ref f)=true) (hv:mA name=none) (h:Q (.ref f,[.ref x]) s):
  wpAny (model prog w) A (getMethod (.ref x) name pl) Q E s:=by
 obtain ⟨od,J,hl⟩:=I.look
 exact PySem.W.method_fn X J (PySem.W.plainGet_of hg).1 (PySem.W.plainGet_of hg).2 hf (beq_iff_eq.mp ht) (by show (PySem.W.lookIn name od).map (·.isSome)=some false;rw [hl,hv];rfl) h
theorem vu {ns:List Str} {Q:Unit->Shared->Prop} (X:K.In s.heap) (I:hW s.heap x dx C mA)
  (hs:PySem.W.findIn K (.ref C) "__setattr__"=some (some (.builtin "object.__setattr__"))) (hp:PySem.W.plainOver K C=true) (ht:PySem.W.takerIn K C name=some none) (hh:PySem.W.hasDictIn K C=true)
  (hw:PySem.Within mA ns) (hsz:ns.length<=sizeLine)
  (h:∀h',hW h' x dx C (fun y=>if y=name then some v else mA y)->Heap.SameBut dx s.heap h'->Q () {s with heap:=h',toks:=s.toks+2}):
  wpAny (model prog w) A (setAttr (.ref x) name v) Q E s:=by
 obtain ⟨od,J,hl⟩:=I.look
 refine PySem.W.set_plain X J hs (PySem.W.osa_open (s:={s with toks:=s.toks+1}) (r:=none) X J hp ht fun b=>?_)
 obtain ⟨cd,hc,hd'⟩:=PySem.W.any_some hh
 have hx:s.heap.get? x=some ⟨.ref C,some dx,.plain,#[]⟩:=I.obj
 refine wpAny_bind (wpAny_pure (wpAny_bind (wpAny_bind (wpAny_loadPart hx (wpAny_bind (PySem.W.Looks.here (s:={s with toks:=s.toks+1}) (PySem.W.looks_clsIn X hc) ?_))))))
 rw [hd']
 refine wpAny_pure (a:=some dx) (wpAny_bind (wpAny_pure (wpAny_bind ?_)))
 refine wpAny_nsSet1 (s:={s with toks:=s.toks+1}) I.ns fun h' hn2 hs2=>?_
 obtain ⟨oD,esD,epD,hoD,hdD,hcD⟩:=hn2.count (PySem.Within.cons name v hw)
 refine wpAny_bind (wpAny_lookBehind hoD (by rw [hdD];exact pastItsLine_dict (Nat.le_trans hcD (by rw [List.length_cons];omega))) ?_)
 exact wpAny_pure (h _ ⟨(hs2.2 _ (Ne.symm I.ne)).trans I.obj,hn2,I.ne⟩ hs2)
theorem qW {R:Result->Shared->Prop} {vs:List Value} {kw:List (Str×Value)} (X:K.In s.heap) (hm:PySem.W.makesIn K C=true)
  (hi:PySem.W.findIn K (.ref C) "__init__"=some (some (.ref f))) (hf:PySem.W.typeIn K (.ref f)=some (.type "function"))
  (h:codeAny (model prog w) (A.under (.builtin "type.__call__" ⟨.ref C::vs,kw⟩)) (.call (.ref f) ⟨.ref (s.heap.objs.size+1)::vs,kw⟩) (PySem.W.InitBack (s.heap.objs.size+1) R)
   {s with heap:=(s.heap.push PySem.W.emptyDict).push (PySem.W.instObj C s.heap.objs.size)}):
  codeAny (model prog w) A (.call (.ref C) ⟨vs,kw⟩) R s:=by
 obtain ⟨hh,g,d,t,os⟩:=s
 exact PySem.W.make_core (PySem.W.makes_of X hm) (PySem.W.looks_findIn X hi) (fun self=>PySem.W.bind_fn X self hf) (.inl rfl) h
end
noncomputable def bT (f:Str) (v:V):List (Str×V)->List (Str×V)
 |[]=>[(f,v)]
 |(g,x)::r=>if g=f then (g,v)::r else (g,x)::bT f v r
theorem gZ (f g:Str) (v:V):∀fs:List (Str×V),(bT f v fs).lookup g=if g=f then some v else fs.lookup g
 |[]=>by
  show List.lookup g [(f,v)]=_
  by_cases h:g=f
  ·have hb:(g==f)=true:=beq_iff_eq.mpr h
   simp only [List.lookup,hb,if_pos h]
  ·have hb:(g==f)=false:=beq_eq_false_iff_ne.mpr h
   simp only [List.lookup,hb,if_neg h]
 |(k,x)::r=>by
  have ih:=gZ f g v r
  rw [show bT f v ((k,x)::r)=(if k=f then (k,v)::r else (k,x)::bT f v r) from rfl]
  by_cases hk:k=f
  ·rw [if_pos hk]
   by_cases h:g=k
   ·have hb:(g==k)=true:=beq_iff_eq.mpr h
    simp only [List.lookup,hb,if_pos (h.trans hk)]
   ·have hb:(g==k)=false:=beq_eq_false_iff_ne.mpr h
    simp only [List.lookup,hb,if_neg (fun e:g=f=>h (e.trans hk.symm))]
  ·rw [if_neg hk]
   by_cases h:g=k
   ·have hb:(g==k)=true:=beq_iff_eq.mpr h
    simp only [List.lookup,hb,if_neg (fun e:g=f=>hk (h.symm.trans e))]
   ·have hb:(g==k)=false:=beq_eq_false_iff_ne.mpr h
    simp only [List.lookup,hb]
    exact ih
theorem gJ (f:Str) (v:V):∀fs:List (Str×V),f∈(bT f v fs).map (·.1)∧∀g,g∈fs.map (·.1)->g∈(bT f v fs).map (·.1)
 |[]=>⟨by simp [bT],fun g h=>by simp at h⟩
 |(k,x)::r=>by
  obtain ⟨i1,i2⟩:=gJ f v r
  rw [show bT f v ((k,x)::r)=(if k=f then (k,v)::r else (k,x)::bT f v r) from rfl]
  by_cases hk:k=f
  ·rw [if_pos hk]
   subst hk
   exact ⟨by simp,fun g h=>by simpa using h⟩
  ·rw [if_neg hk]
   refine ⟨?_,fun g h=>?_⟩
   ·rw [List.map_cons]
    exact List.mem_cons_of_mem _ i1
   ·rw [List.map_cons] at h ⊢
    rcases List.mem_cons.mp h with e|e
    ·exact List.mem_cons.mpr (.inl e)
    ·exact List.mem_cons_of_mem _ (i2 g e)
theorem gX (f:Str) (v:V):∀fs:List (Str×V),(bT f v fs).length<=fs.length+1
 |[]=>by simp [bT]
 |(k,x)::r=>by
  have ih:=gX f v r
  rw [show bT f v ((k,x)::r)=(if k=f then (k,v)::r else (k,x)::bT f v r) from rfl]
  by_cases hk:k=f
  ·rw [if_pos hk,List.length_cons,List.length_cons];omega
  ·rw [if_neg hk,List.length_cons,List.length_cons];omega
theorem bX.some_of {v:V} {o:Option Value} (r:bX (some v) o):∃u,o=some u∧RelV v u:=by
 cases o with
 |none=>exact (show False from r).elim
 |some u=>exact ⟨u,rfl,r⟩
theorem bX.none_of {o:Option Value} (r:bX none o):o=none:=by
 cases o with
 |none=>rfl
 |some u=>exact (show False from r).elim
theorem nZ {v:V} {u:Value} (r:RelV v u):PySem.W.handedIn u=true:=by
 cases v with
 |non=>cases (show u=Value.none from r);rfl
 |bl b=>cases (show u=Value.bool b from r);rfl
 |int i=>obtain ⟨t,e⟩:=(show ∃t,u=Value.int i t from r);cases e;rfl
 |str x=>obtain ⟨t,e⟩:=(show ∃t,u=Value.str x t from r);cases e;rfl
 |byt b=>obtain ⟨t,e⟩:=(show ∃t,u=Value.bytes b t from r);cases e;rfl
 |flt b=>obtain ⟨t,e⟩:=(show ∃t,u=Value.float b t from r);cases e;rfl
 |ref a=>cases (show u=Value.ref a from r);rfl
 |ty n=>cases (show u=Value.type n from r);rfl
section
variable {P:Program} {w:World} {H H':Hp} {h h':Heap} {a C dx:Addr} {fs fs':List (Str×V)}
theorem gR (hok:HOk P w H h) (e:H a=some (.ins C dx fs)):∃mA,hW h a dx C mA∧(∀f,bX (fs.lookup f) (mA f))∧PySem.Within mA (fs.map (·.1))∧fs.length<=1000∧H dx=some (.own a):=by
 obtain ⟨d,z,ne,ob,mA,n,r,q⟩:=(show aP P w H h a (.ins C dx fs) from hok a _ e)
 exact ⟨mA,⟨ob,n,ne⟩,r,q,z,d⟩
end
structure Cls (K:PySem.W.Frag) (C:Addr):Prop where
 pg:PySem.W.plainGet K C Str.empty=true
 hd:PySem.W.hasDictIn K C=true
 po:PySem.W.plainOver K C=true
 sa:PySem.W.findIn K (.ref C) "__setattr__"=some (some (.builtin "object.__setattr__"))
theorem Cls.get {K:PySem.W.Frag} {C:Addr} (c:Cls K C) (f:Str):PySem.W.plainGet K C f=true:=c.pg
noncomputable def cz (K:PySem.W.Frag) (C:Addr) (f:Str):Prop:=PySem.W.findIn K (.ref C) f=some none
theorem cz.zq {K:PySem.W.Frag} {C:Addr} {f:Str} (n:cz K C f):PySem.W.takerIn K C f=some none:=by
 unfold PySem.W.takerIn
 rw [show PySem.W.findIn K (.ref C) f=some none from n]
 rfl
structure Meth (K:PySem.W.Frag) (C:Addr) (m:Str) (f:Addr):Prop where
 at_:PySem.W.findIn K (.ref C) m=some (some (.ref f))
 fn:PySem.W.isFn K (.ref f)=true
 kp:PySem.W.keepIn K (.ref f)=true
section
variable {X:Cx} {pins:List (Addr×Obj)} {σ:St} {H:Hp} {s:Shared} {a C dx:Addr} {fs:List (Str×V)} {f:Str} {v:V} {A:Around} {E:Value->Shared->Prop}
theorem nU {b:Bool} {Q:Value->Shared->Prop} (I:Inv X pins σ H s) (e:H a=some (.ins C dx fs)) (c:Cls X.K C) (n:cz X.K C f) (l:fs.lookup f=some v)
  (h:∀u s',Inv X pins σ H s'->RelV v u->Q u s'):wpAny (model X.prog X.w) A (getAttr (.ref a) f b) Q E s:=by
 obtain ⟨mA,O,r,_,_,_⟩:=gR I.hok e
 obtain ⟨u,hu,ru⟩:=bX.some_of (v:=v) (o:=mA f) (by rw [←l];exact r f)
 exact get_map I.kIn O (c.get f) c.hd n hu (nZ ru) (h u _ (I.tok _) ru)
theorem ja {m:Str} {g:Addr} {pl:Sem Bool} {Q:Value×List Value->Shared->Prop} (I:Inv X pins σ H s) (e:H a=some (.ins C dx fs)) (c:Cls X.K C) (k:Meth X.K C m g) (l:fs.lookup m=none)
  (h:Q (.ref g,[.ref a]) s):wpAny (model X.prog X.w) A (getMethod (.ref a) m pl) Q E s:=by
 obtain ⟨mA,O,r,_,_,_⟩:=gR I.hok e
 have hn:mA m=none:=bX.none_of (by rw [←l];exact r m)
 exact rN I.kIn O (c.get m) k.at_ k.fn hn h
theorem mW {y:V} {u:Value} {Q:Unit->Shared->Prop} (I:Inv X pins σ H s) (e:H a=some (.ins C dx fs)) (c:Cls X.K C) (n:cz X.K C f) (hl:fs.length<1000) (ry:RelV y u)
  (h:∀s',Inv X pins σ (upd H a (.ins C dx (bT f y fs))) s'->Q () s'):wpAny (model X.prog X.w) A (setAttr (.ref a) f u) Q E s:=by
 obtain ⟨mA,O,r,wi,_,ho⟩:=gR I.hok e
 have hz:(fs.map (·.1)).length<=sizeLine:=by rw [List.length_map,sizeLine_eq];omega
 refine vu I.kIn O c.sa c.po n.zq c.hd wi hz fun h' O' sb=>h _ ?_
 have hd:∃o,h'.get? dx=some o:=let ⟨o,_,_,e',_⟩:=O'.ns;⟨o,e'⟩
 refine I.write (x:=a) (e:=dx) (by rw [e];exact True.intro) (.inr ho) (fun b q hb z=>(sb.2 b hb).trans z) hd ?_
 refine ⟨by rw [aj O.ne];exact ho,?_,O.ne,O'.obj,_,O'.ns,fun g=>?_,fun g hg=>?_⟩
 ·have:=gX f y fs;omega
 ·show bX ((bT f y fs).lookup g) (if g=f then some u else mA g)
  rw [gZ]
  by_cases q:g=f
  ·rw [if_pos q,if_pos q];exact ry
  ·rw [if_neg q,if_neg q];exact r g
 ·by_cases q:g=f
  ·rw [q];exact (gJ f y fs).1
  ·refine (gJ f y fs).2 g (wi g fun z=>hg ?_)
   show (if g=f then some u else mA g)=none
   rw [if_neg q];exact z
theorem Inv.made (I:Inv X pins σ H s):Inv X pins σ (upd (upd H s.heap.objs.size (.own (s.heap.objs.size+1))) (s.heap.objs.size+1) (.ins C s.heap.objs.size []))
  {s with heap:=(s.heap.push PySem.W.emptyDict).push (PySem.W.instObj C s.heap.objs.size)}:=by
 have e1:(s.heap.push PySem.W.emptyDict).get? s.heap.objs.size=some PySem.W.emptyDict:=Heap.get?_push_size s.heap rfl
 have e2:((s.heap.push PySem.W.emptyDict).push (PySem.W.instObj C s.heap.objs.size)).get? (s.heap.objs.size+1)=some (PySem.W.instObj C s.heap.objs.size):=by
  have:=Heap.get?_push_size (s.heap.push PySem.W.emptyDict) (o:=PySem.W.instObj C s.heap.objs.size) rfl
  rwa [Heap.size_push] at this
 have e3:(s.heap.push PySem.W.emptyDict).Ns s.heap.objs.size (fun _=>none):=⟨PySem.W.emptyDict,#[],_,e1,rfl,(fun e he=>absurd he (by simp)),fun _=>rfl⟩
 have I1:=I.laid (a:=s.heap.objs.size) (o:=.own (s.heap.objs.size+1)) (h':=s.heap.push PySem.W.emptyDict) (t':=s.toks) (fun b u q=>Heap.get?_push_of_some _ q) (Nat.le_refl _) ⟨_,e1⟩
 refine I1.laid (a:=s.heap.objs.size+1) (o:=.ins C s.heap.objs.size []) (t':=s.toks) (fun b u q=>Heap.get?_push_of_some _ q) (Nat.le_of_eq (Heap.size_push _ _)) ?_
 have ne:s.heap.objs.size≠s.heap.objs.size+1:=Nat.ne_of_lt (Nat.lt_succ_self _)
 refine ⟨by rw [aj ne,aH],Nat.zero_le _,ne,e2,fun _=>none,(Heap.Ns1.of_empty e3).at fun o q=>Heap.get?_push_of_some _ q,fun _=>True.intro,fun y hy=>absurd rfl hy⟩
theorem tx {prog:Program} {w:World} {env:Env} {e:Expr} {f:Str} {pos:Pos} {s:Shared} {Q:Value->Shared->Prop} (hb:attributeBase e f env (eval e env)=eval e env)
  (h:wpAny (model prog w) A (eval e env) (fun o s₁=>wpAny (model prog w) A (getAttr o f true) Q E s₁) E s):wpAny (model prog w) A (eval (.Attribute e f pos) env) Q E s:=
 Attribute_any_ h (by rw [arm_eval_Attribute,hb])
end
noncomputable def Bf (K:PySem.W.Frag) (ta:TE) (f:Str):TE:=fun σ H Q=>ta σ H fun x H1=>∃a C dx fs v,x=.ref a∧H1 a=some (.ins C dx fs)∧Cls K C∧cz K C f∧fs.lookup f=some v∧Q v H1
noncomputable def A3 (K:PySem.W.Frag) (ta tv:TE) (f:Str):TS:=fun D σ H=>tv σ H fun y H1=>ta σ H1 fun x H2=>∃a C dx fs,x=.ref a∧H2 a=some (.ins C dx fs)∧Cls K C∧cz K C f∧fs.length<1000∧
 D.nx σ (upd H2 a (.ins C dx (bT f y fs)))
section
variable {X:Cx} {o e value:Expr} {f:Str} {pos pos' tpos:Pos} {ta tv:TE}
theorem xX (he:PE X e ta) (hb:attributeBase e f X.env (eval e X.env)=eval e X.env):PE X (.Attribute e f pos) (Bf X.K ta f):=by
 intro pins s σ H Q I h
 refine tx hb (thn (he pins s σ H _ I h) fun u s1 ⟨x,H1,I1,rx,a,C,dx,fs,v,ex,ea,c,n,l,q⟩=>?_)
 subst ex
 obtain rfl:u=Value.ref a:=rx
 exact nU I1 ea c n l fun u' s2 I2 ru=>⟨v,H1,I2,ru,q⟩
theorem xV (ha:PE X o ta) (hv:PE X value tv) (hs:swapsWith value (some (.Attribute o f pos')) pos.line X.env=pure false):PS X (.Assign [.Attribute o f pos'] value pos) (A3 X.K ta tv f):=by
 intro pins s σ H D I h
 refine plainObj_wpAny_Assign_Attribute (thn (hv pins s σ H _ I h) fun u s1 ⟨y,H1,I1,ry,q⟩=>thn (ha pins s1 σ H1 _ I1 q) fun ov s2 ⟨x,H2,I2,rx,a,C,dx,fs,ex,ea,c,n,l,q2⟩=>?_) hs
 subst ex
 obtain rfl:ov=Value.ref a:=rx
 exact mW I2 ea c n l ry fun s3 I3=>⟨σ,_,I3,q2⟩
end
end L2
namespace L2
open PySem PySem.Spec PyProof.Rows
structure aI (k:Nat) (A:Around):Prop where
 hd:A.handled=none
 dp:A.depth+3*k+5<recursionLimit
 un:A.units+16*k+200<cLine
theorem aI.mono {j k:Nat} {A:Around} (r:aI k A) (h:j<=k):aI j A:=⟨r.hd,by have:=r.dp;omega,by have:=r.un;omega⟩
theorem aI.deeper {k:Nat} {A:Around} (r:aI (k+1) A) (env:Env):aI k (A.deeper env):=
 ⟨r.hd,by have:=r.dp;show A.depth+1+3*k+5<_;omega,by have:=r.un;show A.units+3+16*k+200<_;omega⟩
theorem nR {A:Around} {C:Addr} {us:List Value} {kw:List (Str×Value)}:(A.under (.builtin "type.__call__" ⟨.ref C::us,kw⟩)).depth=A.depth+1:=by
 first|rfl|simp [Around.under,Code.weight,Code.isCreation,Code.isGuard,Code.isCaller,Code.frames,Code.isFrame,guardIds]
theorem mU {A:Around} {C:Addr} {us:List Value} {kw:List (Str×Value)}:(A.under (.builtin "type.__call__" ⟨.ref C::us,kw⟩)).units=A.units+1:=by
 first|rfl|simp [Around.under,Code.cUnits,Code.frames,Code.isFrame]
theorem aI.make {k:Nat} {A:Around} (r:aI (k+1) A) (C:Addr) (us:List Value) (kw:List (Str×Value)):aI k (A.under (.builtin "type.__call__" ⟨.ref C::us,kw⟩)):=
 ⟨r.hd,by have:=r.dp;rw [nR];omega,by have:=r.un;rw [mU];omega⟩
theorem aI.depth {k:Nat} {A:Around} (r:aI k A):A.depth<recursionLimit:=by have:=r.dp;omega
theorem aI.units {k:Nat} {A:Around} (r:aI k A):A.units+64<cLine:=by have:=r.un;omega
noncomputable def m_:TA:=fun _ H Q=>Q [] H
noncomputable def za (ta:TE) (tr:TA):TA:=fun σ H Q=>ta σ H fun x H1=>tr σ H1 fun xs H2=>Q (x::xs) H2
section
variable {X:Cx} {e:Expr} {es:List Expr} {te:TE} {t:TA} {pos:Pos}
theorem o4:PA X [] m_:=fun _ _ _ _ H Q I h=>Calls.spliced_nil ⟨[],H,I,.nil,h⟩
theorem mI (ha:PE X e te) (hr:PA X es t) (hs:starEach (e::es) X.env=(false,eval e X.env)::starEach es X.env:=by rfl):PA X (e::es) (za te t):=by
 intro pos pins s σ H Q I h
 rw [hs]
 show wpAny _ _ (spliced ((false,eval e X.env)::backTo pos (starEach es X.env))) _ _ s
 refine Calls.spliced_cons (thn (ha pins s σ H _ I h) fun u s1 ⟨x,H1,I1,r1,q1⟩=>?_)
 exact thn (hr pos pins s1 σ H1 _ I1 q1) fun us s2 ⟨xs,H2,I2,r2,q2⟩=>⟨x::xs,H2,I2,.cons r1 r2,q2⟩
noncomputable def Ay (t:TA):TE:=fun σ H Q=>t σ H fun xs H1=>xs.length<=sizeLine∧∀p,H1 p=none->Q (.ref p) (upd H1 p (.tup xs))
noncomputable def Bi (t:TA):TE:=fun σ H Q=>t σ H fun xs H1=>xs.length<=sizeLine∧∀p,H1 p=none->Q (.ref p) (upd H1 p (.lst xs))
theorem yN {x1} (h:PA X es t):PE X (.Tuple es x1 pos) (Ay t):=by
 intro pins s σ H Q I hq
 refine wpAny_Tuple_spliced (thn (h pos pins s σ H _ I hq) fun us s1 ⟨xs,H1,I1,r,z,q⟩=>⟨by rw [←r.length];exact z,?_⟩)
 have hf:H1 s1.heap.objs.size=none:=I1.hok.fresh (Nat.le_refl _)
 refine ⟨.ref s1.heap.objs.size,upd H1 s1.heap.objs.size (.tup xs),I1.laid (t':=s1.toks) (fun b u e=>Heap.get?_push_of_some _ e) (Nat.le_refl _) ?_,rfl,q _ hf⟩
 exact ⟨z,us,r,⟨_,Heap.get?_push_size _ rfl,rfl,_,rfl⟩⟩
theorem qi (h:PA X es t):PE X (.List es pos) (Bi t):=by
 intro pins s σ H Q I hq
 refine wpAny_List_spliced (thn (h pos pins s σ H _ I hq) fun us s1 ⟨xs,H1,I1,r,z,q⟩=>⟨by rw [←r.length];exact z,?_⟩)
 have hf:H1 s1.heap.objs.size=none:=I1.hok.fresh (Nat.le_refl _)
 refine ⟨.ref s1.heap.objs.size,upd H1 s1.heap.objs.size (.lst xs),I1.laid (t':=s1.toks) (fun b u e=>Heap.get?_push_of_some _ e) (Nat.le_refl _) ?_,rfl,q _ hf⟩
 exact ⟨z,us,0,r,Heap.get?_push_size _ rfl⟩
end
noncomputable abbrev Sp:=List V->Hp->VK->XK->Prop
noncomputable abbrev CXT:=List Env->Hp->Shared->XK->Value->Shared->Prop
structure ij (P:Program) (w:World) (K:PySem.W.Frag) (mg:Str->Option Value) (base:Heap) (A:Around) (outer:List Env) (s:Shared) (H:Hp):Prop where
 frames:A.frames=some outer
 mod:Mod K mg base
 bs:∀b o,base.get? b=some o->s.heap.get? b=some o∧H b=none
 bsz:base.objs.size<=s.heap.objs.size
 dq:s.heap.FunFrames base outer
 frf:∀b∈frs outer,H b=none
 hok:HOk P w H s.heap
 bare:AllBare s.gens
noncomputable def CE (outer:List Env) (P:Program) (w:World) (H:Hp) (s:Shared) (Q:VK) (u:Value) (s':Shared):Prop:=
 ∃v H',s'.os=s.os∧AllBare s'.gens∧Un (frs outer) [] H H' s.heap s'.heap∧HOk P w H' s'.heap∧RelV v u∧Q v H'
noncomputable def CR (CX:CXT) (outer:List Env) (P:Program) (w:World) (H:Hp) (s:Shared) (Q:VK) (E:XK) (r:Result) (s':Shared):Prop:=
 match r with
 |.ok (.ret u)=>CE outer P w H s Q u s'
 |.ok _=>False
 |.error e=>CX outer H s E e s'
structure aC (P:Program) (w:World) (K:PySem.W.Frag) (mg:Str->Option Value) (base:Heap) (CX:CXT) (k:Nat) (f:Addr) (fd:FuncData) (ps:List Str) (sp:Sp):Prop where
 len:∀vs H Q E,sp vs H Q E->vs.length=ps.length
 run:∀(A:Around) (outer:List Env) (s:Shared) (H:Hp) (args:Args) (us:List Value) (vs:List V) (Q:VK) (E:XK),aI k A->ij P w K mg base A outer s H->BindsTo s fd args (ps.zip us)->Vals vs us->sp vs H Q E->
  codeAny (model P w) A (.call (.ref f) args) (CR CX outer P w H s Q E) s
theorem aC.imp {P:Program} {w:World} {K:PySem.W.Frag} {mg:Str->Option Value} {base:Heap} {CX:CXT} {k:Nat} {f:Addr} {fd:FuncData} {ps:List Str} {sp sp':Sp} (F:aC P w K mg base CX k f fd ps sp)
  (h:∀vs H Q E,sp' vs H Q E->sp vs H Q E):aC P w K mg base CX k f fd ps sp':=
 ⟨fun vs H Q E q=>F.len vs H Q E (h _ _ _ _ q),fun A outer s H args us vs Q E hr he hb hv hs=>F.run A outer s H args us vs Q E hr he hb hv (h _ _ _ _ hs)⟩
theorem ij.make {P:Program} {w:World} {K:PySem.W.Frag} {mg:Str->Option Value} {base:Heap} {A:Around} {outer:List Env} {s:Shared} {H:Hp} (e:ij P w K mg base A outer s H) (C:Addr) (us:List Value) (kw:List (Str×Value)):
  ij P w K mg base (A.under (.builtin "type.__call__" ⟨.ref C::us,kw⟩)) outer s H:=⟨by first|exact e.frames|(simpa [Around.under,Code.envs,Code.isFrame,pushEnvs] using e.frames),e.mod,e.bs,e.bsz,e.dq,e.frf,e.hok,e.bare⟩
section
variable {X:Cx} {pins:List (Addr×Obj)} {σ:St} {H:Hp} {s s':Shared}
theorem Inv.yf (I:Inv X pins σ H s):ij X.prog X.w X.K X.mg X.base X.A X.stack s H:=
 ⟨I.ok.frames,I.ok.mod,I.bs,Nat.le_trans I.ok.bsz I.sz,I.stack,I.l5,I.hok,I.bare⟩
theorem Inv.after {Q:VK} {u:Value} (I:Inv X pins σ H s) (h:CE X.stack X.prog X.w H s Q u s'):EP X pins σ Q u s':=by
 obtain ⟨v,H',os,bare,un,hok,r,q⟩:=h
 obtain ⟨hh,g,d,t,os'⟩:=s'
 obtain rfl:os'=s.os:=os
 exact ⟨v,H',I.call (h':=hh) (g':=g) (d':=d) (t':=t) (ch:=[]) un hok bare (fun b z=>absurd z (by simp)),r,q⟩
end
noncomputable def y_ (sp:Sp) (dvs:List V) (E:XK) (t:TA):TE:=fun σ H Q=>t σ H fun vs H1=>sp (vs++dvs) H1 Q E
noncomputable def sI (C:Addr) (m:Str) (sp:Sp) (dvs:List V) (E:XK) (ta:TE) (t:TA):TE:=fun σ H Q=>ta σ H fun x H1=>∃a dx fs,x=.ref a∧H1 a=some (.ins C dx fs)∧fs.lookup m=none∧
 t σ H1 fun vs H2=>sp (x::(vs++dvs)) H2 Q E
noncomputable def zg (C:Addr) (sp:Sp) (dvs:List V) (E:XK) (t:TA):TE:=fun σ H Q=>t σ H fun vs H1=>∀x dx,H1 x=none->H1 dx=none->dx≠x->
 sp (.ref x::(vs++dvs)) (upd (upd H1 dx (.own x)) x (.ins C dx [])) (fun v H2=>v=.non∧Q (.ref x) H2) E
noncomputable def Binds (K:PySem.W.Frag) (fd:FuncData) (ps:List Str) (ds:List Value):Prop:=
 ∀(s:Shared) (us:List Value),K.In s.heap->(us++ds).length=ps.length->BindsTo s fd ⟨us,[]⟩ (ps.zip (us++ds))
theorem Binds.all {K:PySem.W.Frag} {fd:FuncData} {ps:List Str} (h:∀us:List Value,us.length=ps.length->bindArgs fd ⟨us,[]⟩=pure (ps.zip us)):Binds K fd ps []:=fun s us _ hl=>by
 rw [List.append_nil] at hl ⊢
 exact .of_eq (h us hl)
noncomputable def Passes (CX:CXT) (X:Cx) (E:XK):Prop:=∀(pins:List (Addr×Obj)) (σ:St) (H:Hp) (s:Shared) (e:Value) (s':Shared),Inv X pins σ H s->CX X.stack H s E e s'->X.xe e s'
section
variable {X:Cx} {CX:CXT} {k:Nat} {f C:Addr} {fd:FuncData} {ps:List Str} {sp:Sp} {dvs:List V} {ds:List Value} {E:XK} {x m:Str} {p pos apos:Pos} {e o:Expr} {es:List Expr} {ta:TE} {t:TA}
theorem ll {pins:List (Addr×Obj)} {σ:St} {H:Hp} {s:Shared} {Q:VK} {us:List Value} {vs:List V} (F:aC X.prog X.w X.K X.mg X.base CX k f fd ps sp) (hr:aI k X.A) (hb:Binds X.K fd ps ds) (hd:Vals dvs ds) (hx:Passes CX X E)
  (I:Inv X pins σ H s) (r:Vals vs us) (h:sp (vs++dvs) H Q E):wpAny (model X.prog X.w) X.A (call (.ref f) us) (EP X pins σ Q) X.xe s:=by
 have r2:Vals (vs++dvs) (us++ds):=r.append hd
 have hl:(us++ds).length=ps.length:=by rw [←r2.length];exact F.len _ _ _ _ h
 refine wpAny_call (codeAny_mono (F.run X.A X.stack s H ⟨us,[]⟩ (us++ds) (vs++dvs) Q E hr I.yf (hb s us I.kIn hl) r2 h) fun r s' hq=>?_)
 cases r with
 |error e=>exact hx pins σ H s e s' I hq
 |ok fl=>
  cases fl with
  |ret u=>exact I.after hq
  |next=>exact False.elim hq
  |brk=>exact False.elim hq
  |cont=>exact False.elim hq
theorem mv (F:aC X.prog X.w X.K X.mg X.base CX k f fd ps sp) (hr:aI k X.A) (hg:Gl X x) (hm:X.mg x=some (.ref f)) (hk:PySem.W.keepIn X.K (.ref f)=true) (hb:Binds X.K fd ps ds) (hd:Vals dvs ds) (hx:Passes CX X E)
  (ha:PA X (e::es) t) (hdb:(x==("__debug__":Str))=false:=by decide) (he:starEach (e::es) X.env=(false,eval e X.env)::starEach es X.env:=by rfl) (hpl:(backTo pos (starEach es X.env)).any (·.1)=false:=by rfl):
  PE X (.Call (.Name x p) (e::es) [] pos) (y_ sp dvs E t):=by
 intro pins s σ H Q I h
 refine wpAny_Call_Name_kw (jI I hg hm ?_ hdb)
 refine PySem.W.callWith_K (h₀:=X.base) I.ok.mod.kin hk (thn (ha pos pins s σ H _ I h) fun us s1 ⟨vs,H1,I1,r,q⟩=>⟨I1.kIn,?_⟩) he hpl
 exact ll F hr hb hd hx I1 r q
theorem mH {pl:Sem Bool} (he:PE X o ta) (c:Cls X.K C) (hm:Meth X.K C m f) (F:aC X.prog X.w X.K X.mg X.base CX k f fd ps sp) (hr:aI k X.A) (hb:Binds X.K fd ps ds) (hd:Vals dvs ds) (hx:Passes CX X E) (ha:PA X (e::es) t)
  (hst:starEach (e::es) X.env=(false,eval e X.env)::starEach es X.env:=by rfl) (hpl:(backTo pos (starEach es X.env)).any (·.1)=false:=by rfl)
  (ht:eval (.Call (.Attribute o m apos) (e::es) [] pos) X.env=(do
   let ov←eval o X.env
   standAt apos.atName
   let (f,first)←holding [ov] (getMethod ov m pl)
   callWith pos f first (backTo pos (starEach (e::es) X.env)) (backToKw pos (keywordEach [] X.env))):=by rfl):
  PE X (.Call (.Attribute o m apos) (e::es) [] pos) (sI C m sp dvs E ta t):=by
 intro pins s σ H Q I h
 refine PySem.W.methodCall_KW (pl:=pl) (thn (he pins s σ H _ I h) fun u s1 ⟨x,H1,I1,rx,a,dx,fs,ex,ea,l,q⟩=>?_) ht
 subst ex
 obtain rfl:u=Value.ref a:=rx
 refine ja I1 ea c hm l ?_
 refine PySem.W.callWith_K (first:=[.ref a]) (h₀:=X.base) I.ok.mod.kin hm.kp (thn (ha pos pins s1 σ H1 _ I1 q) fun us s2 ⟨vs,H2,I2,r,q2⟩=>⟨I2.kIn,?_⟩) hst hpl
 exact ll (us:=.ref a::us) (vs:=.ref a::vs) F hr hb hd hx I2 (.cons rfl r) q2
theorem kO {pl:Sem Bool} (he:PE X o ta) (c:Cls X.K C) (hm:Meth X.K C m f) (F:aC X.prog X.w X.K X.mg X.base CX k f fd ps sp) (hr:aI k X.A) (hb:Binds X.K fd ps ds) (hd:Vals dvs ds) (hx:Passes CX X E)
  (ht:eval (.Call (.Attribute o m apos) [] [] pos) X.env=(do
   let ov←eval o X.env
   standAt apos.atName
   let (f,first)←holding [ov] (getMethod ov m pl)
   callWith pos f first (backTo pos (starEach [] X.env)) (backToKw pos (keywordEach [] X.env))):=by rfl):
  PE X (.Call (.Attribute o m apos) [] [] pos) (sI C m sp dvs E ta m_):=by
 intro pins s σ H Q I h
 refine PySem.W.methodCall_KW (pl:=pl) (thn (he pins s σ H _ I h) fun u s1 ⟨x,H1,I1,rx,a,dx,fs,ex,ea,l,q⟩=>?_) ht
 subst ex
 obtain rfl:u=Value.ref a:=rx
 refine ja I1 ea c hm l ?_
 exact PySem.W.callWith_K0 (first:=[.ref a]) I1.kIn hm.kp (ll (us:=[.ref a]) (vs:=[.ref a]) F hr hb hd hx I1 (.cons rfl .nil) q)
structure Mk (K:PySem.W.Frag) (C f:Addr):Prop where
 makes:PySem.W.makesIn K C=true
 init:PySem.W.findIn K (.ref C) "__init__"=some (some (.ref f))
 fn:PySem.W.isFn K (.ref f)=true
 kp:PySem.W.keepIn K (.ref C)=true
theorem rL {pins:List (Addr×Obj)} {σ:St} {H:Hp} {s:Shared} {Q:VK} {us:List Value} {vs:List V} (M:Mk X.K C f) (F:aC X.prog X.w X.K X.mg X.base CX k f fd ps sp) (hr:aI (k+1) X.A) (hb:Binds X.K fd ps ds) (hd:Vals dvs ds)
  (hx:Passes CX X E) (I:Inv X pins σ H s) (r:Vals vs us)
  (h:∀x dx,H x=none->H dx=none->dx≠x->sp (.ref x::(vs++dvs)) (upd (upd H dx (.own x)) x (.ins C dx [])) (fun v H2=>v=.non∧Q (.ref x) H2) E):
  wpAny (model X.prog X.w) X.A (call (.ref C) us) (EP X pins σ Q) X.xe s:=by
 have hq:=h (s.heap.objs.size+1) s.heap.objs.size (I.hok.fresh (Nat.le_succ _)) (I.hok.fresh (Nat.le_refl _)) (Nat.ne_of_lt (Nat.lt_succ_self _))
 have I2:=Inv.made (C:=C) I
 have r2:Vals (V.ref (s.heap.objs.size+1)::(vs++dvs)) (Value.ref (s.heap.objs.size+1)::(us++ds)):=.cons rfl (r.append hd)
 have hl:(Value.ref (s.heap.objs.size+1)::us++ds).length=ps.length:=by
  have e:=r2.length
  rw [F.len _ _ _ _ hq] at e
  exact e.symm
 refine wpAny_call (qW (f:=f) I.kIn M.makes M.init (beq_iff_eq.mp M.fn) (codeAny_mono (F.run _ X.stack _ _ ⟨Value.ref (s.heap.objs.size+1)::us,[]⟩ (Value.ref (s.heap.objs.size+1)::(us++ds)) _ _ E (hr.make C us [])
  (I2.yf.make C us []) (hb _ (Value.ref (s.heap.objs.size+1)::us) I2.kIn hl) r2 hq) fun r s' hq'=>?_))
 cases r with
 |error e=>exact hx pins σ _ _ e s' I2 hq'
 |ok fl=>
  cases fl with
  |ret u=>
   obtain ⟨v,H',I3,rv,ev,q3⟩:=I2.after hq'
   subst ev
   exact ⟨rv,⟨V.ref (s.heap.objs.size+1),H',I3,rfl,q3⟩⟩
  |next=>exact False.elim hq'
  |brk=>exact False.elim hq'
  |cont=>exact False.elim hq'
theorem uv (M:Mk X.K C f) (F:aC X.prog X.w X.K X.mg X.base CX k f fd ps sp) (hr:aI (k+1) X.A) (hg:Gl X x) (hm:X.mg x=some (.ref C)) (hb:Binds X.K fd ps ds) (hd:Vals dvs ds) (hx:Passes CX X E)
  (ha:PA X (e::es) t) (hdb:(x==("__debug__":Str))=false:=by decide) (he:starEach (e::es) X.env=(false,eval e X.env)::starEach es X.env:=by rfl) (hpl:(backTo pos (starEach es X.env)).any (·.1)=false:=by rfl):
  PE X (.Call (.Name x p) (e::es) [] pos) (zg C sp dvs E t):=by
 intro pins s σ H Q I h
 refine wpAny_Call_Name_kw (jI I hg hm ?_ hdb)
 refine PySem.W.callWith_K (h₀:=X.base) I.ok.mod.kin M.kp (thn (ha pos pins s σ H _ I h) fun us s1 ⟨vs,H1,I1,r,q⟩=>⟨I1.kIn,?_⟩) he hpl
 exact rL M F hr hb hd hx I1 r q
end
noncomputable def PK (X:Cx) (kws:List Keyword) (t:TA):Prop:=
 ∀(pos:Pos) (pins:List (Addr×Obj)) (s:Shared) (σ:St) (H:Hp) (Q:List V->Hp->Prop),Inv X pins σ H s->t σ H Q->wpAny (model X.prog X.w) X.A (evalAll ((backToKw pos (keywordEach kws X.env)).map (·.2))) (AP X pins σ Q) X.xe s
structure bJ (N P:List Str) (sc:Scope):Prop where
 kind:sc.kind=.function
 co:sc.isCoroutine=false
 gen:sc.isGenerator=false
 nd:N.Nodup
 pre:N.take P.length=P
 par:∀x∈P,sc.names.lookup x=some .local∨sc.names.lookup x=some .cell
 xE:∀y∈sc.names,y.2≠.free
theorem jQ {kindOf:Str->Option NameKind} {x:Str}:∀{binds:List (Str×Value)} {m:Str->Option Value},(∀v,(x,v)∉binds)->bindL kindOf binds m x=m x
 |[],_,_=>rfl
 |(n,v)::r,m,h=>by
  unfold bindL
  rw [jQ fun w hw=>h w (List.mem_cons_of_mem _ hw)]
  split
  ·have:x≠n:=by rintro rfl;exact h v List.mem_cons_self
   simp [this]
  ·rfl
theorem kh {kindOf:Str->Option NameKind} {x:Str}:∀{binds:List (Str×Value)} {m:Str->Option Value},(∀v,(x,v)∉binds)->bindC kindOf binds m x=m x
 |[],_,_=>rfl
 |(n,v)::r,m,h=>by
  unfold bindC
  rw [kh fun w hw=>h w (List.mem_cons_of_mem _ hw)]
  split
  ·rfl
  ·have:x≠n:=by rintro rfl;exact h v List.mem_cons_self
   simp [this]
theorem jT {kindOf:Str->Option NameKind} {x:Str} {v:Value}:∀{P:List Str} {vs:List Value} {i:Nat} {m:Str->Option Value},P.Nodup->P[i]?=some x->vs[i]?=some v->kindOf x=some .local->
  bindL kindOf (P.zip vs) m x=some v
 |[],_,_,_,_,h,_,_=>by simp at h
 |_::_,[],_,_,_,_,h,_=>by simp at h
 |p::P,w::vs,0,m,nd,h1,h2,hk=>by
  simp at h1 h2;subst h1;subst h2
  show bindL kindOf ((p,w)::P.zip vs) m p=_
  unfold bindL
  rw [jQ fun v hv=>(List.nodup_cons.mp nd).1 (List.of_mem_zip hv).1,if_pos hk]
  simp
 |p::P,w::vs,i+1,m,nd,h1,h2,hk=>by
  show bindL kindOf ((p,w)::P.zip vs) m x=_
  unfold bindL
  exact jT (i:=i) (List.nodup_cons.mp nd).2 (by simpa using h1) (by simpa using h2) hk
theorem j3 {kindOf:Str->Option NameKind} {x:Str} {v:Value}:∀{P:List Str} {vs:List Value} {i:Nat} {m:Str->Option Value},P.Nodup->P[i]?=some x->vs[i]?=some v->kindOf x≠some .local->
  bindC kindOf (P.zip vs) m x=some v
 |[],_,_,_,_,h,_,_=>by simp at h
 |_::_,[],_,_,_,_,h,_=>by simp at h
 |p::P,w::vs,0,m,nd,h1,h2,hk=>by
  simp at h1 h2;subst h1;subst h2
  show bindC kindOf ((p,w)::P.zip vs) m p=_
  unfold bindC
  rw [kh fun v hv=>(List.nodup_cons.mp nd).1 (List.of_mem_zip hv).1,if_neg hk]
  simp
 |p::P,w::vs,i+1,m,nd,h1,h2,hk=>by
  show bindC kindOf ((p,w)::P.zip vs) m x=_
  unfold bindC
  exact j3 (i:=i) (List.nodup_cons.mp nd).2 (by simpa using h1) (by simpa using h2) hk
noncomputable def start (N:List Str) (vs:List V):St:=vs.map some++List.replicate (N.length - vs.length) none
noncomputable def dU (CX:CXT) (P:Program) (w:World) (K:PySem.W.Frag) (mg:Str->Option Value) (base:Heap) (N:List Str) (qual:Str) (scope:Scope) (f:Addr) (cd:Value) (A:Around) (outer:List Env) (s:Shared) (H:Hp) (E:XK):Cx where
 prog:=P
 w:=w
 K:=K
 mg:=mg
 base:=base
 A:=A.deeper (envOfC qual scope s.heap.objs.size f cd)
 N:=N
 s₀:=s
 H₀:=H
 env:=envOfC qual scope s.heap.objs.size f cd
 outer:=outer
 stack:=envOfC qual scope s.heap.objs.size f cd::outer
 ex:=[]
 calm:=true
 fn:=fun _=>true
 pn:=[]
 xe:=fun e s'=>wpAny (model P w) (A.deeper (envOfC qual scope s.heap.objs.size f cd)) (leaving (envOfC qual scope s.heap.objs.size f cd) e) (fun _ s''=>CX outer H s E e s'') (fun e' s''=>CX outer H s E e' s'') s'
theorem kK {sc:Scope} {n:Nat} {x:Str} (h:sc.names.lookup x=some .cell):∃c,(cellsFrom n sc.names []).lookup x=some c:=by
 have q:=PySem.W.cellsFrom_some sc.names n [] (.inl h)
 exact Option.isSome_iff_exists.mp q
theorem pT {CX:CXT} {P:Program} {w:World} {K:PySem.W.Frag} {mg:Str->Option Value} {base:Heap} {N ps:List Str} {qual:Str} {scope:Scope} {f:Addr} {cd:Value} {A:Around} {outer:List Env} {s s1:Shared} {H:Hp} {E:XK} {us:List Value} {vs:List V}
  (S:bJ N ps scope) (hd:A.handled=none) (e0:ij P w K mg base A outer s H) (hl:vs.length=ps.length) (r:Vals vs us)
  (x:InCallC s s.heap.objs.size (bindL (envOfC qual scope s.heap.objs.size f cd).kindOf (ps.zip us) fun _=>none) (cellsFrom (s.heap.objs.size+1) scope.names []) (bindC (envOfC qual scope s.heap.objs.size f cd).kindOf (ps.zip us) fun _=>none) s1):
  Inv (dU CX P w K mg base N qual scope f cd A outer s H E) [] (start N vs) H s1:=by
 have hpl:ps.length<=N.length:=by have:=congrArg List.length S.pre;rw [List.length_take] at this;omega
 obtain ⟨h1,tk,rfl,hk⟩:=x.done
 have noA:∀b:Addr,b∉(dU CX P w K mg base N qual scope f cd A outer s H E).ex:=fun b z=>absurd (show b∈([]:List Addr) from z) (by simp)
 refine ⟨⟨e0.mod,S.kind,rfl,rfl,Nat.le_refl _,fun y z c h1 h2=>?_,fun y hy=>?_,fun y c _ h=>?_,fun _=>hd,Around.frames_deeper e0.frames,.inr ⟨rfl,rfl⟩,fun b z=>absurd z (noA b),e0.bs,e0.bsz,fun b _ _=>noA b,fun b z=>absurd z (noA b),e0.dq,e0.frf⟩,
  rfl,e0.bare,Un.kept hk,⟨_,x.toInCall.ns,fun i y v h1 h2 h3=>?_⟩,fun y c h=>⟨_,x.cell y c h⟩,e0.hok.fresh (Nat.le_refl _),fun y c h=>?_,fun p hp=>absurd (show p∈([]:List (Addr×Obj)) from hp) (by simp),e0.hok.kept hk,?_⟩
 ·exact name_of_addr x.apart (PySem.mem_of_lookup h1) (PySem.mem_of_lookup h2)
 ·have hy:scope.names.lookup y=some .cell∨scope.names.lookup y=some .free:=hy
  rcases hy with hy|hy
  ·exact kK hy
  ·exact absurd rfl (S.xE _ (PySem.mem_of_lookup hy))
 ·exact Nat.le_of_lt (x.above y c (PySem.mem_of_lookup h))
 ·have hi:i<vs.length:=by
   unfold start at h2
   by_cases hi:i<vs.length
   ·exact hi
   ·rw [List.getElem?_append_right (by simpa using hi)] at h2
    rw [List.getElem?_replicate] at h2
    split at h2<;>cases h2
  have ha:vs[i]?=some v:=by
   unfold start at h2
   rw [List.getElem?_append_left (by simpa using hi),List.getElem?_map] at h2
   cases e:vs[i]? with
   |none=>rw [e] at h2;cases h2
   |some a=>rw [e] at h2;cases h2;rfl
  obtain ⟨u,hu,rv⟩:=r.get ha
  have hp:ps[i]?=some y:=by
   rw [←S.pre,List.getElem?_take_of_lt (by omega)];exact h1
  have ndP:ps.Nodup:=by rw [←S.pre];exact S.nd.sublist (List.take_sublist _ _)
  refine ⟨u,rv,?_⟩
  rcases S.par y (List.mem_of_getElem? hp) with k|k
  ·exact .inl ⟨k,jT ndP hp hu k⟩
  ·obtain ⟨c,e⟩:=kK (n:=s.heap.objs.size+1) k
   refine .inr ⟨.inl k,c,e,?_⟩
   have q:=x.cell y c e
   rw [j3 ndP hp hu (by show scope.names.lookup y≠_;rw [k];decide)] at q
   exact q
 ·exact e0.hok.fresh (Nat.le_of_lt (x.above y c (PySem.mem_of_lookup h)))
 ·unfold start
  show _=N.length
  rw [List.length_append,List.length_map,List.length_replicate]
  omega
theorem An {CX:CXT} {P:Program} {w:World} {K:PySem.W.Frag} {mg:Str->Option Value} {base:Heap} {k:Nat} {f:Addr} {name qual:Str} {params:Arguments} {body:List Stmt} {scope:Scope} {dV kV doc pm cdv ct oc:Value} {an od:Option Addr}
  {osl:Array (Option Value)} {N ps:List Str} {sp:Sp} (lk:K.lookup f=some ⟨oc,od,.func (PySem.W.fnOf name qual params body scope dV kV doc pm an cdv ct),osl⟩) (hcd:PySem.W.codeIn K cdv qual=true) (S:bJ N ps scope)
  (len:∀vs H Q E,sp vs H Q E->vs.length=ps.length)
  (hbody:∀(A:Around) (outer:List Env) (s:Shared) (H:Hp) (vs:List V) (Q:VK) (E:XK),aI k (A.deeper (envOfC qual scope s.heap.objs.size f cdv))->sp vs H Q E->
   ∃t,PSs (dU CX P w K mg base N qual scope f cdv A outer s H E) body t∧t {nx:=fun _ H'=>Q .non H',rt:=Q} (start N vs) H):
  aC P w K mg base CX (k+1) f (PySem.W.fnOf name qual params body scope dV kV doc pm an cdv ct) ps sp:=by
 refine ⟨len,fun A outer s H args us vs Q E hr e0 hb r hsp=>?_⟩
 have hl:=len _ _ _ _ hsp
 have KX:K.In s.heap:=e0.mod.kin.keeps fun b o e=>(e0.bs b o e).1
 have lim:s.heap.NoLimit:=e0.mod.nolimit.keeps fun b o e=>(e0.bs b o e).1
 have hkind:∀y∈ps.zip us,scope.names.lookup y.1=some .local∨(scope.names.lookup y.1=some .cell∧((cellsFrom (s.heap.objs.size+1) scope.names []).lookup y.1).isSome=true):=fun ⟨n,v⟩ hy=>by
  rcases S.par n (List.of_mem_zip hy).1 with q|q
  ·exact .inl q
  ·exact .inr ⟨q,PySem.W.cellsFrom_some _ _ _ (.inl q)⟩
 refine codeAny_call_function hr.depth (KX _ _ lk) rfl S.co S.gen rfl (PySem.W.codeRec_of KX hcd) (hb _ _ _ _ ?_)
 refine wpAny_newFunctionEnv_cells S.kind hkind fun env he s1 x=>?_
 subst he
 refine ⟨lim.keeps x.toInCall.keep,codeAny_func ?_⟩
 obtain ⟨t,ht,hq⟩:=hbody A outer s H vs Q E (hr.deeper _) hsp
 have I:Inv (dU CX P w K mg base N qual scope f cdv A outer s H E) [] (start N vs) H s1:=pT S hr.hd e0 hl r x
 refine wpAny_mono (ht [] s1 (start N vs) H _ I hq) (fun fl s' hs=>?_) fun e s' hs=>hs
 have fin:∀{σ':St} {H':Hp} {v:V} {u:Value},Inv (dU CX P w K mg base N qual scope f cdv A outer s H E) [] σ' H' s'->RelV v u->Q v H'->CE outer P w H s Q u s':=
  fun {σ' H' v u} J rv q=>⟨v,H',J.os,J.bare,J.base,J.hok,rv,q⟩
 cases fl with
 |ret u=>
  obtain ⟨v,σ',H',J,rv,q⟩:=hs
  exact fin J rv q
 |next=>
  obtain ⟨σ',H',J,q⟩:=hs
  exact fin (v:=V.non) (u:=Value.none) J rfl q
 |brk=>
  obtain ⟨_,_,_,q⟩:=hs
  exact False.elim q
 |cont=>
  obtain ⟨_,_,_,q⟩:=hs
  exact False.elim q
end L2
namespace L2
open PySem PySem.Spec PyProof.Rows
section
variable {X:Cx} {x:Str} {p pos:Pos} {e:Expr} {es:List Expr} {t:TA} {id T:String} {r:List V->Hp->VK->Prop}
noncomputable def tCB (r:List V->Hp->VK->Prop) (t:TA):TE:=fun σ H Q=>t σ H fun vs H1=>r vs H1 Q
theorem rj (hc:cL X (.builtin id) r) (hg:Gl X x) (hm:X.mg x=none) (hv:bootBuiltins x=some (.builtin id)) (ha:PA X (e::es) t) (hn:x≠"__name__":=by decide) (hdb:(x==("__debug__":Str))=false:=by decide)
  (he:starEach (e::es) X.env=(false,eval e X.env)::starEach es X.env:=by rfl) (hpl:(backTo pos (starEach es X.env)).any (·.1)=false:=by rfl):PE X (.Call (.Name x p) (e::es) [] pos) (tCB r t):=by
 intro pins s σ H Q I h
 refine wpAny_Call_Name_kw (dM I hg hm hv ?_ hn hdb)
 exact PyProof.Rows.callWith_builtin1 (thn (ha pos pins s σ H _ I h) fun us s1 ⟨vs,H1,I1,r1,q1⟩=>hc pins s1 σ H1 vs us Q I1 r1 q1) he hpl
theorem kf (hc:cL X (.type T) r) (hg:Gl X x) (hm:X.mg x=none) (hv:bootBuiltins x=some (.type T)) (ha:PA X (e::es) t) (hn:x≠"__name__":=by decide) (hdb:(x==("__debug__":Str))=false:=by decide)
  (he:starEach (e::es) X.env=(false,eval e X.env)::starEach es X.env:=by rfl) (hpl:(backTo pos (starEach es X.env)).any (·.1)=false:=by rfl):PE X (.Call (.Name x p) (e::es) [] pos) (tCB r t):=by
 intro pins s σ H Q I h
 refine wpAny_Call_Name_kw (dM I hg hm hv ?_ hn hdb)
 exact PyProof.Rows.callWith_type1 (thn (ha pos pins s σ H _ I h) fun us s1 ⟨vs,H1,I1,r1,q1⟩=>hc pins s1 σ H1 vs us Q I1 r1 q1) he hpl
end
end L2
namespace HT
open PySem PyProof.Rows
section
variable {prog:Program} {w:World} {A:Around} {E:Value->Shared->Prop} {s:Shared}
theorem uT {t b:Addr} {vs ws:List Value} {Q:Value->Shared->Prop} (ht:IsTup s.heap t vs.toArray) (hb:IsTup s.heap b ws.toArray) (hv:vs≠[])
  (h1:ws=[]->Q (.ref t) s) (h2:ws≠[]->Q (.ref s.heap.objs.size) {s with heap:=s.heap.push {cls:=.type "tuple",data:=.seq (vs++ws).toArray}})
  (hsz:vs.length+ws.length<=sizeLine):wpAny (model prog w) A (binaryOp .Add (.ref t) (.ref b)) Q E s:=by
 obtain ⟨⟨cls,dd,data,sl⟩,ho,hc,n,hd⟩:=id ht
 obtain ⟨⟨cls2,dd2,data2,sl2⟩,ho2,hc2,n2,hd2⟩:=id hb
 simp only at hc hd hc2 hd2
 subst hc hd hc2 hd2
 have e:vs.toArray++ws.toArray=(vs++ws).toArray:=by simp
 by_cases hw:ws=[]
 ·exact concat_meets ⟨_,ho,rfl⟩ ⟨_,ho2,rfl⟩ noFill_tuple_add seq_tuple_add PySem.F.slot_tuple_add PySem.F.entry_tuple_add (PySem.F.args_tuple_add_2 _ _)
   (tuple_addW1 t b vs.toArray ws.toArray n n2 dd dd2 sl sl2 (by simpa using hv) (by simp [hw])) ⟨ho,ho2,h1 hw⟩
 ·refine concat_meets ⟨_,ho,rfl⟩ ⟨_,ho2,rfl⟩ noFill_tuple_add seq_tuple_add PySem.F.slot_tuple_add PySem.F.entry_tuple_add (PySem.F.args_tuple_add_2 _ _)
   (tuple_addW2 t b vs.toArray ws.toArray n n2 dd dd2 sl sl2 (by simpa using hv) (by simpa using hw) (by rw [List.size_toArray,List.size_toArray];exact hsz)) ⟨ho,ho2,?_⟩
  rw [e]
  exact h2 hw
noncomputable def sIx (n d:Nat):Option Int->Nat
 |none=>d
 |some v=>if v<0 then (v+(n:Int)).toNat else min v.toNat n
end
end HT
namespace L2
open PySem PySem.Spec PyProof.Rows
noncomputable abbrev TO:=St->Hp->(Option Int->Hp->Prop)->Prop
noncomputable def PO (X:Cx) (e:Option Expr) (t:TO):Prop:=
 ∀(pins:List (Addr×Obj)) (s:Shared) (σ:St) (H:Hp) (Q:Option Int->Hp->Prop),Inv X pins σ H s->t σ H Q->
  wpAny (model X.prog X.w) X.A (evalPart e X.env) (fun u s'=>∃o H',Inv X pins σ H' s'∧IsPart u o∧Q o H') X.xe s
noncomputable def uQ:TO:=fun _ H Q=>Q none H
noncomputable def Ak (t:TE):TO:=fun σ H Q=>t σ H fun x H1=>∃i,x=.int i∧Q (some i) H1
section
variable {X:Cx} {e:Expr} {te:TE} {lo hi:Option Expr} {tl th:TO} {pos p2:Pos}
theorem uf:PO X none uQ:=by
 intro pins s σ H Q I h
 rw [evalPart_none]
 exact wpAny_pure ⟨none,H,I,.none,h⟩
theorem uk (h:PE X e te):PO X (some e) (Ak te):=by
 intro pins s σ H Q I hw
 rw [evalPart_some]
 refine thn (h pins s σ H _ I hw) fun u s1 ⟨x,H1,I1,r1,q1⟩=>?_
 obtain ⟨i,rfl,q⟩:=q1
 obtain ⟨t,rfl⟩:=r1
 exact ⟨some i,H1,I1,.int i t,q⟩
noncomputable def zB (K:PySem.W.Frag):R2:=fun x y H Q=>∃a b xs ys,x=.ref a∧y=.ref b∧SqT K H a xs∧SqT K H b ys∧xs≠[]∧xs.length+ys.length<=sizeLine∧
 (ys=[]->Q (.ref a) H)∧(ys≠[]->∀p,H p=none->Q (.ref p) (upd H p (.tup (xs++ys))))
theorem Vals.ji {xs:List V} {us:List Value} (r:Vals xs us):us=[]↔xs=[]:=by
 cases r with
 |nil=>simp
 |cons _ _=>simp
theorem vz:OpR X (binaryOp .Add) (zB X.K):=by
 intro pins s σ H x y v u Q I rx ry h
 obtain ⟨a,b,xs,ys,rfl,rfl,ha,hb,hx,hz,q1,q2⟩:=h
 cases rx
 cases ry
 obtain ⟨its,r1,p1,_⟩:=I.tuple ha
 obtain ⟨its2,r2,p2,_⟩:=I.tuple hb
 refine HT.uT p1 p2 (fun z=>hx (r1.ji.mp z)) (fun z=>⟨.ref a,H,I,rfl,q1 (r2.ji.mp z)⟩) (fun z=>?_) (by rw [←r1.length,←r2.length];exact hz)
 refine ⟨.ref s.heap.objs.size,_,I.laid (t':=s.toks) (o:=.tup (xs++ys)) (fun b ob q=>Heap.get?_push_of_some _ q) (Nat.le_refl _) ?_,rfl,q2 (fun w=>z (r2.ji.mpr w)) _ (I.hok.fresh (Nat.le_refl _))⟩
 exact ⟨by rw [List.length_append];exact hz,_,r1.append r2,IsTup.new _ _⟩
end
end L2
namespace L2
open PySem PySem.Spec PyProof.Rows
noncomputable def ixN (n:Nat) (i:Int):Option Nat:=if 0<=i then (if i<n then some i.toNat else none) else if -(n:Int)<=i then some (i+n).toNat else none
noncomputable def atI {α:Type} (xs:List α) (i:Int):Option α:=(ixN xs.length i).bind fun j=>xs[j]?
theorem vC {n:Nat} {i:Int} {j:Nat} (h:ixN n i=some j):seqIndex? i n=some j∧j<n∧ -(n:Int)<=i∧i<n:=by
 unfold ixN at h
 by_cases h0:0<=i
 ·rw [if_pos h0] at h
  by_cases h1:i<n
  ·rw [if_pos h1] at h
   have e:i.toNat=j:=Option.some.inj h
   exact ⟨by rw [seqIndex_of h0 h1,e],by omega,by omega,h1⟩
  ·rw [if_neg h1] at h;cases h
 ·rw [if_neg h0] at h
  by_cases h1: -(n:Int)<=i
  ·rw [if_pos h1] at h
   have e:(i+n).toNat=j:=Option.some.inj h
   exact ⟨by rw [seqIndex_neg (by omega) h1,e],by omega,h1,by omega⟩
  ·rw [if_neg h1] at h;cases h
theorem mf {α:Type} {xs:List α} {i:Int} {v:α} (h:atI xs i=some v):∃j,seqIndex? i xs.length=some j∧xs[j]?=some v∧j<xs.length∧ -(xs.length:Int)<=i∧i<xs.length:=by
 unfold atI at h
 cases e:ixN xs.length i with
 |none=>rw [e] at h;cases h
 |some j=>
  rw [e] at h
  obtain ⟨h1,h2,h3,h4⟩:=vC e
  exact ⟨j,h1,h,h2,h3,h4⟩
theorem jz {α:Type} {xs:List α} {j:Nat} {v:α} (h:xs[j]?=some v):atI xs (j:Int)=some v:=by
 have hj:j<xs.length:=(List.getElem?_eq_some_iff.mp h).1
 have e:ixN xs.length (j:Int)=some j:=by
  unfold ixN
  rw [if_pos (by omega),if_pos (by omega)];simp
 unfold atI;rw [e];exact h
noncomputable def jJ (b:Expr):Prop:=∀o i,subscripted b false o i=operate [o,i] (getItem o i)
noncomputable def IxR (X:Cx) (r:R2):Prop:=
 ∀(value slice:Expr) (pins:List (Addr×Obj)) (s:Shared) (σ:St) (H:Hp) (x y:V) (v u:Value) (Q:VK),Inv X pins σ H s->RelV x v->RelV y u->r x y H Q->
  subscripted slice false v u=operate [v,u] (getItem v u)->wpAny (model X.prog X.w) X.A (subscriptTail value slice v u) (EP X pins σ Q) X.xe s
noncomputable def MtR (X:Cx) (id:String) (r:V->List V->Hp->VK->Prop):Prop:=
 ∀(pins:List (Addr×Obj)) (s:Shared) (σ:St) (H:Hp) (x:V) (xs:List V) (v:Value) (us:List Value) (Q:VK),Inv X pins σ H s->RelV x v->Vals xs us->r x xs H Q->
  wpAny (model X.prog X.w) X.A (call (.builtin id) (v::us)) (EP X pins σ Q) X.xe s
section
variable {X:Cx} {a b:Expr} {ta tb:TE} {pos:Pos}
theorem su {r:R2} (hr:IxR X r) (ha:PE X a ta) (hb:PE X b tb) (hs:jJ b):PE X (.Subscript a b pos) (tOp r ta tb):=by
 intro pins s σ H Q I h
 exact Subscript_ (rV ha hb I h fun v u s2 x y H2 I2 rx ry q=>hr a b pins s2 σ H2 x y v u Q I2 rx ry q (hs _ _))
noncomputable def AX (K:PySem.W.Frag):R2:=fun x y H Q=>∃p xs i v,x=.ref p∧y=.int i∧SqL K H p xs∧atI xs i=some v∧Q v H
noncomputable def AA (K:PySem.W.Frag):R2:=fun x y H Q=>∃p xs i v,x=.ref p∧y=.int i∧SqT K H p xs∧atI xs i=some v∧Q v H
theorem vp:IxR X (AX X.K):=by
 intro value slice pins s σ H x y v u Q I rx ry h hs
 obtain ⟨p,xs,i,z,rfl,rfl,hq,he,q⟩:=h
 cases rx
 obtain ⟨t,rfl⟩:=ry
 obtain ⟨its,r,pl,hz⟩:=I.list hq
 obtain ⟨j,h1,h2,h3,h4,h5⟩:=mf he
 obtain ⟨w,ew,rw'⟩:=r.get h2
 have hl:=r.length
 have hn:=kJ
 have fin:EP X pins σ Q w s:=⟨z,H,I,rw',q⟩
 by_cases h0:0<=i
 ·have hj:i.toNat=j:=by
   rw [seqIndex_of h0 h5] at h1
   exact Option.some.inj h1
  exact item_listR pl.isList h0 (by omega) (by rw [hj];simpa using ew) fin hs
 ·have hj:(i+(its.toArray.size:Int)).toNat=j:=by
   rw [seqIndex_neg (by omega) h4] at h1
   rw [List.size_toArray,←hl]
   exact Option.some.inj h1
  exact subscriptTail_builtinR (x:=w) pl.isList.typeIs slot_list_getitem.lookup
   (wpAny_getItem_list_neg (Q:=fun r s'=>r=w∧EP X pins σ Q r s') pl.isList (by omega) (by rw [List.size_toArray]<;>omega) (by omega) (by rw [hj];simpa using ew) ⟨rfl,fin⟩) hs
theorem wA:IxR X (AA X.K):=by
 intro value slice pins s σ H x y v u Q I rx ry h hs
 obtain ⟨p,xs,i,z,rfl,rfl,hq,he,q⟩:=h
 cases rx
 obtain ⟨t,rfl⟩:=ry
 obtain ⟨its,r,pl,hz⟩:=I.tuple hq
 obtain ⟨j,h1,h2,h3,h4,h5⟩:=mf he
 obtain ⟨w,ew,rw'⟩:=r.get h2
 have hl:=r.length
 have hn:=kJ
 have fin:EP X pins σ Q w s:=⟨z,H,I,rw',q⟩
 exact subscriptTail_builtinR (x:=w) pl.typeIs slot_tuple_getitem.lookup
  (getItem_tuple (j:=j) (Q:=fun r s'=>r=w∧EP X pins σ Q r s') pl (by omega) (by omega) (by rw [List.size_toArray,←hl];exact h1) (by simpa using ew) ⟨rfl,fin⟩) hs
theorem lR:cL X (.builtin "len") (fun xs H Q=>∃p ys,xs=[.ref p]∧(SqL X.K H p ys∨SqT X.K H p ys)∧Q (.int ys.length) H):=by
 intro pins s σ H xs us Q I r h
 obtain ⟨p,ys,rfl,hq,q⟩:=h
 obtain ⟨u,rfl,rx⟩:=vals1 r
 cases rx
 have hn:=kJ
 rcases hq with hq|hq
 ·obtain ⟨its,r',pl,hz⟩:=I.list hq
  have hlen:=r'.length
  exact Calls.call_len_list pl.isList (by simp only [List.size_toArray]<;>omega) ⟨.int ys.length,H,I.tok _,⟨s.toks+1,by rw [List.size_toArray,hlen]⟩,q⟩
 ·obtain ⟨its,r',pl,hz⟩:=I.tuple hq
  have hlen:=r'.length
  exact len_tuple pl (by simp only [List.size_toArray]<;>omega) ⟨.int ys.length,H,I.tok _,⟨s.toks+1,by rw [List.size_toArray,hlen]⟩,q⟩
theorem kr:cL X (.type "tuple") (fun xs H Q=>∃p ys,xs=[.ref p]∧((SqL X.K H p ys∧∀l,H l=none->Q (.ref l) (upd H l (.tup ys)))∨(SqT X.K H p ys∧Q (.ref p) H))):=by
 intro pins s σ H xs us Q I r h
 obtain ⟨p,ys,rfl,h⟩:=h
 obtain ⟨u,rfl,rx⟩:=vals1 r
 cases rx
 rcases h with ⟨hq,q⟩|⟨hq,q⟩
 ·obtain ⟨its,r',pl,hz⟩:=I.list hq
  have hlen:=r'.length
  refine call_tuple_list pl.isList (fun h' kp=>?_) (by simp only [List.size_toArray]<;>omega)
  have I1:Inv X pins σ H {s with heap:=h'}:=I.kept (t':=s.toks) kp
  have I2:Inv X pins σ (upd H h'.objs.size (.tup ys)) {s with heap:=h'.push {cls:=.type "tuple",data:=.seq its.toArray}}:=
   I1.laid (t':=s.toks) (fun b o e=>Heap.get?_push_of_some _ e) (Nat.le_refl _) (show aP X.prog X.w _ _ _ (.tup ys) from ⟨hz,its,r',IsTup.new _ _⟩)
  exact ⟨.ref h'.objs.size,_,I2,rfl,q _ (I1.hok.fresh (Nat.le_refl _))⟩
 ·obtain ⟨its,r',pl,hz⟩:=I.tuple hq
  exact call_tuple_same pl ⟨.ref p,H,I,rfl,q⟩
noncomputable def tyV (K:PySem.W.Frag) (T:String) (x:V) (H:Hp):Prop:=match x with
 |.str _=>T="str"
 |.int _=>T="int"
 |.ref p=>(T="list"∧∃xs,SqL K H p xs)∨(T="tuple"∧∃o,K.lookup p=some o∧o.cls=.type "tuple"∧o.dict=none)∨
   (T="dict"∧((∃kvs,H p=some (.dK kvs))∨∃kvs,H p=some (.dT kvs)))∨(T="set"∧∃S n,H p=some (.set S n))
 |_=>False
theorem yF {pins:List (Addr×Obj)} {σ:St} {H:Hp} {s:Shared} {T:String} {x:V} {v:Value} (I:Inv X pins σ H s) (r:RelV x v) (ty:tyV X.K T x H):
  s.TypeIs v T∧∀a,v=.ref a->∃ob,s.heap.get? a=some ob∧ob.dict=none:=by
 cases x with
 |str z=>
  obtain ⟨t,rfl⟩:=r
  cases (show T="str" from ty)
  exact ⟨typeIs_str s z t,fun _ e=>nomatch e⟩
 |int i=>
  obtain ⟨t,rfl⟩:=r
  cases (show T="int" from ty)
  exact ⟨typeIs_int s i t,fun _ e=>nomatch e⟩
 |ref p=>
  cases r
  rcases ty with ⟨rfl,xs,hq⟩|⟨rfl,o,hk,hc,hd⟩|⟨rfl,hk⟩|⟨rfl,S,n,hk⟩
  ·obtain ⟨its,_,pl,_⟩:=I.list hq
   refine ⟨pl.isList.typeIs,fun a e=>?_⟩
   cases e
   obtain ⟨o,n,e,c,hd,_⟩:=pl
   exact ⟨o,e,hd⟩
  ·refine ⟨⟨o,I.kIn p o hk,hc⟩,fun a e=>?_⟩
   cases e
   exact ⟨o,I.kIn _ o hk,hd⟩
  ·have z:∃o,s.heap.get? p=some o∧o.ExactDict:=by
    rcases hk with ⟨kvs,hk⟩|⟨kvs,hk⟩
    ·obtain ⟨_,_,_,_,o,_,_,e,ex,_⟩:=I.hok p _ hk
     exact ⟨o,e,ex⟩
    ·obtain ⟨_,_,_,_,o,_,_,e,ex,_⟩:=I.hok p _ hk
     exact ⟨o,e,ex⟩
   obtain ⟨o,e,ex⟩:=z
   refine ⟨⟨o,e,ex.1⟩,fun a e2=>?_⟩
   cases e2
   exact ⟨o,e,ex.2.1⟩
  ·obtain ⟨o,_,_,_,e,ex,_⟩:=I.hok p _ hk
   refine ⟨⟨o,e,ex.1⟩,fun a e2=>?_⟩
   cases e2
   exact ⟨o,e,ex.2.1⟩
 |_=>exact False.elim ty
noncomputable def tBM (K:PySem.W.Frag) (T:String) (r:V->List V->Hp->VK->Prop) (to:TE) (t:TA):TE:=fun σ H Q=>to σ H fun x H1=>tyV K T x H1∧t σ H1 fun xs H2=>r x xs H2 Q
variable {o e:Expr} {es:List Expr} {to:TE} {t:TA} {name:Str} {apos cpos:Pos} {T id:String} {r:V->List V->Hp->VK->Prop}
theorem Ab (pa:PlainAttrs T) (slot:Slot T name id) (hty:typeOf (.builtin id)=pure (.type "method_descriptor")) (hm:MtR X id r) (ho:PE X o to) (ha:PA X (e::es) t)
  (hbase:attributeBase o name X.env (eval o X.env)=eval o X.env:=by rfl)
  (hfew:((backTo cpos (starEach (e::es) X.env)).all (fun x=>!x.1)&&(backToKw cpos (keywordEach [] X.env)).all (fun x=>x.1.isSome)
   &&decide ((e::es).length+([]:List Keyword).length+(if ([]:List Keyword).isEmpty then 0 else 1)<30))=true:=by rfl)
  (hline:(apos.endLine==cpos.line)=true:=by rfl) (hs:starEach (e::es) X.env=(false,eval e X.env)::starEach es X.env:=by rfl) (hplain:(backTo cpos (starEach es X.env)).any (·.1)=false:=by rfl):
  PE X (.Call (.Attribute o name apos) (e::es) [] cpos) (tBM X.K T r to t):=by
 intro pins s σ H Q I h
 refine wpAny_Call_method_late hbase hfew hline rfl (thn (ho pins s σ H _ I h) fun v s1 ⟨x,H1,I1,r1,ty,q1⟩=>?_)
 obtain ⟨h1,h2⟩:=yF I1 r1 ty
 refine ⟨T,id,pa,slot,hty,h1,h2,?_⟩
 have hA:=ha cpos pins s1 σ H1 _ I1 q1
 rw [hs] at hA ⊢
 refine Calls.callWith_builtin (by show (false||(backTo cpos (starEach es X.env)).any (·.1))=false;rw [hplain]<;>rfl) (Calls.evalArgs_plain ?_)
 exact thn hA fun us s2 ⟨vs,H2,I2,r2,q2⟩=>hm pins s2 σ H2 x vs v us Q I2 r1 r2 q2
end
end L2
namespace L2
open PySem PySem.Spec PyProof.Rows
noncomputable def MtM (X:Cx) (id:String) (r:V->List V->Hp->VK->Prop):Prop:=
 ∀(pins:List (Addr×Obj)) (s:Shared) (σ:St) (H:Hp) (x:V) (xs:List V) (v:Value) (us:List Value) (Q:VK),Inv X pins σ H s->RelV x v->Vals xs us->r x xs H Q->
  wpAny (model X.prog X.w) X.A (call (.builtin id) (v::us)) (EP X pins σ Q) X.xe s
theorem Vals.one:∀{x:V} {us:List Value},Vals [x] us->∃u,us=[u]∧RelV x u
 |_,_,.cons r .nil=>⟨_,rfl,r⟩
section
variable {X:Cx} {pins:List (Addr×Obj)} {σ:St} {H:Hp} {s:Shared} {l b:Addr} {xs ys zs:List V}
theorem Inv.AU {its its':List Value} {n:Nat} {f:Array Value->Array Value} {t':Nat} (I:Inv X pins σ H s) (hH:H l=some (.lst xs))
  (e:s.heap.get? l=some {cls:=.type "list",data:=.seq its.toArray n}) (hf:f its.toArray=its'.toArray) (hv:Vals ys its') (hz:ys.length<=sizeLine):
  Inv X pins σ (upd H l (.lst ys)) {s with heap:=s.heap.update l (Obj.mapSeq f),toks:=t'}:=by
 have q:=PySem.IsL.update e f
 rw [hf] at q
 refine I.write (x:=l) (e:=l) (by rw [hH];exact trivial) (.inl rfl) (fun b' u hb hu=>(Heap.get?_update_other s.heap (Obj.mapSeq f) (Ne.symm hb)).trans hu) ⟨_,q⟩ ?_
 exact ⟨hz,its',_,hv,q⟩
theorem Inv.AN (I:Inv X pins σ H s) (hH:H l=some (.lst xs)):xs.length<=sizeLine∧∃(its:List Value) (n:Nat),Vals xs its∧xs.length=its.length∧s.heap.get? l=some {cls:=.type "list",data:=.seq its.toArray n}:=by
 obtain ⟨z,its,n,r,e⟩:=I.hok l _ hH
 exact ⟨z,its,n,r,r.length,e⟩
end
section
variable {X:Cx}
noncomputable def uj:V->List V->Hp->VK->Prop:=fun x vs H Q=>∃l xs y,x=.ref l∧vs=[y]∧H l=some (.lst xs)∧xs.length<sizeLine∧Q .non (upd H l (.lst (xs++[y])))
theorem n5:MtM X "list.append" uj:=by
 intro pins s σ H x vs v us Q I rx rv h
 obtain ⟨l,xs,y,rfl,rfl,hH,hz,q⟩:=h
 cases rx
 obtain ⟨u,rfl,ru⟩:=rv.one
 obtain ⟨z,its,n,r,hl,e⟩:=I.AN hH
 refine call_meets F.slot_list_append ⟨_,e,rfl⟩ F.entry_list_append (F.args_list_append_2 _ _) (PySem.list_append l its.toArray n u (by rw [List.size_toArray];omega)) ⟨e,?_⟩
 refine ⟨.non,_,I.AU (its':=its++[u]) hH e (by simp) (r.append (.cons ru .nil)) ?_,rfl,q⟩
 rw [List.length_append,List.length_singleton]
 omega
end
end L2
namespace Att
open PySem PySem.W PySem.Calls PyProof.Rows
theorem iH {P:Params} {h:Heap}:∀(ns:List Int) (vs:List Value),WellAll P h vs (ns.map WData.int)->IntsAre vs ns:=by
 intro ns
 induction ns with
 |nil=>
  intro vs w
  rw [List.map_nil] at w
  cases w
  exact .nil
 |cons n ns ih=>
  intro vs w
  rw [List.map_cons] at w
  cases w with
  |cons a b=>
   cases a
   exact .cons _ _ (ih _ b)
theorem oz {l:OpenLaw} {n:Nat} (hn:l.most=some n) {P:Params} {h:Heap} {args:List WData} {vals:List Value}
  (hpre:l.row.toRowW.claim.pre args=true) (hwl:WellAll P h vals args):
  ∃a vs ns,vals=[Value.ref a]∧args=[WData.list (ns.map WData.int)]∧h.get? a=some {cls:=.type "list",data:=.seq vs.toArray}∧IntsAre vs ns∧ns.length<=n:=by
 have hsh:WShape.hasAll [] args [.list .int]=true:=(pre_splitW hpre).1
 have hc:l.pre.holds [] {args:=args}=true:=(pre_splitW hpre).2
 obtain ⟨d,r,rfl,h1,h2⟩:=hasAllW_cons hsh
 obtain rfl:=hasAllW_nil h2
 obtain ⟨xs,rfl,h3⟩:=hasW_list h1
 obtain ⟨ns,rfl⟩:=items_int h3
 have hlen:ns.length<=n:=by
  unfold OpenLaw.pre at hc
  have h4:(WTm.not (.lt (.lit (.int (n:Int))) (.len (.arg 0)))).holds [] {args:=[.list (ns.map .int)]}=true:=by
   have h4:=(holds_andW hc).1
   rw [hn] at h4
   exact h4
  have h5:=condW_of h4 (w_not (w_lt w_lit (w_len_list (w_arg rfl))))
  rw [List.length_map] at h5
  refine Nat.le_of_not_lt fun q=>?_
  have q':(n:Int)<((ns.length:Nat):Int):=by omega
  first
   |(rw [decide_eq_true q'] at h5;exact absurd h5 (by decide))
   |(simp at h5;omega)
 cases hwl with
 |cons w1 w2=>
  cases w2
  cases w1 with
  |list ho hall=>exact ⟨_,_,ns,rfl,rfl,ho,iH ns _ hall,hlen⟩
theorem o6 (l:OpenLaw) (args:List WData):l.row.toRowW.claim.post args (.bool true) args=true:=
 postW_of (r:=l.row.toRowW) (X:=(true==true))
  (show WShape.has [] (.bool true) .bool=true by first|rfl|decide|simp [WShape.has,WShape.arms,WShape.armsAll])
  (show (WTm.eq .res (.lit (.bool true))).value [] {args:=args,res:=some (.bool true),after:=args}=some (.bool (true==true)) from w_eq_bool (w_res rfl) w_lit) rfl
theorem l0 {l:OpenLaw} {n:Nat} {q:Program} {loose:List Str} {XP:(Str->Option Value)->Heap->Prop} {YP:World->Heap->Prop} {d:DefRec}
  (hn:l.most=some n) (hdf:d.params.defaults=[])
  (call:∀(w:World) (s₀ s₁:Shared) (mg mb:Str->Option Value) (fa:Addr) (o:Obj) (pm cd doc:Value) (a:Addr) (vs:List Value) (ns:List Int),
   Ground q loose [] XP w s₀ mg mb s₁.heap->YP w s₁.heap->
   s₁.heap.get? fa=some o->o.data=.func (docDef d.name d.params d.body d.scope pm cd doc)->s₁.heap.CodeRec cd d.name->mg d.name=some (.ref fa)->
   s₁.heap.get? a=some {cls:=.type "list",data:=.seq vs.toArray}->IntsAre vs ns->ns.length<=n->s₁.gens=#[]->
   codeAny (model l.prog w) callerA (.call (.ref fa) ⟨[.ref a],[]⟩) (fun r s'=>r=.ok (.ret (.bool true))∧OldK s₁.heap s'.heap∧s'.os=s₁.os∧AllBare s'.gens) s₁):
  WalkO q loose XP YP l.row.toRowW d [] (fun f vs=>PySem.call f vs):=by
 intro w s₀ s₁ mg mb G Y fa o pm cd doc dV kV ho hd hcd hD hmg hg args vals as hpre hlay hrd hwl hlo
 obtain rfl:dV=.none:=Dflts.none hD hdf
 obtain rfl:kV=.none:=Dflts.noKw hD
 obtain ⟨a,vs,ns,rfl,rfl,hobj,hints,hlen⟩:=oz hn hpre hwl
 refine enter_call (codeAny_mono (call w s₀ s₁ mg mb fa o pm cd doc a vs ns G Y ho (fd_plain hd) hcd hmg hobj hints hlen hg) fun r s' hq=>?_)
 obtain ⟨rfl,h2,h3,h4⟩:=hq
 exact ⟨.inl ⟨.bool true,.bool true,[],rfl,fun _=>rfl,.bool true,o6 l _,fun _=>⟨List.Pairwise.nil,fun _ hm=>(nomatch hm)⟩⟩,h2,h3,h4⟩
end Att
namespace L2
open PySem PySem.Spec PyProof.Rows
theorem jY:∀{vs:List Value} {ns:List Int},IntsAre vs ns->Vals (ns.map V.int) vs
 |_,_,.nil=>.nil
 |_,_,.cons n t h=>.cons ⟨t,rfl⟩ (jY h)
noncomputable def si (H:Hp):Prop:=∀b,H b=none∨∃o xs,H b=some (.frz o (.lst xs))
theorem qF {P:Program} {w:World} {K:PySem.W.Frag} {mg mb:Str->Option Value} {CX:CXT} {k:Nat} {fa a:Addr} {fd:FuncData} {x:Str} {sp:Sp} {s₁:Shared} {vs:List Value} {ns:List Int}
  (KX:K.In s₁.heap) (hns:s₁.heap.Ns mainGlobals mg) (hb:s₁.heap.Ns builtinsNs mb) (hbb:∀x:Str,x≠"__name__"->mb x=bootBuiltins x) (hlim:s₁.heap.NoLimit) (hg:s₁.gens=#[])
  (ha:s₁.heap.get? a=some {cls:=.type "list",data:=.seq vs.toArray}) (hi:IntsAre vs ns) (hl:ns.length<=sizeLine) (hr:aI k callerA)
  (F:∀base:Heap,K.In base->base.Ns mainGlobals mg->aC P w K mg base CX k fa fd [x] sp) (hbind:∀(s:Shared) (u:Value),BindsTo s fd ⟨[u],[]⟩ [(x,u)])
  (hsp:∀H:Hp,si H->SqL K H a (ns.map V.int)->sp [.ref a] H (fun v _=>v=.bl true) fun _ _ _=>False)
  (hCX:∀H e s',CX [] H s₁ (fun _ _ _=>False) e s'->False):
  codeAny (model P w) callerA (.call (.ref fa) ⟨[.ref a],[]⟩) (fun r s'=>r=.ok (.ret (.bool true))∧OldK s₁.heap s'.heap∧s'.os=s₁.os∧AllBare s'.gens) s₁:=by
 have rv:=jY hi
 have lenV:=hi.length
 have core:∀H:Hp,si H->SqL K H a (ns.map V.int)->HOk P w H s₁.heap->(∀b,H b≠none->b=a)->(H a≠none->K.lookup a=none)->
   codeAny (model P w) callerA (.call (.ref fa) ⟨[.ref a],[]⟩) (fun r s'=>r=.ok (.ret (.bool true))∧OldK s₁.heap s'.heap∧s'.os=s₁.os∧AllBare s'.gens) s₁:=by
  intro H hO hS hok hA hK
  have base_of:∀{b:Addr} {o:Obj},s₁.heap.get? b=some o->H b=none->(f9 s₁.heap H).get? b=some o:=fun e n=>rJ e n
  have noA:∀{b:Addr} {o:Obj} {es:Array DictEntry} {ep:Nat},s₁.heap.get? b=some o->o.data=.dict es ep->H b=none:=fun {b o es ep} e d=>by
   cases q:H b with
   |none=>rfl
   |some u=>
    have e':b=a:=hA b (by rw [q];simp)
    subst e'
    rw [ha] at e;cases e
    have d':Data.seq vs.toArray _=Data.dict es ep:=d
    cases d'
  have nsK:∀{b:Addr} {m:Str->Option Value},s₁.heap.Ns b m->(f9 s₁.heap H).Ns b m:=fun {b m} ⟨o,es,ep,e,d,r⟩=>⟨o,es,ep,base_of e (noA e d),d,r⟩
  have hKb:K.In (f9 s₁.heap H):=fun b o e=>base_of (KX b o e) (by
   cases q:H b with
   |none=>rfl
   |some u=>
    have e':b=a:=hA b (by rw [q];simp)
    subst e'
    rw [hK (by rw [q];simp)] at e;cases e)
  have hM:Mod K mg (f9 s₁.heap H):=⟨hKb,nsK hns,⟨mb,nsK hb,hbb⟩,let ⟨mc,h1,h2⟩:=hlim;⟨mc,nsK h1,h2⟩⟩
  have e0:ij P w K mg (f9 s₁.heap H) callerA [] s₁ H:=⟨rfl,hM,fun b o e=>tF e,Nat.le_of_eq (oB _ _),trivial,fun b hb=>absurd (show b∈([]:List Addr) from hb) (by simp),hok,.of_eq hg⟩
  refine codeAny_mono ((F _ hKb (nsK hns)).run callerA [] s₁ H ⟨[.ref a],[]⟩ [.ref a] [.ref a] _ _ hr e0 (hbind s₁ (.ref a)) (.cons rfl .nil) (hsp H hO hS)) fun r s' h=>?_
  cases r with
  |error e=>exact (hCX H e s' h).elim
  |ok fl=>
   cases fl with
   |next=>exact False.elim h
   |brk=>exact False.elim h
   |cont=>exact False.elim h
   |ret u=>
    obtain ⟨v,H',os,bare,un,hok',r',q⟩:=h
    have q':v=.bl true:=q
    subst q'
    obtain rfl:u=Value.bool true:=r'
    refine ⟨rfl,OldK.of_keep fun b o e=>?_,os,bare⟩
    cases q:H b with
    |none=>exact un.keep b o e q (by intro z;exact absurd (show b∈([]:List Addr) from z) (by simp)) (by simp)
    |some u=>
     rcases hO b with z|⟨ob,xs,z⟩
     ·rw [q] at z;cases z
     ·have z2:=un.eU b ob _ z
      obtain ⟨e1,_⟩:=hok b _ z
      obtain ⟨e2,_⟩:=hok' b _ z2
      rw [e] at e1;cases e1
      exact e2
 cases hk:K.lookup a with
 |some o=>
  have e:=KX a o hk
  rw [ha] at e
  cases e
  refine core (fun _=>none) (fun _=>.inl rfl) (.inr ⟨_,vs.toArray,_,hk,rfl,rfl,rfl,by rw [List.size_toArray,lenV];exact hl,by simpa using rv⟩) (fun b u z=>by have z':(none:Option HO)=some u:=z;cases z') (fun b z=>absurd rfl z) fun z=>absurd rfl z
 |none=>
  refine core (fun b=>if b=a then some (.frz {cls:=.type "list",data:=.seq vs.toArray} (.lst (ns.map V.int))) else none) (fun b=>?_) (.inl (.inr ⟨{cls:=.type "list",data:=.seq vs.toArray},if_pos rfl⟩)) (fun b u z=>?_) (fun b z=>?_) fun _=>hk
  ·by_cases hb:b=a
   ·exact .inr ⟨_,_,if_pos hb⟩
   ·exact .inl (if_neg hb)
  ·by_cases hb:b=a
   ·have z':=(if_pos hb).symm.trans z
    cases z'
    subst hb
    exact ⟨ha,by rw [List.length_map];exact hl,vs,_,rv,ha⟩
   ·have z':=(if_neg hb).symm.trans z
    cases z'
  ·by_cases hb:b=a
   ·exact hb
   ·exact absurd (if_neg hb) z
end L2
namespace L2
open PySem PySem.Spec PyProof.Rows
noncomputable abbrev KOf {K:PySem.W.Frag} {h:Heap} (_:K.In h):PySem.W.Frag:=K
theorem tV {l:PySem.W.OpenLaw} {n k:Nat} {q:Program} {loose:List Str} {XP:(Str->Option Value)->Heap->Prop} {YP:World->Heap->Prop} {d:DefRec} {K:Params->PySem.W.Frag} {CX:World->CXT} {sp:World->Sp} {x:Str}
  (hn:l.most=some n) (hn2:n<=sizeLine) (hdf:d.params.defaults=[]) (hr:aI k callerA)
  (hY:∀(w:World) (h:Heap),YP w h->(K w.params).In h)
  (F:∀(w:World) (mg:Str->Option Value) (fa:Addr) (h:Heap),(K w.params).In h->h.Ns mainGlobals mg->mg d.name=some (.ref fa)->
   ∃fd:FuncData,(∀(s:Shared) (u:Value),BindsTo s fd ⟨[u],[]⟩ [(x,u)])∧
    ∀base:Heap,(K w.params).In base->base.Ns mainGlobals mg->aC l.prog w (K w.params) mg base (CX w) k fa fd [x] (sp w))
  (hsp:∀(w:World) (H:Hp) (a:Addr) (ns:List Int),ns.length<=n->si H->SqL (K w.params) H a (ns.map V.int)->sp w [.ref a] H (fun v _=>v=.bl true) fun _ _ _=>False)
  (hCX:∀(w:World) (H:Hp) (s:Shared) (e:Value) (s':Shared),CX w [] H s (fun _ _ _=>False) e s'->False):
  PySem.W.WalkO q loose XP YP l.row.toRowW d [] (fun f vs=>PySem.call f vs):=by
 refine Att.l0 hn hdf fun w s₀ s₁ mg mb fa o pm cd doc a vs ns G Y ho hd hcd hmg hobj hints hlen hg=>?_
 have KX:=hY w _ Y
 obtain ⟨fd,hb,hF⟩:=F w mg fa _ KX G.T.g hmg
 exact qF KX G.T.g G.T.b G.T.builtins G.T.nolimit hg hobj hints (Nat.le_trans hlen hn2) hr hF hb (fun H hO hS=>hsp w H a ns hlen hO hS) fun H e s'=>hCX w H s₁ e s'
end L2
namespace L2
open PySem PySem.Spec PyProof.Rows
noncomputable def inClass (s:Stmt) (j:Nat):Stmt:=match s with
 |.ClassDef _ _ _ body _ _ _ _ _ _ _=>body.getD j (.Pass ⟨0,0,0,0⟩)
 |_=>.Pass ⟨0,0,0,0⟩
noncomputable def c3 (s:Stmt):Arguments:=match s with
 |.FunctionDef _ a _ _ _ _ _ _ _ _=>a
 |_=>{posonlyargs:=[],args:=[],vararg:=none,kwonlyargs:=[],kw_defaults:=[],kwarg:=none,defaults:=[]}
noncomputable def aY (s:Stmt):List Stmt:=match s with
 |.FunctionDef _ _ b _ _ _ _ _ _ _=>b
 |_=>[]
noncomputable def ah (s:Stmt):Scope:=match s with
 |.FunctionDef _ _ _ _ _ _ sc _ _ _=>sc
 |_=>{kind:=.function,names:=[],isGenerator:=false,isCoroutine:=false}
noncomputable abbrev CX0:CXT:=fun _ _ _ _ _ _=>False
noncomputable abbrev E0:XK:=fun _ _ _=>False
theorem fW {X:Cx}:Passes CX0 X E0:=fun _ _ _ _ _ _ _ h=>h.elim
structure Fun (K:PySem.W.Frag) (x qual:Str) (st:Stmt) (f:Addr) (fd:FuncData):Prop where
 ex:∃(oc:Value) (od:Option Addr) (kV doc pm:Value) (an:Option Addr) (cdv ct:Value) (osl:Array (Option Value)),
  fd=PySem.W.fnOf x qual (c3 st) (aY st) (ah st) .none kV doc pm an cdv ct∧K.lookup f=some ⟨oc,od,.func fd,osl⟩∧PySem.W.codeIn K cdv qual=true
 kp:PySem.W.keepIn K (.ref f)=true
section
variable {P:Program} {w:World} {K:PySem.W.Frag} {mg:Str->Option Value} {base:Heap}
theorem Fun.ok {x qual:Str} {st:Stmt} {f:Addr} {fd:FuncData} {N ps:List Str} {k:Nat} {sp:Sp} (F:Fun K x qual st f fd) (S:bJ N ps (ah st)) (len:∀vs H Q E,sp vs H Q E->vs.length=ps.length)
  (hbody:∀(cdv:Value) (A:Around) (outer:List Env) (s:Shared) (H:Hp) (vs:List V) (Q:VK) (E:XK),aI k (A.deeper (envOfC qual (ah st) s.heap.objs.size f cdv))->sp vs H Q E->
   ∃t,PSs (dU CX0 P w K mg base N qual (ah st) f cdv A outer s H E).nox (aY st) t∧t {nx:=fun _ H'=>Q .non H',rt:=Q} (start N vs) H):aC P w K mg base CX0 (k+1) f fd ps sp:=by
 obtain ⟨oc,od,kV,doc,pm,an,cdv,ct,osl,rfl,lk,hcd⟩:=F.ex
 refine An lk hcd S len fun A outer s H vs Q E hr hsp=>?_
 obtain ⟨t,h,q⟩:=hbody cdv A outer s H vs Q E hr hsp
 exact ⟨t,h.nox,q⟩
theorem Fun.binds {x qual:Str} {st:Stmt} {f:Addr} {fd:FuncData} {ps:List Str} (F:Fun K x qual st f fd)
  (h:∀(kV doc pm:Value) (an:Option Addr) (cdv ct:Value) (us:List Value),us.length=ps.length->bindArgs (PySem.W.fnOf x qual (c3 st) (aY st) (ah st) .none kV doc pm an cdv ct) ⟨us,[]⟩=pure (ps.zip us)):Binds K fd ps []:=by
 obtain ⟨oc,od,kV,doc,pm,an,cdv,ct,osl,rfl,lk,hcd⟩:=F.ex
 exact .all (h kV doc pm an cdv ct)
theorem oQ {x qual:Str} {st:Stmt} {f:Addr} {oc:Value} {od an:Option Addr} {osl:Array (Option Value)} {kV doc pm cdv ct:Value} (l:K.lookup f=some ⟨oc,od,.func (PySem.W.fnOf x qual (c3 st) (aY st) (ah st) .none kV doc pm an cdv ct),osl⟩)
  (c:PySem.W.codeIn K cdv qual=true) (k:PySem.W.keepIn K (.ref f)=true):Fun K x qual st f (PySem.W.fnOf x qual (c3 st) (aY st) (ah st) .none kV doc pm an cdv ct):=⟨⟨oc,od,kV,doc,pm,an,cdv,ct,osl,rfl,l,c⟩,k⟩
end
theorem gk {A B:Prop} (h:B):if false=true then A else B:=by
 rw [if_neg Bool.false_ne_true]
 exact h
theorem fR {A B:Prop} (h:A):if true=true then A else B:=by
 rw [if_pos rfl]
 exact h
end L2
namespace L2
open PySem PySem.Spec PyProof.Rows
section
variable {κ:Type} [DecidableEq κ]
theorem bX.getD {o:Option V} {u:Option Value} {d:V} {d':Value} (r:bX o u) (rd:RelV d d'):RelV (o.getD d) (u.getD d'):=by
 cases o with
 |none=>cases u with
  |none=>exact rd
  |some _=>exact (show False from r).elim
 |some _=>cases u with
  |none=>exact (show False from r).elim
  |some _=>exact r
end
section
variable {X:Cx} {pins:List (Addr×Obj)} {σ:St} {H:Hp} {s:Shared} {a:Addr} {y v:V} {u r:Value} {o:Option V} {A:Around} {E:Value->Shared->Prop}
theorem Inv.big (I:Inv X pins σ H s):sysModules<s.heap.objs.size:=by
 have h:mainGlobals<s.heap.objs.size:=(I.mod.glob.keeps I.bk).lt
 exact Nat.lt_trans (by decide) h
theorem uC {h':Heap} {t':Nat} {ob:HO} (I:Inv X pins σ H s) (mu:Mut (H a)) (hs:Heap.SameBut a s.heap h') (he:∃q,h'.get? a=some q) (new:aP X.prog X.w (upd H a ob) h' a ob):
  Inv X pins σ (upd H a ob) {s with heap:=h',toks:=t'}:=
 I.write (x:=a) (e:=a) mu (.inl rfl) (fun b q hb z=>(hs.2 b hb).trans z) he new
end
noncomputable def mR (i:Expr):Prop:=∀ov iv,subscripted i false ov iv=operate [ov,iv] (getItem ov iv)
theorem ug {prog:Program} {w:World} {A:Around} {E:Value->Shared->Prop} {s:Shared} {env:Env} {value slice:Expr} {pos:Pos} {T id:String} {Q:Value->Shared->Prop}
  (hl:typeLookup (.type T) "__getitem__"=pure (some (.builtin id))) (hs:mR slice)
  (h:wpAny (model prog w) A (eval value env) (fun o s₁=>wpAny (model prog w) A (eval slice env) (fun i s₂=>s₂.TypeIs o T∧wpAny (model prog w) A (getItem o i) Q E s₂) E s₁) E s):
  wpAny (model prog w) A (eval (.Subscript value slice pos) env) Q E s:=by
 refine Subscript_ (wpAny_mono h (fun o s₁ h₁=>wpAny_mono h₁ (fun i s₂ h₂=>?_) fun _ _ x=>x) fun _ _ x=>x)
 obtain ⟨hT,h₂⟩:=h₂
 unfold subscriptTail
 refine wpAny_bind ?_
 rw [getitemInPython_of_ne hT.not_modules]
 refine wpAny_bind (wpAny_specialOf hT hl ?_)
 have fin:wpAny (model prog w) A (subscripted slice false o i) (fun r s₃=>wpAny (model prog w) A (letTemporaryGo value o r>>=fun _=>pure r) Q E s₃) E s₂:=by
  rw [hs o i]
  exact wpAny_operating (wpAny_mono h₂ (fun r s₃ h₃=>wpAny_bind (wpAny_letTemporaryGo (wpAny_pure h₃))) fun _ _ x=>x)
 first
  |exact wpAny_pure (wpAny_bind fin)
  |exact wpAny_bind (wpAny_pure (wpAny_bind fin))
  |exact wpAny_bind fin
structure M1 (X:Cx) (o:Expr) (m:Str) (apos:Pos) (e:Expr) (cpos:Pos):Prop where
 base:attributeBase o m X.env (eval o X.env)=eval o X.env
 few:((backTo cpos (starEach [e] X.env)).all (fun x=>!x.1)&&(backToKw cpos (keywordEach [] X.env)).all (fun x=>x.1.isSome)
  &&decide (([e]:List Expr).length+([]:List Keyword).length+(if ([]:List Keyword).isEmpty then 0 else 1)<30))=true
 line:(apos.endLine==cpos.line)=true
 trees:backTo cpos (starEach [e] X.env)=[(false,eval e X.env)]
end L2
namespace CT
open PySem
noncomputable def cu (env:Env):List (Str×NameKind)->List (Str×Addr)->List (Str×Addr)
 |[],acc=>acc
 |(n,k)::r,acc=>if k==.free then cu env r ((n,(env.cells.lookup n).getD 0)::acc) else cu env r acc
theorem nO {env:Env} (f:Str×NameKind->List (Str×Addr)->Sem (ForInStep (List (Str×Addr))))
  (hf:∀n k acc,f (n,k) acc=if k==.free then (do let c←cellOf env n;pure (.yield ((n,c)::acc))) else pure (.yield acc)):
  ∀(names:List (Str×NameKind)) (acc:List (Str×Addr)),(∀x∈names,x.2=.free->∃c,env.cells.lookup x.1=some c)->forIn names acc f=pure (cu env names acc)
 |[],acc,_=>by rw [List.forIn_nil];rfl
 |(n,k)::r,acc,h=>by
  have hr:∀x∈r,x.2=.free->∃c,env.cells.lookup x.1=some c:=fun x hx=>h x (List.mem_cons_of_mem _ hx)
  rw [List.forIn_cons,hf]
  unfold cu
  by_cases hk:(k==NameKind.free)=true
  ·rw [if_pos hk,if_pos hk]
   obtain ⟨c,hc⟩:=h (n,k) List.mem_cons_self (beq_iff_eq.mp hk)
   have hc':env.cells.lookup n=some c:=hc
   rw [hc']
   simp only [cellOf,hc',pure_bind,Option.getD_some]
   exact nO f hf r _ hr
  ·rw [if_neg hk,if_neg hk]
   simp only [pure_bind]
   exact nO f hf r _ hr
theorem cD {scope:Scope} {env:Env} (h:∀x∈scope.names,x.2=.free->∃c,env.cells.lookup x.1=some c):closureFor scope env=pure (cu env scope.names []):=by
 simp only [closureFor]
 rw [nO (env:=env) _ (fun n k acc=>by cases hk:k==NameKind.free<;>simp [hk]) _ _ h]
 rfl
theorem gf {α:Type} {x:Str} {v:α}:∀{l:List (Str×α)},(l.map (·.1)).Nodup->(x,v)∈l->l.lookup x=some v
 |(k,u)::r,hn,hm=>by
  rw [List.map_cons,List.nodup_cons] at hn
  rw [List.lookup_cons]
  rcases List.mem_cons.mp hm with e|hm
  ·cases e;simp
  ·have:x≠k:=fun e=>hn.1 (e▸List.mem_map.mpr ⟨(x,v),hm,rfl⟩)
   rw [beq_false_of_ne this]
   exact gf hn.2 hm
theorem eY {α:Type} {x:Str} {v:α}:∀{l:List (Str×α)},(x,v)∈l->∃u,l.lookup x=some u
 |(k,u)::r,hm=>by
  rw [List.lookup_cons]
  rcases List.mem_cons.mp hm with e|hm
  ·cases e;exact ⟨v,by simp⟩
  ·cases x==k with
   |true=>exact ⟨u,rfl⟩
   |false=>exact eY hm
theorem ie {env:Env} {p:Str×Addr}:∀{names:List (Str×NameKind)} {acc:List (Str×Addr)},p∈acc->p∈cu env names acc
 |[],_,h=>h
 |(n,k)::r,acc,h=>by
  unfold cu
  split
  ·exact ie (List.mem_cons_of_mem _ h)
  ·exact ie h
theorem hI {env:Env} {n:Str} {c:Addr}:∀{names:List (Str×NameKind)} {acc:List (Str×Addr)},(∀x∈names,x.2=.free->∃c,env.cells.lookup x.1=some c)->(n,c)∈cu env names acc->
  (n,c)∈acc∨(env.cells.lookup n=some c∧(n,NameKind.free)∈names)
 |[],_,_,h=>.inl h
 |(m,k)::r,acc,hf,h=>by
  have hr:∀x∈r,x.2=.free->∃c,env.cells.lookup x.1=some c:=fun x hx=>hf x (List.mem_cons_of_mem _ hx)
  unfold cu at h
  split at h
  ·rename_i hk
   have hk':k=.free:=beq_iff_eq.mp hk
   obtain ⟨c',hc⟩:=hf (m,k) List.mem_cons_self hk'
   have hc':env.cells.lookup m=some c':=hc
   rcases hI hr h with h|⟨h1,h2⟩
   ·rcases List.mem_cons.mp h with e|h
    ·rw [hc'] at e;cases e
     exact .inr ⟨hc',by rw [hk'];exact List.mem_cons_self⟩
    ·exact .inl h
   ·exact .inr ⟨h1,List.mem_cons_of_mem _ h2⟩
  ·rcases hI hr h with h|⟨h1,h2⟩
   ·exact .inl h
   ·exact .inr ⟨h1,List.mem_cons_of_mem _ h2⟩
theorem kP {env:Env} {n:Str} {c:Addr} (hc:env.cells.lookup n=some c):∀{names:List (Str×NameKind)} {acc:List (Str×Addr)},(n,NameKind.free)∈names->(n,c)∈cu env names acc
 |(m,k)::r,acc,h=>by
  unfold cu
  rcases List.mem_cons.mp h with e|h
  ·cases e
   rw [if_pos (by decide),hc]
   exact ie List.mem_cons_self
  ·split<;>exact kP hc h
theorem bx:∀(names:List (Str×NameKind)) (n:Nat) (acc:List (Str×Addr)),cellsFrom n names acc=cellsFrom n names []++acc
 |[],_,_=>rfl
 |(m,k)::r,n,acc=>by
  unfold cellsFrom
  split
  ·rw [bx r (n+1) ((m,n)::acc),bx r (n+1) [(m,n)],List.append_assoc];rfl
  ·exact bx r n acc
theorem dO {x:Str} {c:Addr}:∀{names:List (Str×NameKind)} {n:Nat} {acc:List (Str×Addr)},(x,c)∈cellsFrom n names acc->(x,c)∈acc∨(x,NameKind.cell)∈names
 |[],_,_,h=>.inl h
 |(m,k)::r,n,acc,h=>by
  unfold cellsFrom at h
  split at h
  ·rename_i hk
   have hk':k=.cell:=beq_iff_eq.mp hk
   rcases dO h with h|h
   ·rcases List.mem_cons.mp h with e|h
    ·cases e;exact .inr (by rw [hk'];exact List.mem_cons_self)
    ·exact .inl h
   ·exact .inr (List.mem_cons_of_mem _ h)
  ·rcases dO h with h|h
   ·exact .inl h
   ·exact .inr (List.mem_cons_of_mem _ h)
theorem dS {x:Str}:∀{names:List (Str×NameKind)} {n:Nat} {acc:List (Str×Addr)},(x,NameKind.cell)∈names->∃c,(x,c)∈cellsFrom n names acc
 |(m,k)::r,n,acc,h=>by
  unfold cellsFrom
  rcases List.mem_cons.mp h with e|h
  ·cases e
   rw [if_pos (by decide),bx]
   exact ⟨n,List.mem_append_right _ List.mem_cons_self⟩
  ·split
   ·exact dS h
   ·exact dS h
theorem lookup_map2 {α β:Type} {f:Str->α->β} {x:Str}:∀{l:List (Str×α)},(l.map fun p=>(p.1,f p.1 p.2)).lookup x=(l.lookup x).map (f x)
 |[]=>rfl
 |(n,k)::r=>by
  rw [List.map_cons,List.lookup_cons,List.lookup_cons]
  by_cases hx:x=n
  ·subst hx;simp
  ·rw [beq_false_of_ne hx];exact lookup_map2
noncomputable def kin (env:Env) (x:Str) (k:NameKind):NameKind:=if (k==NameKind.free&&env.scope.kind==.function&&env.kindOf x==some .cell)=true then .cell else k
theorem jE {env:Env} {x:Str} {names:List (Str×NameKind)}:
  (names.map fun (n,k)=>if (k==NameKind.free&&env.scope.kind==.function&&env.kindOf n==some .cell) then (n,NameKind.cell) else (n,k)).lookup x=(names.lookup x).map (kin env x):=by
 rw [←lookup_map2 (f:=kin env)]
 congr 1
 refine List.map_congr_left fun p _=>?_
 obtain ⟨n,k⟩:=p
 show (if _ then _ else _)=(n,if _ then _ else _)
 split<;>rfl
theorem kq {M:Model} {A:Around} {E:Value->Shared->Prop} {s:Shared} {scope:Scope} {globals:Addr} {cl:List (Str×Addr)} {qual:Str} {env:Env} {Q:Env->Shared->Prop}
  (h:Q {scope:=scope,locals:=s.heap.objs.size,globals:=globals,cells:=cellsFrom (s.heap.objs.size+1) scope.names cl,qual:=qual,func:=none,code:=env.code,frame:=env.frame,builtins:=env.builtins}
   {s with heap:=pushCells (s.heap.push {cls:=.type "dict",data:=.dict #[]}) scope.names}):
  wpAny M A (newFunctionEnv scope globals cl [] qual none .none (some env)) Q E s:=by
 simp only [newFunctionEnv,Option.isSome_some,if_true]
 refine wpAny_bind (wpAny_alloc ?_)
 refine wpAny_bind (wpAny_layCells _ (fun name kind cells=>by cases hkc:kind==NameKind.cell<;>simp [hkc]) _ _ _ _ ?_)
 rw [show ({s with heap:=s.heap.push {cls:=.type "dict",data:=.dict #[]}}:Shared).heap.objs.size=s.heap.objs.size+1 from Heap.size_push ..]
 simp only [List.forIn_nil,pure_bind]
 exact wpAny_pure h
noncomputable def aR (elt:Expr) (gens:List Comprehension) (scope:Scope) (pos:Pos) (d:Nat) (acc:Value) (env:Env):Sem Unit:=
 match gens[d+1]? with
 |some g'=>do
  let x←eval g'.iter env
  standAt g'.iter.pos
  let x←if g'.is_async !=0 then foldedIterable g'.iter x else foldedSetIterable g'.iter env x
  let _←runOwn (.compStart (.ListComp elt gens scope pos) (d+1) (←holding [x] (if g'.is_async !=0 then asyncIter x else pyIter x)) acc env) env
 |none=>do let _←call (.builtin "list.append") [acc,←eval elt env]
theorem dD (elt:Expr) (gens:List Comprehension) (scope:Scope) (pos:Pos) (d:Nat) (it acc:Value) (env:Env) {tg iter:Expr} {ifs:List Expr} (hg:gens[d]?=some ⟨tg,iter,ifs,0⟩):
  compTurn (.ListComp elt gens scope pos) d it acc env=(standAt iter.pos>>=fun _=>pyNext it>>=fun r=>match r with
   |none=>pure (.done .next)
   |some v=>letOwnedTupleGo tg it v>>=fun _=>assign tg env v>>=fun _=>
    (forIn ifs true fun c r=>if r=true then do let ok←isTrue c env (eval c env);pure (ForInStep.yield ok) else pure (ForInStep.yield r))>>=fun ok=>
     (if ok=true then aR elt gens scope pos d acc env else pure ())>>=fun _=>again (.compLoop (.ListComp elt gens scope pos) d it acc env)):=by
 unfold compTurn aR
 simp only [hg,show ((0:Int) !=0)=false from rfl,Bool.false_eq_true,if_false]
 congr 1
 funext _
 congr 1
 funext r
 cases r with
 |none=>rfl
 |some v=>
  dsimp only
  congr 1;funext _
  congr 1;funext _
  congr 1;funext ok
  cases ok with
  |false=>simp
  |true=>
   simp only [if_true]
   cases gens[d+1]? with
   |none=>rfl
   |some g'=>
    by_cases ha:(g'.is_async !=0)=true
    ·simp [ha,bind_assoc]
    ·simp [ha,bind_assoc]
section
variable {prog:Program} {w:World} {A:Around} {R:Result->Shared->Prop} {s:Shared}
theorem ej {elt:Expr} {gens:List Comprehension} {scope:Scope} {pos:Pos} {d:Nat} {it acc:Value} {env:Env} {tg iter:Expr} {ifs:List Expr} (hg:gens[d]?=some ⟨tg,iter,ifs,0⟩)
  (h0:codeAny (model prog w) A (.compLoop (.ListComp elt gens scope pos) d it acc env) R s)
  (h:wpAny (model prog w) A (pyIter it) (fun it' s'=>codeAny (model prog w) A (.compLoop (.ListComp elt gens scope pos) d it' acc env) R s') (notedBy (model prog w) A env fun x s'=>R (.error x) s') s):
  codeAny (model prog w) A (.compStart (.ListComp elt gens scope pos) d it acc env) R s:=by
 refine codeAny_of_tree ?_
 show wpAny _ _ ((compStart (.ListComp elt gens scope pos) d it acc env).onRaise (fun x=>do noteFrame x env;standAt theWindowsPlace)) _ _ s
 refine wpAny_notedAt ?_
 unfold compStart
 have e:(clausesOf (.ListComp elt gens scope pos))[d]?=some ⟨tg,iter,ifs,0⟩:=hg
 rw [e]
 show wpAny _ _ (ask>>=_) _ _ s
 refine wpAny_bind (wpAny_askSetting (wpAny_ite ?_))
 split
 ·first
   |exact wpAny_bind (wpAny_pure (wpAny_pure (And.intro rfl h0)))
   |exact wpAny_pure (And.intro rfl h0)
 ·first
   |exact wpAny_bind (wpAny_rule (wpAny_bind (wpAny_standAt (wpAny_bind (wpAny_mono h (fun it' s' h'=>wpAny_pure (And.intro rfl h')) fun _ _ x=>x)))))
   |(refine wpAny_bind (wpAny_rule ?_);show wpAny _ _ (standAt iter.pos>>=_) _ _ s;exact wpAny_bind (wpAny_standAt (wpAny_bind (wpAny_mono h (fun it' s' h'=>wpAny_pure (And.intro rfl h')) fun _ _ x=>x))))
end
end CT
namespace CT
open PySem PySem.Spec L2
open PyProof.Rows hiding St
noncomputable def bE (X:Cx) (scope:Scope) (n0:Nat):Env:=
 {scope:=relabel scope X.env,locals:=n0+1,globals:=X.env.globals,cells:=cellsFrom (n0+2) scope.names (cu X.env scope.names []),qual:=X.env.qual,func:=none,code:=X.env.code,frame:=X.env.frame,builtins:=X.env.builtins}
structure CS (X:Cx) (scope:Scope) (own:List Str) (cap:List (Str×Nat)):Prop where
 kind:scope.kind=.function
 nd:(scope.names.map (·.1)).Nodup
 fr:∀x∈scope.names,x.2=.free->X.env.kindOf x.1=some .cell∨X.env.kindOf x.1=some .free
 Bc:∀x∈own,(x,NameKind.local)∈scope.names∨(x,NameKind.cell)∈scope.names
 Bj:∀p∈cap,X.N[p.2]?=some p.1∧(p.1,NameKind.free)∈scope.names
 nN:(own++cap.map (·.1)).Nodup
noncomputable def cX (X:Cx) (scope:Scope) (own:List Str) (cap:List (Str×Nat)) (pins:List (Addr×Obj)) (s₂:Shared) (H₂:Hp) (fp:List Addr):Cx:=
 {prog:=X.prog,w:=X.w,K:=X.K,mg:=X.mg,base:=X.base,A:=X.A,N:=own++cap.map (·.1),s₀:=s₂,H₀:=H₂,env:=bE X scope s₂.heap.objs.size,outer:=X.stack,stack:=X.stack,ex:=fp,
  fn:=fun x=>decide (x∈own),calm:=X.calm,pn:=X.pn++pins,xe:=fun _ _=>False}
noncomputable def cS (own:List Str) (cap:List (Str×Nat)) (σ:St):St:=own.map (fun _=>none)++cap.map fun p=>(σ[p.2]?).join
section
variable {X:Cx} {scope:Scope} {own:List Str} {cap:List (Str×Nat)} {pins:List (Addr×Obj)} {σ:St} {H:Hp} {s:Shared} {fp:List Addr}
theorem CS.lk (cs:CS X scope own cap) {x:Str} {k:NameKind} (h:(x,k)∈scope.names):scope.names.lookup x=some k:=gf cs.nd h
theorem CS.uniq (cs:CS X scope own cap) {x:Str} {k k':NameKind} (h:(x,k)∈scope.names) (h':(x,k')∈scope.names):k=k':=Option.some.inj ((cs.lk h).symm.trans (cs.lk h'))
theorem gW {n0:Nat} {x:Str}:(bE X scope n0).kindOf x=(scope.names.lookup x).map (kin X.env x):=jE
theorem eG {x:Str} {c:Addr}:∀{names:List (Str×NameKind)} {n:Nat} {acc:List (Str×Addr)},(x,c)∈cellsFrom n names acc->(x,c)∈acc∨n<=c
 |[],_,_,h=>.inl h
 |(m,k)::r,n,acc,h=>by
  unfold cellsFrom at h
  split at h
  ·rcases eG h with h|h
   ·rcases List.mem_cons.mp h with e|h
    ·cases e;exact .inr (Nat.le_refl _)
    ·exact .inl h
   ·exact .inr (Nat.le_of_succ_le h)
  ·exact eG h
theorem CS.jg (cs:CS X scope own cap) (ok:X.Ok):∀x∈scope.names,x.2=.free->∃c,X.env.cells.lookup x.1=some c:=fun x hx e=>ok.has x.1 (cs.fr x hx e)
theorem CS.bf (cs:CS X scope own cap) (ok:X.Ok) {n0:Nat} {x:Str} {c:Addr} (h:(bE X scope n0).cells.lookup x=some c):
  ((x,NameKind.cell)∈scope.names∧n0+2<=c∧(x,c)∈cellsFrom (n0+2) scope.names [])∨((x,NameKind.free)∈scope.names∧X.env.cells.lookup x=some c):=by
 have hm:(x,c)∈cellsFrom (n0+2) scope.names (cu X.env scope.names []):=mem_of_lookup h
 rw [bx] at hm
 rcases List.mem_append.mp hm with hm|hm
 ·refine .inl ⟨?_,?_,hm⟩
  ·rcases dO hm with z|z
   ·cases z
   ·exact z
  ·rcases eG hm with z|z
   ·cases z
   ·exact z
 ·rcases hI (cs.jg ok) hm with z|⟨z1,z2⟩
  ·cases z
  ·exact .inr ⟨z2,z1⟩
theorem CS.kY (cs:CS X scope own cap) (ok:X.Ok) {n0:Nat} {x:Str} {c:Addr} (hx:(x,NameKind.free)∈scope.names) (hc:X.env.cells.lookup x=some c):(bE X scope n0).cells.lookup x=some c:=by
 have hm:(x,c)∈cellsFrom (n0+2) scope.names (cu X.env scope.names []):=by
  rw [bx]
  exact List.mem_append_right _ (kP hc hx)
 obtain ⟨u,hu⟩:=eY hm
 have hu':(bE X scope n0).cells.lookup x=some u:=hu
 rcases cs.bf ok hu' with ⟨z,_⟩|⟨_,z⟩
 ·cases cs.uniq hx z
 ·rw [hc] at z;cases z;exact hu'
theorem CS.qX (cs:CS X scope own cap) {n0:Nat} {x:Str} (hx:(x,NameKind.cell)∈scope.names):∃c,(bE X scope n0).cells.lookup x=some c:=by
 obtain ⟨c,hc⟩:=dS (n:=n0+2) (acc:=cu X.env scope.names []) hx
 exact eY hc
theorem Al (I:Inv X pins σ H s) (cs:CS X scope own cap) (hf:∀b∈fp,a_ X pins H b) (hlt:∀b∈fp,b<s.heap.objs.size):(cX X scope own cap pins s H fp).Ok where
 mod:=I.ok.mod
 kind:=cs.kind
 glob:=I.ok.glob
 blt:=I.ok.blt
 above:=Nat.le_succ _
 inj:=fun x y c h1 h2=>by
  rcases cs.bf I.ok h1 with ⟨a1,a2,a3⟩|⟨a1,a2⟩<;>rcases cs.bf I.ok h2 with ⟨b1,b2,b3⟩|⟨b1,b2⟩
  ·have k:=cellsFrom_ok scope.names ((s.heap.push {cls:=.type "list",data:=.seq #[] 0}).push {cls:=.type "list",data:=.seq #[] 0}) 0 [] ⟨fun _ _ hm=>(nomatch hm),List.Pairwise.nil⟩ (Nat.zero_le _)
   rw [Heap.size_push,Heap.size_push] at k
   exact name_of_addr k.apart a3 b3
  ·obtain ⟨v,hv⟩:=I.cell y c b2
   exact absurd (Nat.lt_of_lt_of_le hv.lt (Nat.le_trans (Nat.le_add_right _ 2) a2)) (Nat.lt_irrefl _)
  ·obtain ⟨v,hv⟩:=I.cell x c a2
   exact absurd (Nat.lt_of_lt_of_le hv.lt (Nat.le_trans (Nat.le_add_right _ 2) b2)) (Nat.lt_irrefl _)
  ·exact I.ok.inj x y c a2 b2
 has:=fun x hx=>by
  have e:(bE X scope s.heap.objs.size).kindOf x=(scope.names.lookup x).map (kin X.env x):=gW
  have hx':(scope.names.lookup x).map (kin X.env x)=some .cell∨(scope.names.lookup x).map (kin X.env x)=some .free:=by rw [←e];exact hx
  cases hk:scope.names.lookup x with
  |none=>rw [hk] at hx';rcases hx' with z|z<;>cases z
  |some k=>
   rw [hk] at hx'
   have hm:=mem_of_lookup hk
   by_cases hfree:k=.free
   ·subst hfree
    obtain ⟨c,hc⟩:=cs.jg I.ok _ hm rfl
    exact ⟨c,cs.kY I.ok hm hc⟩
   ·have hkk:kin X.env x k=k:=by
     unfold kin
     rw [if_neg]
     intro z
     have:(k==NameKind.free)=false:=by simpa using hfree
     rw [this] at z;cases z
    have hk':k=.cell:=by
     rcases hx' with z|z
     ·have z':some (kin X.env x k)=some NameKind.cell:=z
      rw [hkk] at z';exact Option.some.inj z'
     ·have z':some (kin X.env x k)=some NameKind.free:=z
      rw [hkk] at z';exact absurd (Option.some.inj z') hfree
    subst hk'
    exact cs.qX hm
 cab:=fun x c hx hc=>by
  have hx':x∈own:=of_decide_eq_true hx
  rcases cs.bf I.ok hc with ⟨_,a,_⟩|⟨a,_⟩
  ·exact Nat.le_trans (Nat.le_add_right _ 2) a
  ·rcases cs.Bc x hx' with z|z<;>cases cs.uniq a z
 hd:=I.ok.hd
 frames:=I.ok.frames
 stk:=.inl rfl
 exf:=fun b hb=>⟨Nat.ne_of_lt (Nat.lt_succ_of_lt (hlt b hb)),fun x c hc=>by
  rcases cs.bf I.ok hc with ⟨_,a,_⟩|⟨_,a⟩
  ·exact Nat.ne_of_gt (Nat.lt_of_lt_of_le (hlt b hb) (Nat.le_trans (Nat.le_add_right _ 2) a))
  ·exact (hf b hb).2.2.2.2.1 x c a⟩
 bs:=fun b o e=>I.bs b o e
 bsz:=Nat.le_trans I.ok.bsz I.sz
 iu:=fun b o e hb=>by
  rcases (hf b hb).2.2.2.1 with z|z
  ·exact I.ok.iu b o e z
  ·exact absurd (Nat.lt_of_lt_of_le (Heap.lt_size e) (Nat.le_trans I.ok.bsz z)) (Nat.lt_irrefl _)
 lM:=fun b hb z=>by
  rcases List.mem_cons.mp (I.fA b z) with z|z
  ·exact (hf b hb).2.1 z
  ·exact (hf b hb).2.2.1 z
 dq:=I.stack
 frf:=I.l5
theorem qM {env:Env} {x:Str} (h:env.kindOf x=some .cell∨env.kindOf x=some .free):kin env x .free=.cell∨kin env x .free=.free:=by
 unfold kin;split
 ·exact .inl rfl
 ·exact .inr rfl
theorem rO (I:Inv X pins σ H s) (cs:CS X scope own cap) (hf:∀b∈fp,a_ X pins H b) (hlt:∀b∈fp,b<s.heap.objs.size) {o:Obj} (hof:o.isFreed=false):
  Inv (cX X scope own cap pins s H fp) [] (cS own cap σ) H {s with heap:=pushCells ((s.heap.push o).push {cls:=.type "dict",data:=.dict #[]}) scope.names}:=by
 have kp:∀b u,s.heap.get? b=some u->(pushCells ((s.heap.push o).push {cls:=.type "dict",data:=.dict #[]}) scope.names).get? b=some u:=fun b u e=>pushCells_keeps _ _ b u (Heap.get?_push_of_some _ (Heap.get?_push_of_some _ e))
 have ck:=cellsFrom_ok scope.names ((s.heap.push o).push {cls:=.type "dict",data:=.dict #[]}) 0 [] ⟨fun _ _ hm=>(nomatch hm),List.Pairwise.nil⟩ (Nat.zero_le _)
 rw [Heap.size_push,Heap.size_push] at ck
 refine ⟨Al I cs hf hlt,rfl,I.bare,Un.kept kp,?_,?_,I.hok.fresh (Nat.le_succ _),?_,?_,I.hok.kept kp,?_⟩
 ·refine ⟨fun _=>none,?_,fun i x v e1 e2 e3=>?_⟩
  ·have n:=Heap.Ns.new (s.heap.push o) (.type "dict")
   rw [Heap.size_push] at n
   exact n.keeps (pushCells_keeps _ _)
  ·have e1':(own++cap.map (·.1))[i]?=some x:=e1
   have e2':(own.map (fun _=>(none:Option V))++cap.map fun p=>(σ[p.2]?).join)[i]?=some (some v):=e2
   by_cases hi:i<own.length
   ·rw [List.getElem?_append_left (by simpa using hi),List.getElem?_map] at e2'
    cases hq:own[i]? with
    |none=>rw [hq] at e2';cases e2'
    |some y=>rw [hq] at e2';cases e2'
   ·have hi':own.length<=i:=Nat.le_of_not_lt hi
    rw [List.getElem?_append_right hi',List.getElem?_map] at e1'
    rw [List.getElem?_append_right (by simpa using hi'),List.getElem?_map,List.length_map] at e2'
    cases hq:cap[i - own.length]? with
    |none=>rw [hq] at e1';cases e1'
    |some p=>
     rw [hq] at e1' e2'
     have e1'':p.1=x:=Option.some.inj e1'
     have e2'':(σ[p.2]?).join=some v:=Option.some.inj e2'
     subst e1''
     have e2s:σ[p.2]?=some (some v):=by
      cases hs:σ[p.2]? with
      |none=>rw [hs] at e2'';cases e2''
      |some y=>rw [hs] at e2'';rw [show y=some v from e2'']
     obtain ⟨hN,hfree⟩:=cs.Bj p (List.mem_of_getElem? hq)
     have hkk:=cs.fr _ hfree rfl
     have vis:Vis X.env.scope p.1:=hkk.elim (fun z=>.inr (.inl z)) fun z=>.inr (.inr z)
     obtain ⟨m,hn,hl⟩:=I.loc
     obtain ⟨u,r,l⟩:=hl p.2 p.1 v hN e2s vis
     refine ⟨u,r,.inr ⟨?_,?_⟩⟩
     ·have e:(bE X scope s.heap.objs.size).kindOf p.1=(scope.names.lookup p.1).map (kin X.env p.1):=gW
      rw [cs.lk hfree] at e
      rcases qM hkk with z|z
      ·exact .inl (e.trans (congrArg some z))
      ·exact .inr (e.trans (congrArg some z))
     ·rcases l with ⟨lk,_⟩|⟨_,c,hc,hcell⟩
      ·rcases hkk with z|z<;>(rw [z] at lk;cases lk)
      ·exact ⟨c,cs.kY I.ok hfree hc,hcell.keeps kp⟩
 ·intro x c hc
  rcases cs.bf I.ok hc with ⟨_,_,a⟩|⟨_,a⟩
  ·exact ⟨_,(ck.empty x c a).1⟩
  ·obtain ⟨v,hv⟩:=I.cell x c a
   exact ⟨v,hv.keeps kp⟩
 ·intro x c hc
  rcases cs.bf I.ok hc with ⟨_,a,_⟩|⟨_,a⟩
  ·exact I.hok.fresh (Nat.le_trans (Nat.le_add_right _ 2) a)
  ·exact I.cV x c a
 ·intro p hp
  have hp':p∈X.pn++pins:=by simpa [cX] using hp
  obtain ⟨e,n,ne,nf,d⟩:=I.pin p hp'
  refine ⟨kp _ _ e,n,Nat.ne_of_lt (Nat.lt_succ_of_lt (Heap.lt_size e)),fun z=>?_,d⟩
  rcases List.mem_cons.mp (I.fA p.1 z) with z|z
  ·exact ne z
  ·exact nf z
 ·simp [cX,cS]
noncomputable def Acc (h:Heap) (acc:Addr) (ys:List V):Prop:=∃its:List Value,Vals ys its∧h.PlainList acc its.toArray
theorem Acc.at {h h':Heap} {acc:Addr} {ys:List V} (x:Acc h acc ys) (k:∀o,h.get? acc=some o->h'.get? acc=some o):Acc h' acc ys:=let ⟨its,r,p⟩:=x;⟨its,r,p.at k⟩
theorem Acc.obj {h:Heap} {acc:Addr} {ys:List V} (x:Acc h acc ys):∃o,h.get? acc=some o∧∀v,o.data≠.cell v:=by
 obtain ⟨its,r,n,e⟩:=x
 exact ⟨_,e,fun v z=>by
  have z':Data.seq _ _=Data.cell v:=z
  cases z'⟩
end
structure AK (α:Type) where
 ac:Heap->Addr->α->Prop
 kept:∀{h h':Heap} {acc:Addr} {ys:α},ac h acc ys->(∀o,h.get? acc=some o->h'.get? acc=some o)->ac h' acc ys
 obj:∀{h:Heap} {acc:Addr} {ys:α},ac h acc ys->∃o,h.get? acc=some o∧∀v,o.data≠.cell v
noncomputable def nz:AK (List V):=⟨Acc,Acc.at,Acc.obj⟩
noncomputable abbrev TBg (α:Type):=St->Hp->α->(α->Hp->Prop)->Prop
noncomputable abbrev TB:=TBg (List V)
noncomputable def PBg {α:Type} (B:AK α) (Y:Cx) (acc:Addr) (m:Sem Unit) (t:TBg α):Prop:=
 ∀(pins:List (Addr×Obj)) (s:Shared) (σ:St) (H:Hp) (ys:α) (Q:α->Hp->Prop),Inv Y pins σ H s->a_ Y pins H acc->B.ac s.heap acc ys->t σ H ys Q->
  wpAny (model Y.prog Y.w) Y.A m (fun _ s'=>∃ys' H',Inv Y pins σ H' s'∧H' acc=none∧B.ac s'.heap acc ys'∧Q ys' H') Y.xe s
noncomputable abbrev PB (Y:Cx) (acc:Addr) (m:Sem Unit) (t:TB):Prop:=PBg nz Y acc m t
noncomputable def PTs (Y:Cx) (ifs:List Expr) (t:TT):Prop:=
 ∀(pins:List (Addr×Obj)) (s:Shared) (σ:St) (H:Hp) (Q:Bool->Hp->Prop),Inv Y pins σ H s->t σ H Q->
  wpAny (model Y.prog Y.w) Y.A (forIn ifs true fun c r=>if r=true then do let ok←isTrue c Y.env (eval c Y.env);pure (ForInStep.yield ok) else pure (ForInStep.yield r)) (TP Y pins σ Q) Y.xe s
noncomputable def kz:TT:=fun _ H Q=>Q true H
theorem gq {P:Addr->Prop} {a:Addr} (h:P a):∀b∈[a],P b:=fun b hb=>by
 have e:b=a:=by simpa using hb
 rw [e];exact h
section
variable {Y:Cx} {acc:Addr}
theorem jl:PTs Y [] kz:=fun _ _ _ H _ I h=>wpAny_pure ⟨H,I,h⟩
theorem vy {c:Expr} {t:TT} (h:PT Y c t):PTs Y [c] t:=fun pins s σ H Q I hw=>by
 simp only [List.forIn_cons,List.forIn_nil,if_true]
 exact wpAny_bind (wpAny_bind (thn (h pins s σ H Q I hw) fun b s' hb=>wpAny_pure (wpAny_pure hb)))
noncomputable def zh (te:TE):TB:=fun σ H ys Q=>ys.length<=sizeLine∧te σ H fun v H1=>Q (ys++[v]) H1
theorem vF {elt:Expr} {te:TE} (he:PE Y elt te):PB Y acc (do let _←call (.builtin "list.append") [.ref acc,←eval elt Y.env]) (zh te):=by
 intro pins s σ H ys Q I hf ha h
 obtain ⟨hz,h⟩:=h
 have I1:=I.pinned (fp:=[acc]) (gq hf) (gq ha.obj)
 refine wpAny_bind (thn (he _ s σ H _ I1 h) fun u s1 ⟨v,H1,I2,r,q⟩=>?_)
 obtain ⟨o,eo,_⟩:=ha.obj
 have pin:=I2.pin (acc,o) (List.mem_append_right _ (List.mem_append_right _ (bC (by simp) eo)))
 have ha1:Acc s1.heap acc ys:=ha.at fun o' e'=>by rw [eo] at e';cases e';exact pin.1
 obtain ⟨its,rv,pl⟩:=ha1
 obtain ⟨f0,f1,f2,f3,f4,f5⟩:=hf
 refine wpAny_bind (wpAny_list_append_plain pl (fun h' pl' sb=>wpAny_pure ?_) ?_)
 ·have I3:Inv Y pins σ H1 {s1 with heap:=h'}:=I2.bN.turned (t':=s1.toks) (fun b o hb e=>(sb.2 b hb).trans e) pin.2.1 f1 f3 f4 f5
  exact ⟨ys++[v],H1,I3,pin.2.1,⟨its++[u],rv.append (.cons r .nil),by simpa using pl'⟩,q⟩
 ·have:=rv.length
  simp only [List.size_toArray]
  omega
noncomputable def Fgt (σ σ':St):Prop:=σ.length=σ'.length∧∀(i:Nat) v,σ[i]?=some (some v)->σ'[i]?=some (some v)
noncomputable def fZ {α:Type} (g:TG) (tt:TT) (tb:TBg α) (J:It) (σ:St) (H:Hp) (ys:α) (Q:α->Hp->Prop):Prop:=
 ∃W:Nat->Nat->α->Hp->Prop,(∃m,W 0 m ys H)∧∀i m ys H,W i m ys H->
  (J.stop i H∧Q ys H)∨(J.go i H∧∀x H',J.yld i H x H'->g x σ H' fun σ2 H2=>Fgt σ σ2∧tt σ2 H2 fun b H3=>
   if b=true then tb σ2 H3 ys fun ys' H4=>∃m',m'<m∧W (i+1) m' ys' H4 else ∃m',m'<m∧W (i+1) m' ys H3)
noncomputable def i8 (P:Program) (w:World) (node:Expr) (d:Nat) (it acc:Value) (env:Env):Prop:=(∀A:Around,A.under (.compLoop node d it acc env)=A)∧(model P w).den (.compLoop node d it acc env)=(compTurn node d it acc env).onRaise (fun x=>do noteFrame x env;theTreesLotGoes x)
theorem ky {P:Program} {w:World} {elt:Expr} {gens:List Comprehension} {scope:Scope} {pos:Pos} {d:Nat} {it acc:Value} {env:Env}:i8 P w (.ListComp elt gens scope pos) d it acc env:=⟨fun _=>rfl,rfl⟩
noncomputable def iU (node:Expr) (d:Nat) (tg iter:Expr) (ifs:List Expr) (it acc:Value) (env:Env) (ins:Sem Unit):Prop:=
 compTurn node d it acc env=(standAt iter.pos>>=fun _=>pyNext it>>=fun r=>match r with
   |none=>pure (.done .next)
   |some v=>letOwnedTupleGo tg it v>>=fun _=>assign tg env v>>=fun _=>
    (forIn ifs true fun c r=>if r=true then do let ok←isTrue c env (eval c env);pure (ForInStep.yield ok) else pure (ForInStep.yield r))>>=fun ok=>
     (if ok=true then ins else pure ())>>=fun _=>again (.compLoop node d it acc env))
theorem gI {α:Type} {B:AK α} {node:Expr} {d:Nat} {tg iter:Expr} {ifs:List Expr} {ins:Sem Unit} {it:Addr} (hd:i8 Y.prog Y.w node d (.ref it) (.ref acc) Y.env) (hg:iU node d tg iter ifs (.ref it) (.ref acc) Y.env ins) {g:TG} {tt:TT} {tb:TBg α} (hc:Y.calm=true) (hx:∀e s,Y.xe e s->False)
  (h1:PG Y tg g) (h2:PTs Y ifs tt) (h3:PBg B Y acc ins tb)
  {J:It} {fp:List Addr} {tn:Nat->Heap->Prop} (T:Turn Y.prog Y.w Y.K tg J fp it tn) (hac:acc∉fp)
  {pins:List (Addr×Obj)} {s:Shared} {σ:St} {H:Hp} {ys:α} {Q:α->Hp->Prop} {R:Result->Shared->Prop} (I:Inv Y pins σ H s) (st:tn 0 s.heap) (hf:∀b∈fp,a_ Y pins H b) (ha:a_ Y pins H acc) (ac:B.ac s.heap acc ys)
  (h:fZ g tt tb J σ H ys Q) (hR:∀s' ys' H',Inv Y pins σ H' s'->H' acc=none->B.ac s'.heap acc ys'->Q ys' H'->R (.ok .next) s'):
  codeAny (model Y.prog Y.w) Y.A (.compLoop node d (.ref it) (.ref acc) Y.env) R s:=by
 obtain ⟨W,⟨m0,w0⟩,turn⟩:=h
 have stat:∀{H':Hp},(∀b∈fp,H' b=none)->∀b∈fp,a_ Y pins H' b:=fun hn b hb=>⟨hn b hb,(hf b hb).2⟩
 have nox:∀{E:Value->Shared->Prop} {α:Type} {m:Sem α} {P:α->Shared->Prop} {s:Shared},wpAny (model Y.prog Y.w) Y.A m P Y.xe s->wpAny (model Y.prog Y.w) Y.A m P E s:=fun h=>wpAny_mono h (fun _ _ q=>q) fun _ _ z=>(hx _ _ z).elim
 refine codeAny_loop rfl (fun n s'=>∃i H' ys',Inv Y pins σ H' s'∧tn i s'.heap∧(∀b∈fp,H' b=none)∧H' acc=none∧B.ac s'.heap acc ys'∧W i n ys' H') ?_ m0 ⟨0,H,ys,I,st,fun b hb=>(hf b hb).1,ha.1,ac,w0⟩
 rintro n s3 ⟨i,H3,ys3,I3,st3,fr3,an3,ac3,w3⟩
 rw [hd.1,hd.2]
 refine wpAny_noted ?_
 rw [hg]
 refine wpAny_bind (wpAny_standAt (wpAny_bind ?_))
 obtain ⟨oa,ea,da⟩:=(B.obj ac3)
 have fa3:a_ Y pins H3 acc:=⟨an3,ha.2⟩
 have J3:Inv Y (pins++bS [acc] s3.heap) σ H3 s3:=I3.pinned (fp:=[acc]) (gq fa3) (gq (B.obj ac3))
 have inpa:(acc,oa)∈bS [acc] s3.heap:=bC (by simp) ea
 have stat':∀{H':Hp},(∀b∈fp,H' b=none)->∀b∈fp,a_ Y (pins++bS [acc] s3.heap) H' b:=fun hn b hb=>by
  obtain ⟨f0,f1,f2,f3,f4,f5⟩:=stat hn b hb
  refine ⟨f0,f1,f2,f3,f4,fun p hp z=>?_⟩
  rw [←List.append_assoc] at hp
  rcases List.mem_append.mp hp with hp|hp
  ·exact f5 p hp z
  ·have e:p.1=acc:=by simpa using (gv hp).1
   exact hac (by rw [←e,z];exact hb)
 rcases turn i n ys3 H3 w3 with ⟨stop,qn⟩|⟨go,step⟩
 ·refine thn (T.done Y rfl rfl rfl hc i _ s3 σ H3 _ J3 (stat' fr3) st3 stop) fun r s4 ⟨hr,I4⟩=>?_
  subst hr
  refine wpAny_pure ?_
  have p4:=I4.pin (acc,oa) (List.mem_append_right _ (List.mem_append_right _ inpa))
  exact hR s4 ys3 H3 I4.bN an3 (B.kept ac3 fun o e=>by rw [ea] at e;cases e;exact p4.1) qn
 ·refine thn (T.item Y rfl rfl rfl hc i _ s3 σ H3 _ J3 (stat' fr3) st3 go) fun r s4 ⟨u,hr,h4⟩=>?_
  subst hr
  refine wpAny_bind (thn h4 fun _ s5 ⟨x,H5,I5,r5,y5,st5,fr5⟩=>?_)
  have I5':=I5.pinned (stat' fr5) (T.obj _ _ st5)
  refine wpAny_bind (nox (thn (h1 _ s5 σ H5 x u _ I5' r5 (step x H5 y5)) fun _ s6 ⟨σ6,H6,I6,fg,q6⟩=>?_))
  refine wpAny_bind (nox (thn (h2 _ s6 σ6 H6 _ I6 q6) fun ok s7 ⟨H7,I7,q7⟩=>?_))
  have p7:=I7.pin (acc,oa) (List.mem_append_right _ (List.mem_append_left _ (List.mem_append_right _ inpa)))
  have ac7:B.ac s7.heap acc ys3:=B.kept ac3 fun o e=>by rw [ea] at e;cases e;exact p7.1
  have I7':Inv Y (pins++bS fp s5.heap) σ6 H7 s7:=I7.jj fun p hp=>I7.pin p (List.mem_append_right _ ((List.mem_append.mp hp).elim (fun z=>List.mem_append_left _ (List.mem_append_left _ z)) fun z=>List.mem_append_right _ z))
  have again':∀{s8:Shared} {H8:Hp} {ys8:α},Inv Y (pins++bS fp s5.heap) σ6 H8 s8->H8 acc=none->B.ac s8.heap acc ys8->(∃m',m'<n∧W (i+1) m' ys8 H8)->
    ∃m,m<n∧∃i H' ys',Inv Y pins σ H' s8∧tn i s8.heap∧(∀b∈fp,H' b=none)∧H' acc=none∧B.ac s8.heap acc ys'∧W i m ys' H':=fun {s8 H8 ys8} I8 an8 ac8 ⟨m',hm,w8⟩=>by
   refine ⟨m',hm,i+1,H8,ys8,I8.bN.weak fg.1 fg.2,T.keep _ _ _ st5 fun b hb o e=>(I8.pin (b,o) (List.mem_append_right _ (List.mem_append_right _ (bC hb e)))).1,fun b hb=>?_,an8,ac8,w8⟩
   obtain ⟨o,e,_⟩:=T.obj _ _ st5 b hb
   exact (I8.pin (b,o) (List.mem_append_right _ (List.mem_append_right _ (bC hb e)))).2.1
  cases ok with
  |false=>
   rw [if_neg Bool.false_ne_true] at q7 ⊢
   exact wpAny_bind (wpAny_pure (wpAny_pure ⟨rfl,again' I7' p7.2.1 ac7 q7⟩))
  |true=>
   rw [if_pos rfl] at q7 ⊢
   have fa7:a_ Y (pins++bS fp s5.heap) H7 acc:=by
    obtain ⟨_,f1,f2,f3,f4,f5⟩:=ha
    refine ⟨p7.2.1,f1,f2,f3,f4,fun p hp z=>?_⟩
    rw [←List.append_assoc] at hp
    rcases List.mem_append.mp hp with hp|hp
    ·exact f5 p hp z
    ·exact hac (by rw [←z];exact (gv hp).1)
   exact wpAny_bind (nox (thn (h3 _ s7 σ6 H7 ys3 _ I7' fa7 ac7 q7) fun _ s8 ⟨ys8,H8,I8,an8,ac8,q8⟩=>wpAny_pure ⟨rfl,again' I8 an8 ac8 q8⟩))
noncomputable def zd (wi:TI) (g:TG) (tt:TT) (tb:TB):TB:=fun σ H ys Q=>wi σ H fun J H1=>fZ g tt tb J σ H1 ys Q
theorem vD {elt:Expr} {gens:List Comprehension} {scope:Scope} {pos:Pos} {d:Nat} {tg iter:Expr} {ifs:List Expr} (hg:gens[d+1]?=some ⟨tg,iter,ifs,0⟩) {wi:TI} {g:TG} {tt:TT} {tb:TB} (hc:Y.calm=true) (hx:∀e s,Y.xe e s->False)
  (hi:PI Y tg iter wi) (h1:PG Y tg g) (h2:PTs Y ifs tt) (h3:PB Y acc (aR elt gens scope pos (d+1) (.ref acc) Y.env) tb) (hs:∀x,foldedSetIterable iter Y.env x=pure x:=by intro _;rfl):
  PB Y acc (aR elt gens scope pos d (.ref acc) Y.env) (zd wi g tt tb):=by
 intro pins s σ H ys Q I hf ha h
 unfold aR
 rw [hg]
 obtain ⟨oa,ea,da⟩:=ha.obj
 have J1:Inv Y (pins++bS [acc] s.heap) σ H s:=I.pinned (fp:=[acc]) (gq hf) (gq ha.obj)
 have inpa:(acc,oa)∈bS [acc] s.heap:=bC (by simp) ea
 refine wpAny_bind (thn (hi _ s σ H _ J1 h) fun x s1 h1'=>wpAny_bind (wpAny_standAt ?_))
 show wpAny _ _ (foldedSetIterable iter Y.env x>>=_) _ _ s1
 refine wpAny_bind (wpAny_of_eq (hs x) ?_)
 show wpAny _ _ (holding [x] (pyIter x)>>=_) _ _ s1
 refine wpAny_bind (wpAny_holding (thn h1' fun itv s2 h2'=>?_))
 obtain ⟨it,fp,tn,J,H2,e,I2,T,st2,f2,lp⟩:=h2'
 subst e
 have p2:=I2.pin (acc,oa) (List.mem_append_right _ (List.mem_append_right _ inpa))
 have ac2:Acc s2.heap acc ys:=ha.at fun o e=>by rw [ea] at e;cases e;exact p2.1
 have hac:acc∉fp:=fun z=>(f2 acc z).2.2.2.2.2 (acc,oa) (List.mem_append_right _ (List.mem_append_right _ inpa)) rfl
 have f2':∀b∈fp,a_ Y pins H2 b:=fun b hb=>by
  obtain ⟨a0,a1,a2,a3,a4,a5⟩:=f2 b hb
  exact ⟨a0,a1,a2,a3,a4,fun p hp=>a5 p ((List.mem_append.mp hp).elim (fun z=>List.mem_append_left _ z) fun z=>List.mem_append_right _ (List.mem_append_left _ z))⟩
 have fa2:a_ Y pins H2 acc:=⟨p2.2.1,hf.2⟩
 refine wpAny_bind (wpAny_runOwn (ej hg ?_ ?_))
 ·exact gI ky (dD _ _ _ _ _ _ _ _ hg) hc hx h1 h2 h3 T hac I2.bN st2 f2' fa2 ac2 lp fun s' ys' H' I' an' ac' q'=>wpAny_pure ⟨ys',H',I',an',ac',q'⟩
 ·exact T.self _ 0 _ _ _ st2 (gI ky (dD _ _ _ _ _ _ _ _ hg) hc hx h1 h2 h3 T hac I2.bN st2 f2' fa2 ac2 lp fun s' ys' H' I' an' ac' q'=>wpAny_pure ⟨ys',H',I',an',ac',q'⟩)
end
section
variable {X:Cx} {scope:Scope} {own:List Str} {cap:List (Str×Nat)} {pins:List (Addr×Obj)} {σ:St} {H H':Hp} {s s':Shared} {fp:List Addr} {acc:Addr} {ys:List V}
theorem rX {σ':St} (I:Inv X pins σ H s) (hf:∀b∈fp,a_ X pins H b) (I':Inv (cX X scope own cap pins s H fp) [] σ' H' s') (hacc:s.heap.objs.size<=acc) (han:H' acc=none) {ob:HO} (hob:∀H0,aP X.prog X.w H0 s'.heap acc ob):
  Inv X pins σ (upd H' acc ob) s':=by
 have nacc:∀b o,s.heap.get? b=some o->b≠acc:=fun b o e=>Nat.ne_of_lt (Nat.lt_of_lt_of_le (Heap.lt_size e) hacc)
 have u:Un (frs X.stack) fp H H' s.heap s'.heap:=I'.base
 refine I.zQ (ch:=fp) I'.os ⟨u.keep,u.slot,fun b o e n hx=>?_,u.there,fun b xs e=>?_,fun b o v e=>?_,fun b ps e=>?_⟩ (fun b o e=>?_) I'.bare fun b hb=>?_
 ·rw [aj (nacc b o e)];exact u.free b o e n hx
 ·have:=u.fL b xs e
  rw [aj (aJ this han)];exact this
 ·have:=u.eU b o v e
  rw [aj (aJ this han)];exact this
 ·obtain ⟨more,this⟩:=u.fN b ps e
  exact ⟨more,by rw [aj (aJ this han)];exact this⟩
 ·by_cases hb:b=acc
  ·subst hb
   rw [aH] at e;cases e
   exact hob _
  ·rw [aj hb] at e
   exact (I'.hok b o e).gg (fun _ _ _ q=>q) (fun c q=>by rw [aj (aJ q han)];exact q) fun c xs q=>by rw [aj (aJ q han)];exact q
 ·obtain ⟨f0,f1,f2,f3,f4,f5⟩:=hf b hb
  exact ⟨f3,f1,f4,f5⟩
theorem eT {α:Type} {B:AK α} {node tg iter:Expr} {ifs:List Expr} {ins:Addr->Env->Sem Unit} {g:TG} {tt:TT} {tb:TBg α} {newAcc:Sem Value} {o:Obj} {z0:α} {fin:α->Prop} {ho:Addr->α->HO} (cs:CS X scope own cap)
  (hnew:∀{Q:Value->Shared->Prop} {E:Value->Shared->Prop} {s:Shared},Q (.ref s.heap.objs.size) {s with heap:=s.heap.push o}->wpAny (model X.prog X.w) X.A newAcc Q E s) (hof:o.isFreed=false) (hz0:∀h a,h.get? a=some o->B.ac h a z0)
  (hho:∀H0 h a ys,(a==sysModules)=false->B.ac h a ys->fin ys->aP X.prog X.w H0 h a (ho a ys)) (hdn:∀it acc env,i8 X.prog X.w node 0 (.ref it) (.ref acc) env) (hti:∀it acc env,iU node 0 tg iter ifs (.ref it) (.ref acc) env (ins acc env))
  (hcs:∀{it acc:Value} {env:Env} {R:Result->Shared->Prop} {s:Shared},codeAny (model X.prog X.w) X.A (.compLoop node 0 it acc env) R s->wpAny (model X.prog X.w) X.A (pyIter it) (fun it' s'=>codeAny (model X.prog X.w) X.A (.compLoop node 0 it' acc env) R s') (notedBy (model X.prog X.w) X.A env fun x s'=>R (.error x) s') s->codeAny (model X.prog X.w) X.A (.compStart node 0 it acc env) R s)
  (hc:X.calm=true)
  (h1:∀pins s₂ H₂ fp,PG (cX X scope own cap pins s₂ H₂ fp) tg g) (h2:∀pins s₂ H₂ fp,PTs (cX X scope own cap pins s₂ H₂ fp) ifs tt)
  (h3:∀pins s₂ H₂ fp acc,PBg B (cX X scope own cap pins s₂ H₂ fp) acc (ins acc (bE X scope s₂.heap.objs.size)) tb)
  {J:It} {it:Addr} {tn:Nat->Heap->Prop} (T:Turn X.prog X.w X.K tg J fp it tn) (I:Inv X pins σ H s) (st:tn 0 s.heap) (hf:∀b∈fp,a_ X pins H b)
  {Q:VK} (h:fZ g tt tb J (cS own cap σ) H z0 fun ys H2=>fin ys∧∀a,H2 a=none->Q (.ref a) (upd H2 a (ho a ys))) {RR:Value->Addr->Result->Shared->Prop} {E:Value->Shared->Prop}
  (hR:∀acc C s' H' m,s.heap.objs.size<=C->Inv X pins σ H' s'->H' C=none->s'.heap.Ns C m->Q (.ref acc) H'->RR (.ref acc) C (.ok .next) s'):
  wpAny (model X.prog X.w) X.A newAcc (fun acc s₃=>wpAny (model X.prog X.w) X.A (newFunctionEnv scope X.env.globals (cu X.env scope.names []) [] X.env.qual none .none (some X.env)) (fun cenv s₄=>
   codeAny (model X.prog X.w) X.A (.compStart node 0 (.ref it) acc {cenv with scope:=relabel scope X.env}) (RR acc cenv.locals) s₄) E s₃) E s:=by
 have hlt:∀b∈fp,b<s.heap.objs.size:=fun b hb=>by
  obtain ⟨o,e,_⟩:=T.obj _ _ st b hb
  exact Heap.lt_size e
 refine hnew (kq ?_)
 have e1:(s.heap.push o).objs.size=s.heap.objs.size+1:=Heap.size_push ..
 have I1:=rO I cs hf hlt (o:=o) hof
 have kp:∀b u,s.heap.get? b=some u->(pushCells ((s.heap.push o).push {cls:=.type "dict",data:=.dict #[]}) scope.names).get? b=some u:=
  fun b u e=>pushCells_keeps _ _ b u (Heap.get?_push_of_some _ (Heap.get?_push_of_some _ e))
 have st1:=T.keep _ _ _ st fun b _ o e=>kp b o e
 have ac1:B.ac (pushCells ((s.heap.push o).push {cls:=.type "dict",data:=.dict #[]}) scope.names) s.heap.objs.size z0:=
  hz0 _ _ (pushCells_keeps _ _ _ _ (Heap.get?_push_of_some _ (Heap.get?_push_size _ hof)))
 dsimp only
 rw [e1]
 have hac:s.heap.objs.size∉fp:=fun z=>Nat.lt_irrefl _ (hlt _ z)
 have fa:a_ (cX X scope own cap pins s H fp) [] H s.heap.objs.size:=by
  refine ⟨I.hok.fresh (Nat.le_refl _),Nat.ne_of_lt (Nat.lt_succ_self _),fun z=>?_,.inr (Nat.le_refl _),fun x c e z=>?_,fun p hp z=>?_⟩
  ·rcases List.mem_cons.mp (I.fA _ z) with z|z
   ·exact absurd I.lt (by rw [←z];exact Nat.lt_irrefl _)
   ·exact I.ye (Nat.le_refl _) z
  ·rcases cs.bf I.ok e with ⟨_,a,_⟩|⟨_,a⟩
   ·rw [z] at a;omega
   ·obtain ⟨v,q⟩:=I.cell x c a
    exact absurd q.lt (by rw [z];exact Nat.lt_irrefl _)
  ·have hp':p∈X.pn++pins:=by simpa [cX] using hp
   exact absurd (Heap.lt_size (I.pin p hp').1) (by rw [z];exact Nat.lt_irrefl _)
 have ff:∀b∈fp,a_ (cX X scope own cap pins s H fp) [] H b:=fun b hb=>by
  obtain ⟨f0,f1,f2,f3,f4,f5⟩:=hf b hb
  refine ⟨f0,Nat.ne_of_lt (Nat.lt_succ_of_lt (hlt b hb)),fun z=>?_,.inl hb,fun x c e=>?_,fun p hp=>?_⟩
  ·rcases List.mem_cons.mp (I.fA _ z) with z|z
   ·exact f1 z
   ·exact f2 z
  ·rcases cs.bf I.ok e with ⟨_,a,_⟩|⟨_,a⟩
   ·exact Nat.ne_of_gt (Nat.lt_of_lt_of_le (hlt b hb) (Nat.le_trans (Nat.le_add_right _ 2) a))
   ·exact f4 x c a
  ·have hp':p∈X.pn++pins:=by simpa [cX] using hp
   exact f5 p hp'
 have fin':∀s' ys' H',Inv (cX X scope own cap pins s H fp) [] (cS own cap σ) H' s'->H' s.heap.objs.size=none->B.ac s'.heap s.heap.objs.size ys'->(fin ys'∧∀a,H' a=none->Q (.ref a) (upd H' a (ho a ys')))->
   RR (.ref s.heap.objs.size) (s.heap.objs.size+1) (.ok .next) s':=fun s' ys' H' I' an' ac' q'=>by
  have I2:=rX I hf I' (Nat.le_refl _) an' fun H0=>hho H0 _ _ _ (beq_eq_false_iff_ne.mpr (Ne.symm (Nat.ne_of_lt I.big))) ac' q'.1
  obtain ⟨m,hn,_⟩:=I'.loc
  refine hR _ _ s' _ m (Nat.le_succ _) I2 ?_ hn (q'.2 _ an')
  rw [aj (Nat.ne_of_gt (Nat.lt_succ_self _))]
  exact I'.free
 have lp:∀s₄:Shared,s₄={s with heap:=pushCells ((s.heap.push o).push {cls:=.type "dict",data:=.dict #[]}) scope.names}->
   codeAny (model X.prog X.w) X.A (.compLoop node 0 (.ref it) (.ref s.heap.objs.size) (bE X scope s.heap.objs.size)) (RR (.ref s.heap.objs.size) (s.heap.objs.size+1)) s₄:=by
  rintro s₄ rfl
  exact gI (Y:=cX X scope own cap pins s H fp) (d:=0) (hdn _ _ _) (hti _ _ _) hc (fun _ _ z=>z) (h1 pins s H fp) (h2 pins s H fp) (h3 pins s H fp s.heap.objs.size) T hac I1 st1 ff fa ac1 h fin'
 exact hcs (lp _ rfl) (T.self _ 0 _ _ _ st1 (lp _ rfl))
theorem mM {P:Program} {w:World} (H0:Hp) (h:Heap) (a:Addr) (ys:List V) (_:(a==sysModules)=false) (ac:nz.ac h a ys) (hz:ys.length<=sizeLine):aP P w H0 h a (.lst ys):=by
 obtain ⟨its,r,n,pl⟩:=ac
 exact ⟨hz,its,n,r,pl⟩
noncomputable def mY (own:List Str) (cap:List (Str×Nat)) (wi:TI) (g:TG) (tt:TT) (tb:TB):TE:=fun σ H Q=>wi σ H fun J H1=>fZ g tt tb J (cS own cap σ) H1 [] fun ys H2=>ys.length<=sizeLine∧∀a,H2 a=none->Q (.ref a) (upd H2 a (.lst ys))
variable {elt tg iter:Expr} {ifs:List Expr} {rest:List Comprehension} {pos:Pos} {wi:TI} {g:TG} {tt:TT} {tb:TB}
theorem CS.names (cs:CS X scope own cap):∀x∈scope.names,x.2=.local->scope.names.lookup x.1=some .local:=fun x hx e=>cs.lk (by rw [←e];exact hx)
theorem Inv.kB {pins:List (Addr×Obj)} {σ σ':St} {H H':Hp} {s s':Shared} {C:Addr} {h':Heap} (I:Inv X pins σ H s) (I':Inv X pins σ' H' s') (hC:s.heap.objs.size<=C) (hn:H' C=none) (hs:Heap.SameBut C s'.heap h'):Inv X pins σ' H' {s' with heap:=h'}:=by
 obtain ⟨f0,f1,f2,f3,f4,f5⟩:=I.eg hC hn
 exact I'.turned (t':=s'.toks) (fun b o hb e=>(hs.2 b hb).trans e) f0 f1 f3 f4 f5
theorem uN (cs:CS X scope own cap) (hc:X.calm=true) (hi:PI X tg iter wi) (h1:∀pins s₂ H₂ fp,PG (cX X scope own cap pins s₂ H₂ fp) tg g) (h2:∀pins s₂ H₂ fp,PTs (cX X scope own cap pins s₂ H₂ fp) ifs tt)
  (h3:∀pins s₂ H₂ fp acc,PB (cX X scope own cap pins s₂ H₂ fp) acc (aR elt (⟨tg,iter,ifs,0⟩::rest) scope pos 0 (.ref acc) (bE X scope s₂.heap.objs.size)) tb)
  (hs:∀x,foldedSetIterable iter X.env x=pure x:=by intro _;rfl):PE X (.ListComp elt (⟨tg,iter,ifs,0⟩::rest) scope pos) (mY own cap wi g tt tb):=by
 intro pins s σ H Q I h
 rw [eval_ListComp]
 refine wpAny_comprehension_free (use:=none) rfl hs (cD (cs.jg I.ok)) cs.kind cs.names ?_
 refine thn (hi pins s σ H _ I h) fun x s1 h1'=>thn h1' fun itv s2 h2'=>?_
 obtain ⟨it,fp,tn,J,H2,e,I2,T,st2,f2,lp⟩:=h2'
 subst e
 refine eT (B:=nz) (fin:=fun ys=>ys.length<=sizeLine) (ho:=fun _ ys=>.lst ys) (RR:=fun acc C=>compPost (model X.prog X.w) X.A X.xe none (EP X pins σ Q) acc C) cs wpAny_newObj_type rfl (fun h a e=>⟨[],.nil,_,e⟩) mM (fun _ _ _=>ky) (fun it acc env=>dD _ _ _ _ _ _ _ _ rfl) (ej rfl) hc h1 h2 h3 T I2 st2 f2 lp ?_
 intro acc C s' H' m hC I' hn hns q
 exact ⟨m,hns,fun h' hs'=>⟨.ref acc,H',CT.Inv.kB I2 I' hC hn hs',rfl,q⟩⟩
theorem ue {i:Nat} {x:Str} {pos' spos:Pos} (cs:CS X scope own cap) (hc:X.calm=true) (hN:X.N.Nodup) (hix:X.N[i]?=some x) (hx:Loc X.env.scope x) (hi:PI X tg iter wi) (h1:∀pins s₂ H₂ fp,PG (cX X scope own cap pins s₂ H₂ fp) tg g)
  (h2:∀pins s₂ H₂ fp,PTs (cX X scope own cap pins s₂ H₂ fp) ifs tt)
  (h3:∀pins s₂ H₂ fp acc,PB (cX X scope own cap pins s₂ H₂ fp) acc (aR elt (⟨tg,iter,ifs,0⟩::rest) scope pos 0 (.ref acc) (bE X scope s₂.heap.objs.size)) tb)
  (hsw:swapsWith (.ListComp elt (⟨tg,iter,ifs,0⟩::rest) scope pos) (some (.Name x pos')) spos.line X.env=pure true)
  (hs:∀x,foldedSetIterable iter X.env x=pure x:=by intro _;rfl) (hf:X.fn x=true∨X.env.scope.names.lookup x=some .local:=by first|exact .inl rfl|exact .inr rfl|assumption):
  PS X (.Assign [.Name x pos'] (.ListComp elt (⟨tg,iter,ifs,0⟩::rest) scope pos) spos) (jx (mY own cap wi g tt tb) (dZ i)):=by
 intro pins s σ H D I h
 rw [exec_Assign_Name_used _ _ _ _ hsw]
 refine wpAny_bind (wpAny_standAt (wpAny_bind ?_))
 show wpAny _ X.A (do let _←comprehension (.ListComp elt (⟨tg,iter,ifs,0⟩::rest) scope pos) scope X.env _ (newList []) false (eval iter X.env) (some (assign (.Name x pos') X.env))) _ _ s
 refine wpAny_bind (wpAny_mono (wpAny_comprehension_free (use:=some (assign (.Name x pos') X.env)) (Q:=fun _ s'=>SP X pins D .next s') rfl hs (cD (cs.jg I.ok)) cs.kind cs.names ?_) (fun _ s' hq=>wpAny_pure (wpAny_pure hq)) fun _ _ e=>e)
 refine thn (hi pins s σ H _ I h) fun xv s1 h1'=>thn h1' fun itv s2 h2'=>?_
 obtain ⟨it,fp,tn,J,H2,e,I2,T,st2,f2,lp⟩:=h2'
 subst e
 refine eT (B:=nz) (fin:=fun ys=>ys.length<=sizeLine) (ho:=fun _ ys=>.lst ys) (Q:=fun x H1=>dZ i x σ H1 D.nx) (RR:=fun acc C=>compPost (model X.prog X.w) X.A X.xe (some (assign (.Name x pos') X.env)) (fun _ s'=>SP X pins D .next s') acc C) cs wpAny_newObj_type rfl (fun h a e=>⟨[],.nil,_,e⟩) mM (fun _ _ _=>ky) (fun it acc env=>dD _ _ _ _ _ _ _ _ rfl) (ej rfl) hc h1 h2 h3 T I2 st2 f2 lp ?_
 intro acc C s' H' m hC I' hn hns q
 show wpAny _ X.A (assign (.Name x pos') X.env (.ref acc)) _ _ _
 refine wpAny_assign_Name (gG I' hN hix hx (v:=.ref acc) rfl (fun s'' I'' ⟨a,sb,ha⟩=>?_) hf)
 have hne:C≠a:=by
  rcases ha with z|z
  ·rw [z];exact Nat.ne_of_gt (Nat.lt_of_lt_of_le I2.lt hC)
  ·obtain ⟨v,hv⟩:=I2.cell x a z
   exact Nat.ne_of_gt (Nat.lt_of_lt_of_le hv.lt hC)
 exact ⟨m,hns.sameBut sb hne,fun h' hs'=>⟨_,H',CT.Inv.kB I2 I'' hC hn hs',q⟩⟩
variable {s₂:Shared} {H₂:Hp}
end
end CT
namespace CT
open PySem PySem.Builtin
theorem g_:fillsNumberSlot (.type "tuple") "mul"=pure false:=
 fillsNumberSlot_seq (id:="tuple.__mul__") (r:=some (.builtin "tuple.__rmul__")) F.slot_tuple_mul.lookup (by decide+kernel) F.slot_tuple_rmul.lookup (by decide+kernel)
theorem kX:seqRepeat? (.type "tuple")=pure (some (.builtin "tuple.__mul__")):=by
 unfold seqRepeat?
 rw [seqSlot_of (T:="tuple") (name:="__mul__") (id:="tuple.__mul__") F.slot_tuple_mul.lookup (by decide+kernel),seqSlot_of (T:="tuple") (name:="__rmul__") (id:="tuple.__rmul__") F.slot_tuple_rmul.lookup (by decide+kernel)]
 rfl
theorem jH (a:Int) (t:Tok) (l:Addr) (d:Option Addr) (its:Array Value) (n:Nat) (sl:Array (Option Value)):
  Meets (Builtin.«int.__rmul__» ⟨[.int a t,.ref l],[]⟩) (fun _ R s=>s.heap.get? l=some {cls:=.type "tuple",dict:=d,data:=.seq its n,slots:=sl}∧R (.ok (.ret Value.notImplemented)) s):=
 .of_wp fun prog w A R s h=>by obtain ⟨hp,g,d,tk,os⟩:=s;obtain ⟨hl,h⟩:=h;wp_walk;exact ⟨_,rfl,h⟩
theorem ku (l:Addr) (d:Option Addr) (v:Value) (n:Nat) (sl:Array (Option Value)) (k:Int) (u:Tok) (h0:0<=k) (h1:k<2^20):
  Meets (Builtin.«tuple.__mul__» ⟨[.ref l,.int k u],[]⟩) (fun _ R s=>s.heap.get? l=some {cls:=.type "tuple",dict:=d,data:=.seq #[v] n,slots:=sl}∧
   if k=1 then R (.ok (.ret (.ref l))) s else R (.ok (.ret (.ref s.heap.objs.size))) {s with heap:=s.heap.push {cls:=.type "tuple",data:=.seq (List.replicate k.toNat v).toArray}}):=
 .of_wp fun prog w A R s h=>by
  obtain ⟨hp,g,dd,tk,os⟩:=s;obtain ⟨hl,h⟩:=h
  wp_walk
  refine wpAny_ite_false (by simp;omega) ?_
  wp_walk
  by_cases k1:k=1
  ·subst k1
   rw [if_pos rfl] at h
   wp_walk
   exact ⟨_,rfl,h⟩
  ·rw [if_neg k1] at h
   by_cases k0:k=0
   ·subst k0
    wp_walk
    exact ⟨_,rfl,h⟩
   ·have e:List.foldl (fun x1 x2=>x1++x2) #[] (List.replicate k.toNat #[v])=(List.replicate k.toNat v).toArray:=by
     have f:∀(m:Nat) (acc:List Value),List.foldl (fun x1 x2=>x1++x2) acc.toArray (List.replicate m #[v])=(acc++List.replicate m v).toArray:=by
      intro m
      induction m with
      |zero=>intro acc;simp
      |succ m ih=>
       intro acc
       rw [List.replicate_succ,List.foldl_cons,show acc.toArray++#[v]=(acc++[v]).toArray by simp,ih,List.replicate_succ]
       simp
     have:=f k.toNat []
     rw [List.nil_append] at this
     exact this
    wp_walk
    refine wpAny_ite_false (by simp;omega) ?_
    refine wpAny_ite_false (by simp;omega) ?_
    refine wpAny_ite_false (by simp [Tuple.tupleTooMany,sizeLine];omega) ?_
    rw [e]
    wp_walk
    refine wpAny_ite_false (by simp [sizeLine];omega) ?_
    wp_walk
    exact ⟨_,rfl,h⟩
end CT
namespace CT
open PySem PySem.Spec PySem.W L2
open Builtin Builtin.ObjectAttr
noncomputable abbrev bmV:List Value:=[.type "ValueError",.type "Exception",.type "BaseException",.type "object"]
noncomputable def kH:List Value->Bool
 |[]=>false
 |v::r=>(v::r)==bmV||(match v with|.ref _=>kH r|_=>false)
theorem jR {x:Value} (hx:bmV.contains x=true):∀{l:List Value},kH l=true->l.contains x=true
 |[],e=>nomatch e
 |v::r,e=>by
  unfold kH at e
  rcases Bool.or_eq_true_iff.mp e with q|q
  ·rw [beq_iff_eq.mp q];exact hx
  ·cases v with
   |ref c=>rw [List.contains_cons,jR hx q,Bool.or_true]
   |_=>cases q
structure iE (K:Frag) (C:Addr):Prop where
 hd:hasDictIn K C=true
 ov:(clsIn K C).any (fun cd=>kH cd.mro)=true
 ga:findIn K (.ref C) "__getattribute__"=some (some (.builtin "BaseException.__getattribute__"))
 gn:findIn K (.ref C) "__getattr__"=some none
 sa:findIn K (.ref C) "__setattr__"=some (some (.builtin "object.__setattr__"))
theorem iE.mro {K:Frag} {C:Addr} (c:iE K C) {x:Value} (hx:bmV.contains x=true):mroIn K C x=some true:=by
 obtain ⟨cd,hc,ho⟩:=any_some c.ov
 have h:=jR hx ho
 unfold mroIn
 rw [hc,Option.bind_some,if_neg (fun q=>by cases hl:cd.mro with|nil=>rw [hl] at h;cases h|cons _ _=>rw [hl] at q;cases q),h]
section
variable {prog:Program} {w:World} {A:Around} {E:Value->Shared->Prop} {s:Shared} {K:Frag} {x C:Addr} {ox:Obj} {od:Option Obj} {name:Str}
theorem xG {tk:Tok} {f:Found} {Q:Fin->Shared->Prop} (X:K.In s.heap) (I:InstAt s.heap x ox C od) (hf:findObj K C od name=some f)
  (h:wpAny (model prog w) A (match f with|.value v=>ret v|.bind g a=>bindTo g a (.ref x) (.ref C)|.missing=>unsupported "x") Q E s) (hm:f≠.missing):
  wpAny (model prog w) A (Builtin.«object.__getattribute__» ⟨[.ref x,.str name tk],[]⟩) Q E s:=by
 have L0:=I.type (M:=model prog w)
 have L1:=looks_find (M:=model prog w) X I hf
 unfold Builtin.«object.__getattribute__»
 refine wpAny_bind (wpAny_pure (wpAny_bind (wpAny_pure (wpAny_bind (L0.here (wpAny_bind (L1.here ?_)))))))
 cases f with
 |missing=>exact absurd rfl hm
 |value v=>exact h
 |bind g a=>exact h
theorem u4 {tk:Tok} {f:Found} {R:Result->Shared->Prop} (X:K.In s.heap) (I:InstAt s.heap x ox C od) (c:iE K C) (hf:findObj K C od name=some f) (hm:f≠.missing)
  (h:wpAny (model prog w) A.in1 (match f with|.value v=>ret v|.bind g a=>bindTo g a (.ref x) (.ref C)|.missing=>unsupported "x")
   (fun fin s'=>match fin with|.done f=>R (.ok f) s'|.again c'=>c'.quiet=true∧codeAny (model prog w) A c' R s') (fun e s'=>R (.error e) s') s):
  codeAny (model prog w) A (.call (.builtin "BaseException.__getattribute__") ⟨[.ref x,.str name tk],[]⟩) R s:=by
 have S:=PySem.F.attr_ValueError.ga
 have L0:Looks (model prog w) s.heap (isInstance (.ref x) (.type "BaseException")) true:=I.type.andThen (looks_mroIn X (c.mro (by decide)))
 refine codeAny_call_builtin S.plain F.entry_bexc_ga (@check_slot (model prog w) _ _ s "BaseException.__getattribute__" "BaseException" "__getattribute__" (.ref x) [.str name tk] [] _ (by decide+kernel) (by decide+kernel) L0 (F.args_bexc_ga (.ref x) (.str name tk)) ?_)
 exact xG X I hf h hm
theorem uI {tk:Tok} {fill expr:Bool} {f:Found} {Q:Value->Shared->Prop} (X:K.In s.heap) (I:InstAt s.heap x ox C od) (c:iE K C) (hf:findObj K C od name=some f) (hm:f≠.missing)
  (h:wpAny (model prog w) A.in1 (match f with|.value v=>ret v|.bind g a=>bindTo g a (.ref x) (.ref C)|.missing=>unsupported "x")
   (fun fin s'=>match fin with|.done (.ret v)=>wpAny (model prog w) A (handedOut v) Q E s'|_=>False) (fun e s'=>False) s):
  wpAny (model prog w) A (getAttrBy (.ref x) (.str name tk) fill expr) Q E s:=by
 have L0:=I.type (M:=model prog w)
 have L1:=looks_findIn (M:=model prog w) X c.ga
 have L2:=looks_findIn (M:=model prog w) X c.gn
 have S:=PySem.F.attr_ValueError.ga
 unfold getAttrBy
 refine wpAny_holding (wpAny_bind (L0.here (wpAny_bind (L1.here ?_))))
 show wpAny _ _ (getAttrByItsOwn _ _ _ _ _ _) _ _ _
 unfold getAttrByItsOwn
 refine wpAny_bind (L2.here ?_)
 refine wpAny_bind (wpAny_attempt (wpAny_holding ?_))
 have ec:callGetattribute (.ref x) (.str name tk) (.builtin "BaseException.__getattribute__") expr=boundAndCalled (.builtin "BaseException.__getattribute__") (.ref x) (.str name tk):=by cases expr<;>rfl
 rw [ec]
 unfold boundAndCalled
 rw [S.bind]
 refine wpAny_bind (wpAny_pure (wpAny_call (u4 X I c hf hm (wpAny_mono h (fun fin s' z=>?_) fun e s' z=>z.elim))))
 rcases fin with (_|_|_|_)|_<;>first|exact z|exact z.elim
theorem sh {Q:Option Value->Shared->Prop} (X:K.In s.heap) (I:InstAt s.heap x ox C od) (c:iE K C) (hf:findObj K C od "__class__"=some (.bind (.builtin "getset_descriptor.__get__") (.builtin "object.__class__")))
  (h:Q (some (.ref C)) {s with toks:=s.toks+1}):wpAny (model prog w) A (getAttr? (.ref x) "__class__") Q E s:=by
 unfold getAttr? getAttrBy?
 refine wpAny_bind (wpAny_mkText (wpAny_bind (wpAny_attempt (uI (s:={s with toks:=s.toks+1}) X I c hf (fun z=>nomatch z) ?_))))
 refine wpAny_bind (wpAny_holding (wpAny_call (class_get (s:={s with toks:=s.toks+1}) X I (c.mro (by decide)) ?_)))
 exact wpAny_pure (wpAny_pure (wpAny_pure h))
theorem lh (c:iE K C) (hf:findObj K C od "__class__"=some (.bind (.builtin "getset_descriptor.__get__") (.builtin "object.__class__"))):KitX K (.ref x) (.ref C) (fun h=>InstAt h x ox C od) where
 ty:=fun _ _ _ I=>I.type
 it:=fun M h X _=>by
  obtain ⟨cd,hc,_⟩:=any_some c.ov
  unfold clsIn at hc
  split at hc
  ·rename_i ho
   intro A' Q' E' s' k q
   unfold isType loadHead
   exact wpAny_bind (wpAny_loadPart (k _ _ (X _ _ ho)) (wpAny_pure q))
  ·cases hc
 ne:=fun h tp dd its n sl X htp=>by
  obtain ⟨cd,hc,_⟩:=any_some c.ov
  cases hb:(Value.ref C==Value.ref tp) with
  |false=>rfl
  |true=>
   have e:=Value.ref.inj (beq_iff_eq.mp hb)
   rw [←e] at htp
   unfold clsIn at hc
   split at hc
   ·rename_i ho
    have z:=htp.symm.trans (X _ _ ho)
    cases z
   ·cases hc
 ca:=fun X I k=>sh X I c hf k
end
end CT
namespace CT
open PySem PySem.Spec PySem.W L2
noncomputable def kE (fr:Bool) (x C:Addr) (dx:Option Addr):HO:=.ext fun h=>∃vs,h.get? x=some ⟨.ref C,dx,.fields vs,#[]⟩∧vs.size=6∧(fr=true->vs[1]?=some .none)
noncomputable def rH (d:Addr) (fs:List (Str×V)):HO:=.ext fun h=>∃mA,h.Ns1 d mA∧(∀f,bX (fs.lookup f) (mA f))∧Within mA (fs.map (·.1))
section
variable {P:Program} {w:World} {H:Hp} {h:Heap} {x C d:Addr} {dx:Option Addr} {fs:List (Str×V)} {fr:Bool}
theorem pz (o:aP P w H h x (kE fr x C dx)):∃vs,h.get? x=some ⟨.ref C,dx,.fields vs,#[]⟩∧vs.size=6∧(fr=true->vs[1]?=some .none):=o.1
theorem zF (o:aP P w H h d (rH d fs)):∃mA,h.Ns1 d mA∧(∀f,bX (fs.lookup f) (mA f))∧Within mA (fs.map (·.1)):=o.1
end
section
variable {X:Cx} {pins:List (Addr×Obj)} {σ:St} {H:Hp} {s:Shared} {a C dx:Addr} {fs:List (Str×V)} {f:Str} {v:V} {A:Around} {E:Value->Shared->Prop} {fr:Bool}
theorem zc (I:Inv X pins σ H s) (e:H a=some (kE fr a C (some dx))) (n:H dx=some (rH dx fs)):∃vs mA odd,s.heap.get? a=some ⟨.ref C,some dx,.fields vs,#[]⟩∧s.heap.Ns1 dx mA∧(∀f,bX (fs.lookup f) (mA f))∧Within mA (fs.map (·.1))∧
  InstAt s.heap a ⟨.ref C,some dx,.fields vs,#[]⟩ C (some odd)∧∀name,lookIn name odd=some (mA name):=by
 obtain ⟨vs,h1,_⟩:=pz (I.hok a _ e)
 obtain ⟨mA,h2,r,q⟩:=zF (I.hok dx _ n)
 obtain ⟨odd,h3,h4⟩:=jO h2
 exact ⟨vs,mA,odd,h1,h2,r,q,⟨h1,rfl,rfl,h3⟩,h4⟩
end
end CT
namespace CT
open PySem
inductive PK where
 |i (n:Int)
 |t (l:List PK)
mutual
noncomputable def PK.py:PK->PyData
 |.i n=>.int n
 |.t l=>.tuple (PK.pyL l)
noncomputable def PK.pyL:List PK->List PyData
 |[]=>[]
 |k::ks=>PK.py k::PK.pyL ks
end
mutual
noncomputable def PK.hs:PK->Int
 |.i n=>hashInt n
 |.t l=>reduceHash (Builtin.Tuple.tupleHashOf (PK.hsL l))
noncomputable def PK.hsL:List PK->List Int
 |[]=>[]
 |k::ks=>PK.hs k::PK.hsL ks
end
mutual
noncomputable def PK.dr:PK->Nat
 |.i _=>1
 |.t l=>PK.drL l+1
noncomputable def PK.drL:List PK->Nat
 |[]=>0
 |k::ks=>PK.dr k+PK.drL ks
end
mutual
noncomputable def PK.dp:PK->Nat
 |.i _=>0
 |.t l=>PK.dpL l+1
noncomputable def PK.dpL:List PK->Nat
 |[]=>0
 |k::ks=>max (PK.dp k) (PK.dpL ks)
end
mutual
noncomputable def bD (h:Heap):PK->Value->Prop
 |.i n,v=>∃tk,v=.int n tk
 |.t l,v=>∃a o its n,v=.ref a∧h.get? a=some o∧o.cls=.type "tuple"∧o.data=.seq its n∧a8 h l its.toList
noncomputable def a8 (h:Heap):List PK->List Value->Prop
 |[],vs=>vs=[]
 |k::ks,vs=>∃v us,vs=v::us∧bD h k v∧a8 h ks us
end
mutual
theorem bD.inj {h:Heap}:∀{x y:PK} {v:Value},bD h x v->bD h y v->x=y
 |.i n,.i m,v,⟨tk,e1⟩,⟨tk',e2⟩=>by rw [e1] at e2;cases e2;rfl
 |.i n,.t l,v,⟨tk,e1⟩,⟨a,_,_,_,e2,_⟩=>by rw [e1] at e2;cases e2
 |.t l,.i n,v,⟨a,_,_,_,e2,_⟩,⟨tk,e1⟩=>by rw [e1] at e2;cases e2
 |.t l,.t l',v,⟨a,o,its,n,e1,g1,_,d1,r1⟩,⟨a',o',its',n',e2,g2,_,d2,r2⟩=>by
  rw [e1] at e2;cases e2
  rw [g1] at g2;cases g2
  rw [d1] at d2;cases d2
  rw [a8.inj r1 r2]
theorem a8.inj {h:Heap}:∀{x y:List PK} {vs:List Value},a8 h x vs->a8 h y vs->x=y
 |[],[],_,_,_=>rfl
 |[],_::_,_,e,⟨_,_,e',_⟩=>by rw [show _=_ from e] at e';cases e'
 |_::_,[],_,⟨_,_,e',_⟩,e=>by rw [show _=_ from e] at e';cases e'
 |k::ks,k'::ks',vs,⟨v,us,e,a,b⟩,⟨v',us',e',a',b'⟩=>by
  rw [e] at e';cases e'
  rw [bD.inj a a',a8.inj b b']
end
mutual
theorem bD.keep {h h':Heap} (hk:∀b o its n,h.get? b=some o->o.data=.seq its n->h'.get? b=some o):∀{x:PK} {v:Value},bD h x v->bD h' x v
 |.i _,_,e=>e
 |.t _,_,⟨a,o,its,n,e1,g,c,d,r⟩=>⟨a,o,its,n,e1,hk _ _ _ _ g d,c,d,a8.keep hk r⟩
theorem a8.keep {h h':Heap} (hk:∀b o its n,h.get? b=some o->o.data=.seq its n->h'.get? b=some o):∀{x:List PK} {vs:List Value},a8 h x vs->a8 h' x vs
 |[],_,e=>e
 |_::_,_,⟨v,us,e,a,b⟩=>⟨v,us,e,bD.keep hk a,a8.keep hk b⟩
end
mutual
theorem bD.reads {h:Heap}:∀{x:PK} {v:Value},bD h x v->∃as,Reads h v x.py as
 |.i n,_,⟨tk,e⟩=>by subst e;exact ⟨_,.int n tk⟩
 |.t l,_,⟨a,o,its,n,e1,g,c,d,r⟩=>by
  subst e1
  obtain ⟨as,ra⟩:=a8.reads r
  exact ⟨_,.tuple g c d ra⟩
theorem a8.reads {h:Heap}:∀{x:List PK} {vs:List Value},a8 h x vs->∃as,ReadsAll h vs (PK.pyL x) as
 |[],_,e=>by cases (show _=_ from e);exact ⟨_,.nil⟩
 |_::_,_,⟨v,us,e,a,b⟩=>by
  subst e
  obtain ⟨as,ra⟩:=bD.reads a
  obtain ⟨bs,rb⟩:=a8.reads b
  exact ⟨_,.cons ra rb⟩
end
mutual
theorem PK.lay:∀k:PK,k.py.canLay0=true
 |.i _=>rfl
 |.t l=>PK.xi l
theorem PK.xi:∀l:List PK,PyData.canLayAll0 (PK.pyL l)=true
 |[]=>rfl
 |k::ks=>by
  show (PyData.canLay0 (PK.py k)&&PyData.canLayAll0 (PK.pyL ks))=true
  rw [PK.lay k,PK.xi ks];rfl
end
mutual
theorem PK.dep:∀k:PK,k.py.depth=k.dp
 |.i _=>rfl
 |.t l=>by
  show PyData.depthAll (PK.pyL l)+1=PK.dpL l+1
  rw [PK.vY l]
theorem PK.vY:∀l:List PK,PyData.depthAll (PK.pyL l)=PK.dpL l
 |[]=>rfl
 |k::ks=>by
  show max (PyData.depth (PK.py k)) (PyData.depthAll (PK.pyL ks))=max (PK.dp k) (PK.dpL ks)
  rw [PK.dep k,PK.vY ks]
end
noncomputable instance:DecidableEq PK:=fun a b=>Classical.propDecidable (a=b)
mutual
theorem PK.eqv:∀a b:PK,PyData.eqv a.py b.py=decide (a=b)
 |.i n,.i m=>by
  show decide (n=m)=_
  by_cases h:n=m<;>simp [h]
 |.i n,.t l=>by rw [decide_eq_false (by intro e;cases e)];rfl
 |.t l,.i n=>by rw [decide_eq_false (by intro e;cases e)];rfl
 |.t l,.t l'=>by
  show PyData.eqvAll (PK.pyL l) (PK.pyL l')=_
  rw [PK.yb l l']
  by_cases h:l=l'<;>simp [h]
theorem PK.yb:∀a b:List PK,PyData.eqvAll (PK.pyL a) (PK.pyL b)=decide (a=b)
 |[],[]=>by rw [decide_eq_true rfl];rfl
 |[],_::_=>by rw [decide_eq_false (by intro e;cases e)];rfl
 |_::_,[]=>by rw [decide_eq_false (by intro e;cases e)];rfl
 |k::ks,k'::ks'=>by
  show (PyData.eqv (PK.py k) (PK.py k')&&PyData.eqvAll (PK.pyL ks) (PK.pyL ks'))=_
  rw [PK.eqv k k',PK.yb ks ks']
  by_cases h:k=k'<;>by_cases h2:ks=ks'<;>simp [h,h2]
end
section
variable {prog:Program} {w:World} {E:Value->Shared->Prop}
theorem zb {A:Around} {s:Shared} {x y:PK} {u v:Value} {Q:Bool->Shared->Prop} (hu:A.units+min x.dp y.dp<cLine) (hx:bD s.heap x u) (hy:bD s.heap y v) (h:Q (decide (x=y)) s):wpAny (model prog w) A (eqBool u v) Q E s:=by
 obtain ⟨as,ra⟩:=hx.reads
 obtain ⟨bs,rb⟩:=hy.reads
 refine SeqAt.eqAt_reads _ _ A s u v as bs ra rb x.lay y.lay (by rw [PK.dep,PK.dep];exact hu) prog w E Q ?_
 rw [PK.eqv];exact h
end
end CT
namespace CT
open PySem
theorem rD {k:PK} {ks:List PK}:PK.dpL (k::ks)=max k.dp (PK.dpL ks):=rfl
theorem jd:∀(a b:List PK),PK.hsL (a++b)=PK.hsL a++PK.hsL b
 |[],_=>rfl
 |k::ks,b=>by show PK.hs k::PK.hsL (ks++b)=_;rw [jd ks b];rfl
theorem iR:∀(a b:List PK),PK.drL (a++b)=PK.drL a+PK.drL b
 |[],_=>by show _=0+_;rw [Nat.zero_add];rfl
 |k::ks,b=>by show PK.dr k+PK.drL (ks++b)=(PK.dr k+PK.drL ks)+_;rw [iR ks b];omega
section
variable {prog:Program} {w:World}
theorem tX:∀(n:Nat) (k:PK),k.dp<=n->∀{A:Around} {E:Value->Shared->Prop} {s:Shared} {v:Value} {Q:Int->Shared->Prop},A.units+n<cLine->bD s.heap k v->Q k.hs {s with toks:=s.toks+k.dr}->
  wpAny (model prog w) A (pyHash v) Q E s:=by
 intro n
 induction n with
 |zero=>
  intro k hk A E s v Q hu hi h
  cases k with
  |i m=>obtain ⟨tk,e⟩:=hi;subst e;exact wpAny_pyHash_int h
  |t l=>exact absurd (show PK.dpL l+1<=0 from hk) (by omega)
 |succ n ih=>
  intro k hk A E s v Q hu hi h
  cases k with
  |i m=>obtain ⟨tk,e⟩:=hi;subst e;exact wpAny_pyHash_int h
  |t l=>
   obtain ⟨a,o,its,m,e,g,c,d,r⟩:=hi
   subst e
   have hl:PK.dpL l<=n:=by have:PK.dpL l+1<=n+1:=hk;omega
   have T:s.TypeIs (.ref a) "tuple":=⟨o,g,c⟩
   have no:¬((some (Value.builtin "tuple.__hash__")==some Value.none)=true):=by rw [beq_builtin_none];exact Bool.false_ne_true
   unfold pyHash
   first|unfold pyHashByItsType|skip
   first|refine wpAny_bind (wpAny_cRoomFor_or (.inr (by omega)) ?_)|skip
   refine wpAny_bind (wpAny_specialOf T F.slot_tuple_hash.lookup ?_);show wpAny _ _ (if (some (Value.builtin "tuple.__hash__")==some Value.none)=true then _ else _) Q E s
   rw [if_neg no]
   refine wpAny_bind (wpAny_specialOf T F.slot_tuple_hash.lookup ?_);show wpAny _ _ (callSpecialIfBoundUnlessNone? (.ref a) "__hash__" _>>=_) Q E s
   refine wpAny_bind (wpAny_callSpecialIfBoundUnlessNone?_slot T F.slot_tuple_hash (wpAny_call_entry F.slot_tuple_hash T F.entry_tuple_hash ?_ (F.args_tuple_hash_1 _)))
   show wpAny _ _ (Builtin.Tuple.tupleItemsOf (.ref a)>>=_) _ _ s
   refine wpAny_bind (wpAny_tupleItemsOf g d ?_)
   refine wpAny_bind ?_;rw [←Array.forIn_toList]
   refine wpAny_forIn_list _ (fun rest (b:Array Int) s'=>∃dn lf,l=dn++lf∧a8 s.heap lf rest∧b.toList=PK.hsL dn∧s'={s with toks:=s.toks+PK.drL dn}) _ ?_ ?_ _ _ ⟨[],l,rfl,r,rfl,rfl⟩
   ·rintro x rest b s' ⟨dn,lf,e1,hl',hb,e2⟩
    subst e1 e2
    cases lf with
    |nil=>exact nomatch (show x::rest=[] from hl')
    |cons k' ks'=>
     obtain ⟨v',us,e3,ha,ht⟩:=hl'
     cases e3
     have hk':k'.dp<=n:=by
      have:∀(dn:List PK),k'.dp<=PK.dpL (dn++k'::ks'):=by
       intro dn
       induction dn with
       |nil=>show k'.dp<=max _ _;omega
       |cons z zs ihz=>show k'.dp<=max _ (PK.dpL (zs++k'::ks'));omega
      exact Nat.le_trans (this dn) hl
     refine wpAny_bind (ih k' hk' (show A.in1.units+n<cLine by show A.units+1+n<cLine;omega) (s:={s with toks:=s.toks+PK.drL dn}) ha ?_)
     have fin:∃dn' lf',dn++k'::ks'=dn'++lf'∧a8 s.heap lf' rest∧(b.push (PK.hs k')).toList=PK.hsL dn'∧({s with toks:=s.toks+PK.drL dn+PK.dr k'}:Shared)={s with toks:=s.toks+PK.drL dn'}:=
      ⟨dn++[k'],ks',by simp,ht,by rw [Array.toList_push,hb,jd];rfl,by rw [iR];show _={s with toks:=s.toks+(PK.drL dn+(PK.dr k'+0))};rw [Nat.add_zero,Nat.add_assoc]⟩
     first
      |exact wpAny_pure fin
      |exact wpAny_bind (wpAny_pure (wpAny_pure fin))
   ·rintro b s' ⟨dn,lf,e1,hl',hb,e2⟩
    subst e1 e2
    cases lf with
    |cons _ _=>obtain ⟨_,_,e3,_⟩:=hl';cases e3
    |nil=>
     rw [List.append_nil] at h
     show wpAny _ _ (retInt (Builtin.Tuple.tupleHashOf b.toList)) _ _ _
     rw [hb]
     refine wpAny_ret_mkInt ?_
     change Q (reduceHash (Builtin.Tuple.tupleHashOf (PK.hsL dn))) {s with toks:=s.toks+(PK.drL dn+1)} at h
     generalize Builtin.Tuple.tupleHashOf (PK.hsL dn)=z at h ⊢
     show wpAny _ _ (if (decide (-(2:Int)^63<=z)&&decide (z<2^63))=true then _ else _) Q E _
     unfold reduceHash at h
     by_cases hz:(decide (-(2:Int)^63<=z)&&decide (z<2^63))=true
     ·rw [if_pos hz] at h ⊢
      exact wpAny_pure (by simpa [Nat.add_assoc] using h)
     ·rw [if_neg hz] at h ⊢
      exact wpAny_bind (wpAny_rule (wpAny_pure (by simpa [Nat.add_assoc] using h)))
theorem rE:∀(n:Nat) (k:PK),k.dp<=n->∀{A:Around} {E:Value->Shared->Prop} {s:Shared} {v:Value} {Q:Bool->Shared->Prop},bD s.heap k v->Q true s->wpAny (model prog w) A (eqIsQuiet n v) Q E s:=by
 intro n
 induction n with
 |zero=>
  intro k hk A E s v Q hi h
  cases k with
  |i m=>obtain ⟨tk,e⟩:=hi;subst e;rw [eqIsQuiet_byValue _ (by rfl)];exact wpAny_pure h
  |t l=>exact absurd (show PK.dpL l+1<=0 from hk) (by omega)
 |succ n ih=>
  intro k hk A E s v Q hi h
  cases k with
  |i m=>obtain ⟨tk,e⟩:=hi;subst e;rw [eqIsQuiet_byValue _ (by rfl)];exact wpAny_pure h
  |t l=>
   obtain ⟨a,o,its,m,e,g,c,d,r⟩:=hi
   subst e
   have hl:PK.dpL l<=n:=by have:PK.dpL l+1<=n+1:=hk;omega
   have T:s.TypeIs (.ref a) "tuple":=⟨o,g,c⟩
   unfold eqIsQuiet
   refine wpAny_bind (wpAny_specialOf T F.slot_tuple_eq.lookup ?_);show wpAny _ _ (isInstance (.ref a) (.type "tuple")>>=_) _ _ s
   refine wpAny_bind (wpAny_isInstance T isSubtype_tuple_tuple ?_);simp only [Bool.not_true,Bool.false_eq_true,if_false]
   refine wpAny_bind (wpAny_seqItems g d ?_)
   refine wpAny_bind ?_
   show wpAny _ _ (forIn its _ _) _ _ s;rw [←Array.forIn_toList]
   refine wpAny_forIn_list _ (fun rest q s'=>q.1=none∧s'=s∧∃lf,PK.dpL lf<=n∧a8 s.heap lf rest) _ ?_ ?_ _ _ ⟨rfl,rfl,l,hl,r⟩
   ·rintro x rest q s' ⟨hq,e1,lf,hlf,hr⟩
    subst e1
    cases lf with
    |nil=>exact nomatch (show x::rest=[] from hr)
    |cons k' ks'=>
     obtain ⟨v',us,e3,ha,ht⟩:=hr
     cases e3
     rw [rD] at hlf
     refine wpAny_bind (ih k' (by omega) ha ?_);simp only [Bool.not_true,Bool.false_eq_true,if_false]
     exact wpAny_pure ⟨rfl,rfl,ks',by omega,ht⟩
   ·rintro ⟨q1,q2⟩ s' ⟨hq,e1,_⟩
    subst e1
    cases (show q1=none from hq)
    exact wpAny_pure h
noncomputable def bH (prog:Program) (w:World):HeapKind prog w PK where
 is:=fun h k a=>bD h k (.ref a)∧k.dp<=8
 hash:=PK.hs
 draws:=PK.dr
 room:=fun A=>A.units+8<cLine
 inj:=fun hx hy=>hx.1.inj hy.1
 keeps:=fun x ho hd hs=>⟨x.1.keep fun b o its n hb hb2=>(hs.2 b (by
  rintro rfl
  rw [ho] at hb
  cases hb
  rw [hd] at hb2
  cases hb2)).trans hb,x.2⟩
 pyHash:=fun hu hk h=>tX 8 _ hk.2 hu hk.1 h
 eqBool:=fun {A E s x y a b Q} hu hx hy h=>zb (by have:=hx.2;have:=hy.2;omega) hx.1 hy.1 h
 quiet:=fun hk h=>rE 8 _ hk.2 hk.1 h
end
end CT
namespace CT
open PySem
section
variable {prog:Program} {w:World} {E:Value->Shared->Prop} {K:Type} [DecidableEq K] {knd:HeapKind prog w K} {A:Around} {s:Shared}
theorem lZ {es:Array DictEntry} (hn:(es.toList.map (·.hash)).Nodup) (e:DictEntry):¬(es.filter (·.hash==e.hash)).size>1:=by
 have key:∀l:List DictEntry,(l.map (·.hash)).Nodup->(l.filter (·.hash==e.hash)).length<=1:=by
  intro l
  induction l with
  |nil=>intro _;exact Nat.zero_le _
  |cons x l ih=>
   intro h
   rw [List.map_cons,List.nodup_cons] at h
   rw [List.filter_cons]
   split
   ·rename_i hx
    have:l.filter (·.hash==e.hash)=[]:=by
     rw [List.filter_eq_nil_iff]
     intro y hy hh
     exact h.1 (List.mem_map.mpr ⟨y,hy,by rw [eq_of_beq hh,eq_of_beq hx]⟩)
    rw [this];exact Nat.le_refl _
   ·exact ih h.2
 have:=key es.toList hn
 have e2:(es.filter (·.hash==e.hash)).size=(es.toList.filter (·.hash==e.hash)).length:=by rw [←Array.length_toList,Array.toList_filter]
 omega
theorem m7 {id:String} {d:Addr} {o:Obj} {es:Array DictEntry} {ep:Nat} {Q:Array DictEntry->Shared->Prop} (ho:s.heap.get? d=some o) (hd:o.data=.dict es ep) (hn:(es.toList.map (·.hash)).Nodup)
  (hq:∀e∈es,wpAny (model prog w) A (Builtin.Dict.quietEq e.key) (fun b s'=>s'=s) E s) (h:Q es s):wpAny (model prog w) A (Builtin.Dict.entriesForEmpty id d) Q E s:=by
 unfold Builtin.Dict.entriesForEmpty
 refine wpAny_bind (wpAny_dictEntries ho hd ?_)
 refine wpAny_bind ?_
 rw [←Array.forIn_toList]
 refine wpAny_forIn_list _ (fun rest _ s'=>s'=s∧∀e∈rest,e∈es) _ ?_ ?_ _ _ ⟨rfl,fun e he=>Array.mem_toList_iff.mp he⟩
 ·rintro x rest b s' ⟨rfl,hr⟩
  refine wpAny_bind (wpAny_mono (hq x (hr x List.mem_cons_self)) (fun b s'' e=>?_) fun _ _ z=>z)
  subst e
  have e1:(es.filter (·.hash==x.hash)).size>1↔False:=⟨lZ hn x,False.elim⟩
  cases b
  ·simp only [Bool.not_false,if_true,e1,if_false]
   exact wpAny_pure ⟨rfl,fun e he=>hr e (List.mem_cons_of_mem _ he)⟩
  ·simp only [Bool.not_true,Bool.false_eq_true,if_false]
   exact wpAny_pure ⟨rfl,fun e he=>hr e (List.mem_cons_of_mem _ he)⟩
 ·rintro b s' ⟨rfl,_⟩
  exact wpAny_pure h
noncomputable def ay (knd:HeapKind prog w K) (h:Heap) (d:Addr) (xs:List (K×Addr×Value)) (ep:Nat):Prop:=
 ∃o es,h.get? d=some o∧o.ExactDict∧o.data=.dict es ep∧es.toList=xs.map (entryOfKey knd)∧(xs.map (·.1)).Nodup
theorem ay.typeIs {d:Addr} {xs:List (K×Addr×Value)} {ep:Nat} (x:ay knd s.heap d xs ep):s.TypeIs (.ref d) "dict":=let ⟨o,_,g,c,_⟩:=x;⟨o,g,c.1⟩
theorem ay.ofH {h:Heap} {d:Addr} {xs:List (K×Addr×Value)} {ep:Nat} (x:ay knd h d xs ep) (hk:∀y∈xs,knd.is h y.1 y.2.1):h.DictOfH knd d xs:=let ⟨o,es,g,c,e,l,n⟩:=x;⟨o,es,ep,g,c,e,l,hk,n⟩
theorem mC {h:Heap} {d:Addr} {xs:List (K×Addr×Value)} (x:h.DictOfH knd d xs):∃ep,ay knd h d xs ep:=let ⟨o,es,ep,g,c,e,l,_,n⟩:=x;⟨ep,o,es,g,c,e,l,n⟩
theorem ay.keep {h h':Heap} {d:Addr} {xs:List (K×Addr×Value)} {ep:Nat} (x:ay knd h d xs ep) (k:∀o,h.get? d=some o->h'.get? d=some o):ay knd h' d xs ep:=let ⟨o,es,g,r⟩:=x;⟨o,es,k o g,r⟩
theorem ay.new (h:Heap):ay knd (h.push {cls:=.type "dict",data:=.dict #[]}) h.objs.size [] 0:=⟨_,#[],Heap.get?_push_size _ rfl,⟨rfl,rfl,rfl⟩,rfl,rfl,List.nodup_nil⟩
theorem o7 {M:Model} {a:Addr} (hT:s.TypeIs (.ref a) "tuple"):wpAny M A (Builtin.Dict.quietEq (.ref a)) (fun b s'=>s'=s) E s:=by
 unfold Builtin.Dict.quietEq
 exact wpAny_bind (wpAny_specialOf hT F.slot_tuple_eq.lookup (wpAny_pure rfl))
theorem pW {nm:String} {d o:Addr} {xs:List (K×Addr×Value)} {ep:Nat} {Q:Unit->Shared->Prop} (hdo:d≠o) (hoS:(o==sysModules)=false) (hd:ay knd s.heap d [] 0) (ho:ay knd s.heap o xs ep)
  (hk:∀x∈xs,s.TypeIs (.ref x.2.1) "tuple") (hh:(xs.map fun x=>knd.hash x.1).Nodup) (hsz:xs.length<=sizeLine)
  (hQ:∀h' ep',ay knd h' d xs ep'->Heap.SameBut d s.heap h'->Q () {s with heap:=h'}):wpAny (model prog w) A (Builtin.Dict.mergeDict nm d o) Q E s:=by
 obtain ⟨od,ed,gd,cd,dd,ld,nd⟩:=id hd
 obtain ⟨oo,eo,go,co,do',lo,no⟩:=id ho
 have hed:ed=#[]:=by
  cases ed with
  |mk l=>cases (show l=[] from ld);rfl
 unfold Builtin.Dict.mergeDict
 rw [if_neg (by simpa using hdo)]
 unfold Builtin.Dict.showsAll
 rw [if_neg (by rw [hoS];exact Bool.false_ne_true)]
 refine wpAny_bind (wpAny_pure (wpAny_bind (wpAny_dictEntries go do' ?_)))
 cases xs with
 |nil=>
  have heo:eo=#[]:=by
   cases eo with
   |mk l=>cases (show l=[] from lo);rfl
  subst heo
  rw [if_neg (by simp)]
  refine wpAny_bind (wpAny_dictEpoch go do' (wpAny_bind (wpAny_dictEntries go do' (wpAny_bind ?_))))
  rw [Std.Legacy.Range.forIn_eq_forIn_range']
  exact wpAny_pure (wpAny_pure (hQ s.heap 0 hd (Heap.SameBut.refl _ _)))
 |cons x xs=>
  have hfew:¬((!(decide (eo.size<=8)&&eo.all fun e=>(keyPart e.key).isSome))=false):=by
   have h1:(eo.all fun e=>(keyPart e.key).isSome)=false:=by
    rw [←Array.all_toList,lo,List.map_cons,List.all_cons]
    rfl
   rw [h1,Bool.and_false]
   decide
  have hfew':(!(decide (eo.size<=8)&&eo.all fun e=>(keyPart e.key).isSome))=true:=by
   cases h:(!(decide (eo.size<=8)&&eo.all fun e=>(keyPart e.key).isSome)) with
   |true=>rfl
   |false=>exact absurd h hfew
  rw [if_pos hfew']
  refine wpAny_bind (wpAny_dictEntries gd dd ?_)
  subst hed
  rw [if_pos (by rfl)]
  have hn:(eo.toList.map (·.hash)).Nodup:=by rw [lo,List.map_map];exact hh
  refine wpAny_bind (m7 go do' hn (fun e he=>?_) ?_)
  ·have:e∈(x::xs).map (entryOfKey knd):=lo▸Array.mem_toList_iff.mpr he
   obtain ⟨y,hy,rfl⟩:=List.mem_map.mp this
   exact o7 (hk y hy)
  have hne:(!eo.isEmpty)=true:=by
   cases eo with
   |mk l=>cases (show l=_ from lo);rfl
  rw [if_pos hne]
  have hz:eo.size=(x::xs).length:=size_of_entries lo
  refine wpAny_bind (wpAny_updateDictKeysTo gd dd (wpAny_pure (hQ _ _ ⟨_,_,Heap.get?_update_self _ gd (Obj.isFreed_of_dict (Obj.data_mapDictKeys dd _)),cd.mapDictKeys _,Obj.data_mapDictKeys dd _,lo,no⟩ (Heap.SameBut.update ..))) (by rw [hz];omega))
theorem oI {o:Addr} {xs:List (K×Addr×Value)} {ep:Nat} {Q:Value->Shared->Prop} (hoS:(o==sysModules)=false) (ho:ay knd s.heap o xs ep) (hk:∀x∈xs,s.TypeIs (.ref x.2.1) "tuple") (hh:(xs.map fun x=>knd.hash x.1).Nodup)
  (hsz:xs.length<=sizeLine) (h:∀h' ep',ay knd h' s.heap.objs.size xs ep'->Heap.SameBut s.heap.objs.size (s.heap.push {cls:=.type "dict",data:=.dict #[]}) h'->Q (.ref s.heap.objs.size) {s with heap:=h'}):
  wpAny (model prog w) A (call (.type "dict") [.ref o]) Q E s:=by
 refine callType_codes (Q₁:=fun ob s₁=>ob=.ref s.heap.objs.size∧s₁={s with heap:=s.heap.push {cls:=.type "dict",data:=.dict #[]}}) F.kt_called_dict (F.kt_typeCall_dict_1 _) F.entry_dict_init (kt_code_dict_new _ ⟨rfl,rfl⟩) ?_
 rintro ob s₁ ⟨rfl,rfl⟩
 have nw:ay knd (s.heap.push {cls:=.type "dict",data:=.dict #[]}) s.heap.objs.size [] 0:=ay.new s.heap
 have ho':ay knd (s.heap.push {cls:=.type "dict",data:=.dict #[]}) o xs ep:=ho.keep fun ob g=>Heap.get?_push_of_some _ g
 have hdo:s.heap.objs.size≠o:=by
  obtain ⟨_,_,hg,_⟩:=ho
  exact fun e=>absurd (Heap.lt_size hg) (by rw [e];exact Nat.lt_irrefl _)
 have hT:({s with heap:=s.heap.push {cls:=.type "dict",data:=.dict #[]}}:Shared).TypeIs (.ref s.heap.objs.size) "dict":=nw.typeIs
 have hTo:({s with heap:=s.heap.push {cls:=.type "dict",data:=.dict #[]}}:Shared).TypeIs (.ref o) "dict":=ho'.typeIs
 refine ⟨hT,F.args_dict_init_2 _ _,?_⟩
 unfold Builtin.«dict.__init__»
 refine wpAny_bind ?_;unfold Builtin.Dict.selfAndRest
 refine wpAny_bind (wpAny_notOrdered_dict hT ?_);show wpAny _ _ (pure (s.heap.objs.size,[Value.ref o])) _ _ _
 refine wpAny_pure ?_;show wpAny _ _ (Builtin.Dict.updateFrom "dict.__init__" s.heap.objs.size (.ref o) [] .none) _ _ _
 unfold Builtin.Dict.updateFrom
 refine wpAny_bind (wpAny_typeOf hTo ?_);rw [if_neg (by decide)]
 refine wpAny_bind ?_;unfold Builtin.Dict.merge
 refine wpAny_bind ?_;unfold Builtin.Dict.readDirectly
 refine wpAny_bind (wpAny_isInstance hTo isSubtype_dict_dict ?_);simp only [Bool.not_true,Bool.false_eq_true,if_false]
 refine wpAny_bind (wpAny_specialOf hTo F.slot_dict_iter.lookup (wpAny_pure ?_));simp only [beq_self_eq_true,if_true]
 refine wpAny_bind (wpAny_pure ?_)
 refine pW hdo hoS nw ho' (fun x hx=>?_) hh hsz fun h' ep' hd' hs'=>?_
 ·obtain ⟨ob,g,c⟩:=hk x hx
  exact ⟨ob,Heap.get?_push_of_some _ g,c⟩
 ·show wpAny _ _ (Builtin.Dict.addKeywords s.heap.objs.size []>>=_) _ _ _
  exact wpAny_bind (wpAny_pure (wpAny_pure ⟨rfl,h h' ep' hd' hs'⟩))
end
end CT
namespace CT
open PySem
section
variable {prog:Program} {w:World} {E:Value->Shared->Prop} {K:Type} [DecidableEq K] {knd:HeapKind prog w K} {A:Around} {s:Shared}
theorem nM {d:Addr} {xs:List (K×Addr×Value)} {ep:Nat} {Q:Value->Shared->Prop} (hd:(d==sysModules)=false) (hm:ay knd s.heap d xs ep)
  (hQ:Q (.ref s.heap.objs.size) {s with heap:=s.heap.push {cls:=.type "dict_keyiterator",data:=.fields #[.ref d,.int 0 0,.int xs.length 0,.int ep 0]}}):wpAny (model prog w) A (pyIter (.ref d)) Q E s:=by
 have T:=hm.typeIs
 obtain ⟨o,es,g,c,hda,l,n⟩:=hm
 have hz:es.size=xs.length:=size_of_entries l
 refine wpAny_pyIter_slot T F.slot_dict_iter (wpAny_call_entry F.slot_dict_iter T F.entry_dict_iter ?_ (F.args_dict_iter_1 _))
 unfold Builtin.«dict.__iter__»
 refine wpAny_bind ?_;unfold Builtin.Dict.dictSlotNone
 refine wpAny_bind (wpAny_notOrdered_dict T ?_);show wpAny _ _ (pure (Value.ref d)) _ _ s
 refine wpAny_pure ?_;show wpAny _ _ (Builtin.Dict.showsAll d>>=_) _ _ s
 unfold Builtin.Dict.showsAll;rw [if_neg (by rw [hd];exact Bool.false_ne_true)]
 refine wpAny_bind (wpAny_pure (wpAny_bind (wpAny_dictEntries g hda (wpAny_bind (wpAny_dictEpoch g hda ?_)))))
 refine wpAny_bind (wpAny_newObj_type (wpAny_pure ⟨_,rfl,"dict_keyiterator",_,⟨_,Heap.get?_push_size _ rfl,rfl⟩,F.slot_dict_keyiterator_next.lookup,?_⟩))
 simpa [rawInt,hz] using hQ
theorem nj {it d:Addr} {i ep:Nat} {xs:List (K×Addr×Value)} {x:K×Addr×Value} {Q:Option Value->Shared->Prop} (hit:s.heap.IsKeyIter it d i xs.length ep) (hm:ay knd s.heap d xs ep) (hx:xs[i]?=some x)
  (hQ:∀h',h'.IsKeyIter it d (i+1) xs.length ep->Heap.SameBut it s.heap h'->Q (some (.ref x.2.1)) {s with heap:=h'}):wpAny (model prog w) A (pyNext (.ref it)) Q E s:=by
 have T:=hit.typeIs
 obtain ⟨o,ho,hc,hd⟩:=hit
 obtain ⟨od,es,g,c,hda,l,n⟩:=hm
 have hz:es.size=xs.length:=size_of_entries l
 have hn:¬((Value.ref d==Value.none)=true):=Bool.false_ne_true
 have hown:Builtin.Dict_items.ownsTuple "dict_keyiterator"=false:=by decide
 have hlt:i<es.size:=by
  rw [hz]
  rcases Nat.lt_or_ge i xs.length with h|h
  ·exact h
  ·rw [List.getElem?_eq_none h] at hx;cases hx
 have hk:es[i].key=.ref x.2.1:=by
  have e:=entry_at (knd:=knd) l i
  rw [hx,Array.getElem?_eq_getElem hlt] at e
  have e':=Option.some.inj e
  rw [e'];rfl
 unfold pyNext
 refine wpAny_bind (wpAny_attempt (wpAny_callSpecial?_slot (name:=Str.ofString "__next__") T F.slot_dict_keyiterator_next (wpAny_call_entry F.slot_dict_keyiterator_next T F.entry_dict_keyiterator_next ?_ (F.args_dict_keyiterator_next_1 _))))
 refine wpAny_bind (wpAny_pure (wpAny_bind (wpAny_bind ?_)))
 first|refine wpAny_bind (wpAny_typeNameOfWhole_keyiter T (wpAny_pure ?_))|refine wpAny_bind (wpAny_typeNameOf_keyiter T (wpAny_pure ?_))
 refine wpAny_bind (wpAny_fieldsOf ho hd ?_);simp only [hown,Bool.false_eq_true,if_false]
 show wpAny _ _ (if (Value.ref d==Value.none)=true then _ else _) _ _ s
 rw [if_neg hn]
 refine wpAny_bind (wpAny_pure (wpAny_bind (wpAny_dictEntries g hda ?_)))
 rw [if_neg (by rw [hz];simp)]
 refine wpAny_bind (wpAny_pure (wpAny_bind (wpAny_dictEpoch g hda ?_)))
 rw [if_neg (by simp)]
 refine wpAny_pure ?_
 simp only [show ¬((i:Int)<0) from by omega,if_false,Int.toNat_natCast,Array.getElem?_eq_getElem hlt]
 refine wpAny_bind ?_
 first|refine wpAny_bind (wpAny_typeNameOfWhole_keyiter T (wpAny_pure ?_))|refine wpAny_bind (wpAny_typeNameOf_keyiter T (wpAny_pure ?_))
 refine wpAny_bind (wpAny_isOneOf_keyiter T ?_)
 show wpAny _ _ (setField (.ref it) 1 (rawInt ((i:Int)+1))>>=_) _ _ s
 refine wpAny_bind (wpAny_setField ho hd (by simp) ?_)
 have hi2:(s.heap.update it (Obj.mapFields (·.setIfInBounds 1 (rawInt ((i:Int)+1))))).IsKeyIter it d (i+1) xs.length ep:=⟨_,Heap.get?_update_self _ ho (Obj.isFreed_of_fields (Obj.data_mapFields hd _)),(Obj.cls_mapFields ..).trans hc,by rw [Obj.data_mapFields hd];simp [rawInt]⟩
 refine wpAny_bind (wpAny_holding (wpAny_bind (wpAny_isOneOf_keyiter (s:={s with heap:=s.heap.update it (Obj.mapFields (·.setIfInBounds 1 (rawInt ((i:Int)+1))))}) hi2.typeIs ?_)))
 show wpAny _ _ (pure es[i].key) _ _ _
 rw [hk]
 exact wpAny_pure (wpAny_pure ⟨_,rfl,wpAny_pure (hQ _ hi2 (Heap.SameBut.update ..))⟩)
theorem o8 {it d:Addr} {i ep:Nat} {xs:List (K×Addr×Value)} {Q:Option Value->Shared->Prop} (hh:A.handled=none) (hit:s.heap.IsKeyIter it d i xs.length ep) (hm:ay knd s.heap d xs ep) (hx:xs[i]?=none)
  (hQ:∀h',Heap.ExtBut it s.heap h'->Q none {s with heap:=h'}):wpAny (model prog w) A (pyNext (.ref it)) Q E s:=by
 have T:=hit.typeIs
 obtain ⟨o,ho,hc,hd⟩:=hit
 obtain ⟨od,es,g,c,hda,l,n⟩:=hm
 have hz:es.size=xs.length:=size_of_entries l
 have hn:¬((Value.ref d==Value.none)=true):=Bool.false_ne_true
 have hown:Builtin.Dict_items.ownsTuple "dict_keyiterator"=false:=by decide
 have hge:es.size<=i:=by rw [hz];exact List.getElem?_eq_none_iff.mp hx
 unfold pyNext
 refine wpAny_bind (wpAny_attempt (wpAny_callSpecial?_slot (name:=Str.ofString "__next__") T F.slot_dict_keyiterator_next (wpAny_call_entry F.slot_dict_keyiterator_next T F.entry_dict_keyiterator_next ?_ (F.args_dict_keyiterator_next_1 _))))
 refine wpAny_bind (wpAny_pure (wpAny_bind (wpAny_bind ?_)))
 first|refine wpAny_bind (wpAny_typeNameOfWhole_keyiter T (wpAny_pure ?_))|refine wpAny_bind (wpAny_typeNameOf_keyiter T (wpAny_pure ?_))
 refine wpAny_bind (wpAny_fieldsOf ho hd ?_);simp only [hown,Bool.false_eq_true,if_false]
 show wpAny _ _ (if (Value.ref d==Value.none)=true then _ else _) _ _ s
 rw [if_neg hn]
 refine wpAny_bind (wpAny_pure (wpAny_bind (wpAny_dictEntries g hda ?_)))
 rw [if_neg (by rw [hz];simp)]
 refine wpAny_bind (wpAny_pure (wpAny_bind (wpAny_dictEpoch g hda ?_)))
 rw [if_neg (by simp)]
 refine wpAny_pure ?_
 simp only [show ¬((i:Int)<0) from by omega,if_false,Int.toNat_natCast,Array.getElem?_eq_none hge]
 refine wpAny_bind ?_
 first|refine wpAny_bind (wpAny_typeNameOfWhole_keyiter T (wpAny_pure ?_))|refine wpAny_bind (wpAny_typeNameOf_keyiter T (wpAny_pure ?_))
 show wpAny _ _ (setField (.ref it) 0 .none>>=_) _ _ s
 refine wpAny_bind (wpAny_setField ho hd (by simp) ?_);show wpAny _ _ (newExc (.type "StopIteration") []>>=_) _ _ _
 refine wpAny_bind ?_;simp only [newExc,newTuple]
 refine wpAny_bind (wpAny_newObj_type ?_ (by size_fits))
 refine wpAny_bind (m:=firstArgMember _ _) (wpAny_of_eq (a:=Value.none) (by first|rfl|(simp only [firstArgMember];rfl)) (wpAny_newObj_type ?_ (by size_fits)))
 simp only [raiseNew]
 refine wpAny_bind (wpAny_handled ?_);rw [show A.in1.handled=none from hh]
 refine wpAny_bind (wpAny_pure (wpAny_throw ?_))
 refine wpAny_bind (wpAny_isInstance (b:=true) (T:="StopIteration") (by exact ⟨_,Heap.get?_push_size _ rfl,rfl⟩) isSubtype_stop ?_)
 exact wpAny_pure (hQ _ (((Heap.SameBut.update ..).extBut.push _).push _))
end
end CT
namespace CT
open PySem
noncomputable def Sit (h:Heap) (b:Bool) (i a:Addr) (k:Nat):Prop:=match b with|true=>h.IsTupleIter i a k|false=>h.IsListIter i a k
noncomputable def Ssq (h:Heap) (b:Bool) (a:Addr) (xs:Array Value):Prop:=match b with|true=>h.IsTuple a xs|false=>h.IsList a xs
theorem Sit.at {h h':Heap} {b:Bool} {i a:Addr} {k:Nat} (x:Sit h b i a k) (e:∀o,h.get? i=some o->h'.get? i=some o):Sit h' b i a k:=by
 cases b with
 |true=>obtain ⟨o,ho,r⟩:=x;exact ⟨o,e o ho,r⟩
 |false=>exact Heap.IsListIter.at x e
theorem Ssq.at {h h':Heap} {b:Bool} {a:Addr} {xs:Array Value} (x:Ssq h b a xs) (e:∀o,h.get? a=some o->h'.get? a=some o):Ssq h' b a xs:=by
 cases b with
 |true=>obtain ⟨o,ho,r⟩:=x;exact ⟨o,e o ho,r⟩
 |false=>exact Heap.IsList.at x e
theorem Sit.rec {h:Heap} {b:Bool} {i a:Addr} {k:Nat} (x:Sit h b i a k):∃o n vs,h.get? i=some o∧o.cls=.type n∧o.data=.fields vs:=by
 cases b with
 |true=>obtain ⟨o,ho,c,d⟩:=x;exact ⟨o,_,_,ho,c,d⟩
 |false=>obtain ⟨o,ho,c,d⟩:=x;exact ⟨o,_,_,ho,c,d⟩
section
variable {prog:Program} {w:World} {A:Around} {E:Value->Shared->Prop} {s:Shared}
theorem gT {it t:Addr} {i:Nat} {items} {x:Value} {Q:Value->Shared->Prop} (hit:s.heap.IsTupleIter it t i) (ht:s.heap.IsTuple t items) (hx:items[i]?=some x)
  (hQ:∀h',h'.IsTupleIter it t (i+1)->Heap.SameBut it s.heap h'->Q x {s with heap:=h'}):wpAny (model prog w) A (Builtin.SmallTypes.nextOf (.ref it)) Q E s:=by
 obtain ⟨o,ho,hc,hd⟩:=id hit
 obtain ⟨ol,hol,_,nl,hdl⟩:=ht
 unfold Builtin.SmallTypes.nextOf
 refine wpAny_bind (wpAny_callSpecial?_slot (name:=Str.ofString "__next__") hit.typeIs F.slot_tuple_iterator_next
  (wpAny_call_entry F.slot_tuple_iterator_next hit.typeIs F.entry_tuple_iterator_next ?_ (F.args_tuple_iterator_next_1 _)))
 show wpAny _ _ (field (.ref it) 0>>=_) _ _ s
 refine wpAny_bind (wpAny_field ho hd (x:=.ref t) rfl ?_)
 show wpAny _ _ (if (Value.ref t==Value.none)=true then _ else _) _ _ s
 rw [if_neg (show ¬((Value.ref t==Value.none)=true) from Bool.false_ne_true)]
 show wpAny _ _ (field (.ref it) 1>>=_) _ _ s
 refine wpAny_bind (wpAny_field ho hd (x:=.int i 0) rfl ?_)
 show wpAny _ _ (seqItems? (.ref t)>>=_) _ _ s
 refine wpAny_bind (wpAny_seqItems hol hdl ?_)
 simp only [Int.toNat_natCast,hx]
 refine wpAny_bind (wpAny_setField ho hd (by simp) (wpAny_pure ⟨x,rfl,wpAny_pure (hQ _ ?_ (Heap.SameBut.update ..))⟩))
 exact ⟨_,Heap.get?_update_self _ ho (Obj.isFreed_of_fields (Obj.data_mapFields hd _)),(Obj.cls_mapFields ..).trans hc,by
  rw [Obj.data_mapFields hd];simp [rawInt]⟩
theorem ib {it t:Addr} {i:Nat} {items} {Q:Value->Shared->Prop} (hh:A.handled=none) (hit:s.heap.IsTupleIter it t i) (ht:s.heap.IsTuple t items) (hx:items[i]?=none)
  (hE:∀h' e,Heap.ExtBut it s.heap h'->(∃o,h'.get? e=some o∧o.cls=.type "StopIteration")->E (.ref e) {s with heap:=h'}):
  wpAny (model prog w) A (Builtin.SmallTypes.nextOf (.ref it)) Q E s:=by
 obtain ⟨o,ho,hc,hd⟩:=id hit
 obtain ⟨ol,hol,_,nl,hdl⟩:=ht
 unfold Builtin.SmallTypes.nextOf
 refine wpAny_bind (wpAny_callSpecial?_slot (name:=Str.ofString "__next__") hit.typeIs F.slot_tuple_iterator_next
  (wpAny_call_entry F.slot_tuple_iterator_next hit.typeIs F.entry_tuple_iterator_next ?_ (F.args_tuple_iterator_next_1 _)))
 show wpAny _ _ (field (.ref it) 0>>=_) _ _ s
 refine wpAny_bind (wpAny_field ho hd (x:=.ref t) rfl ?_)
 show wpAny _ _ (if (Value.ref t==Value.none)=true then _ else _) _ _ s
 rw [if_neg (show ¬((Value.ref t==Value.none)=true) from Bool.false_ne_true)]
 show wpAny _ _ (field (.ref it) 1>>=_) _ _ s
 refine wpAny_bind (wpAny_field ho hd (x:=.int i 0) rfl ?_)
 show wpAny _ _ (seqItems? (.ref t)>>=_) _ _ s
 refine wpAny_bind (wpAny_seqItems hol hdl ?_)
 simp only [Int.toNat_natCast,hx]
 refine wpAny_bind (wpAny_rule (wpAny_bind (wpAny_setField ho hd (by simp) ?_)))
 show wpAny _ _ (newExc (.type "StopIteration") []>>=_) _ _ _
 refine wpAny_bind ?_
 simp only [newExc,newTuple]
 refine wpAny_bind (wpAny_newObj_type ?_ (by size_fits))
 refine wpAny_bind (m:=firstArgMember _ _) (wpAny_of_eq (a:=Value.none) (by first|rfl|(simp only [firstArgMember];rfl)) ?_)
 refine wpAny_newObj_type ?_ (by size_fits)
 simp only [raiseNew]
 refine wpAny_bind (wpAny_handled ?_)
 first|rw [show A.in1.handled=none from hh]|rw [hh]
 refine wpAny_bind (wpAny_pure (wpAny_throw ?_))
 exact hE _ _ (((Heap.SameBut.update ..).extBut.push _).push _) ⟨_,Heap.get?_push_size _ rfl,rfl⟩
theorem bz {b:Bool} {it a:Addr} {i:Nat} {items:Array Value} {x:Value} {Q:Value->Shared->Prop} (hit:Sit s.heap b it a i) (hl:Ssq s.heap b a items) (hx:items[i]?=some x)
  (hQ:∀h',Sit h' b it a (i+1)->Heap.SameBut it s.heap h'->Q x {s with heap:=h'}):wpAny (model prog w) A (Builtin.SmallTypes.nextOf (.ref it)) Q E s:=by
 cases b with
 |true=>exact gT hit hl hx hQ
 |false=>exact wpAny_nextOf_list_item hit hl hx hQ
theorem dE {b:Bool} {it a:Addr} {i:Nat} {items:Array Value} {Q:Value->Shared->Prop} (hh:A.handled=none) (hit:Sit s.heap b it a i) (hl:Ssq s.heap b a items) (hx:items[i]?=none)
  (hE:∀h' e,Heap.ExtBut it s.heap h'->(∃o,h'.get? e=some o∧o.cls=.type "StopIteration")->E (.ref e) {s with heap:=h'}):wpAny (model prog w) A (Builtin.SmallTypes.nextOf (.ref it)) Q E s:=by
 cases b with
 |true=>exact ib hh hit hl hx hE
 |false=>exact wpAny_nextOf_list_end hh hit hl hx hE
noncomputable abbrev ak (h:Heap) (T:Addr) (vs:Array Value):Prop:=h.get? T=some {cls:=.type "tuple",data:=.seq vs}
theorem wB:8<=sizeLine:=by rw [sizeLine_eq];decide
theorem aV {T:Addr} {vs:Array Value} {x:Value} {k:Nat} {Q:Unit->Shared->Prop} (hT:ak s.heap T vs) (hv:vs.size<=8)
  (h:∀h',ak h' T (vs.setIfInBounds k x)->Heap.SameBut T s.heap h'->Q () {s with heap:=h'}):wpAny (model prog w) A (updateSeq T (·.setIfInBounds k x)) Q E s:=by
 have h8:=wB
 refine wpAny_updateSeq hT rfl (h _ ?_ (Heap.SameBut.update ..)) (hz:=by omega) (_hz':=by simp;omega)
 show Heap.get? _ _=_
 rw [Heap.get?_update_self _ hT rfl]
 simp [Obj.mapSeq]
theorem ne3 {l:List Addr} {a b:Addr} (ha:a∉l) (hb:b∈l):a≠b:=fun e=>ha (e▸hb)
theorem pj {z TI TO i1 i2 a1 a2:Addr} {b1 b2:Bool} {k:Nat} {xs ys ts:Array Value} {x y:Value} {Q:Value->Shared->Prop}
  (nd:[z,TI,TO,i1,i2].Nodup) (n1:a1∉[z,TO,i1,i2]) (n2:a2∉[z,TO,i1,i2])
  (hz:IsZip s.heap z TI TO .none) (hTI:ak s.heap TI #[.ref i1,.ref i2]) (hTO:ak s.heap TO ts) (hts:ts.size=2)
  (h1:Sit s.heap b1 i1 a1 k) (h2:Sit s.heap b2 i2 a2 k) (hl1:Ssq s.heap b1 a1 xs) (hl2:Ssq s.heap b2 a2 ys) (hx:xs[k]?=some x) (hy:ys[k]?=some y)
  (hQ:∀h',IsZip h' z TI TO (rawInt s.heap.objs.size)->ak h' TO #[x,y]->Sit h' b1 i1 a1 (k+1)->Sit h' b2 i2 a2 (k+1)->ak h' s.heap.objs.size #[x,y]->h'.objs.size=s.heap.objs.size+1->
   (∀c o,c∉[z,TO,i1,i2]->s.heap.get? c=some o->h'.get? c=some o)->Q (.ref s.heap.objs.size) {s with heap:=h'}):
  wpAny (model prog w) A (Builtin.«zip.__next__» ⟨[.ref z],[]⟩) (fun fin s'=>∃v,fin=.done (.ret v)∧Q v s') E s:=by
 simp only [List.nodup_cons,List.mem_cons,List.not_mem_nil,or_false,not_or,List.nodup_nil,and_true,not_false_eq_true] at nd
 obtain ⟨⟨zTI,zTO,zi1,zi2⟩,⟨TITO,TIi1,TIi2⟩,⟨TOi1,TOi2⟩,i12⟩:=nd
 simp only [List.mem_cons,List.not_mem_nil,or_false,not_or] at n1 n2
 obtain ⟨a1z,a1T,a1i,a1j⟩:=n1
 obtain ⟨a2z,a2T,a2i,a2j⟩:=n2
 show wpAny _ _ (field (.ref z) 2>>=_) _ _ _
 refine wpAny_bind (wpAny_field hz rfl (x:=.bool false) rfl ?_)
 show wpAny _ _ (field (.ref z) 3>>=_) _ _ _
 refine wpAny_bind (wpAny_field hz rfl (x:=.ref TI) rfl ?_)
 refine wpAny_bind (wpAny_seqItems hTI rfl ?_)
 show wpAny _ _ (Builtin.SmallTypes.ownedTupleIsFree (.ref z)>>=_) _ _ _
 refine wpAny_bind ?_
 unfold Builtin.SmallTypes.ownedTupleIsFree
 refine wpAny_bind (wpAny_field hz rfl (x:=.none) rfl (wpAny_pure ?_))
 simp only [if_true]
 refine wpAny_bind (wpAny_rule ?_)
 refine wpAny_bind (wpAny_field hz rfl (x:=.ref TO) rfl ?_)
 refine wpAny_bind (wpAny_setField_rec hz (by simp) fun h₁ hz₁ hs₁=>?_)
 replace hz₁:IsZip h₁ z TI TO .ellipsis:=hz₁
 refine wpAny_bind ?_
 simp only [List.zipIdx_cons,List.zipIdx_nil,List.forIn_cons,List.forIn_nil]
 refine wpAny_bind (wpAny_bind (wpAny_onRaise ?_))
 show wpAny _ _ (Builtin.SmallTypes.nextOf (.ref i1)>>=_) _ _ _
 refine wpAny_bind (bz (h1.at fun o e=>hs₁.extBut _ _ (Ne.symm zi1) e) (hl1.at fun o e=>hs₁.extBut _ _ a1z e) hx fun h₂ h1₂ hs₂=>wpAny_pure ?_)
 have hTO₂:ak h₂ TO ts:=hs₂.extBut _ _ TOi1 (hs₁.extBut _ _ (Ne.symm zTO) hTO)
 refine wpAny_bind (wpAny_seqItems hTO₂ rfl ?_)
 refine wpAny_bind (aV hTO₂ (by omega) fun h₃ hTO₃ hs₃=>?_)
 refine wpAny_bind (wpAny_letGo (wpAny_pure ?_))
 refine wpAny_bind (wpAny_bind (wpAny_onRaise ?_))
 show wpAny _ _ (Builtin.SmallTypes.nextOf (.ref i2)>>=_) _ _ _
 refine wpAny_bind (bz (h2.at fun o e=>hs₃.extBut _ _ (Ne.symm TOi2) (hs₂.extBut _ _ (Ne.symm i12) (hs₁.extBut _ _ (Ne.symm zi2) e)))
  (hl2.at fun o e=>hs₃.extBut _ _ a2T (hs₂.extBut _ _ a2i (hs₁.extBut _ _ a2z e))) hy fun h₄ h2₄ hs₄=>wpAny_pure ?_)
 have hTO₄:=hs₄.extBut _ _ TOi2 hTO₃
 refine wpAny_bind (wpAny_seqItems hTO₄ rfl ?_)
 refine wpAny_bind (aV hTO₄ (by simp;omega) fun h₅ hTO₅ hs₅=>?_)
 refine wpAny_bind (wpAny_letGo (wpAny_pure (wpAny_pure ?_)))
 have ets:((ts.setIfInBounds 0 x).setIfInBounds 1 y)=#[x,y]:=by
  match ts,hts with
  |⟨[p,q]⟩,_=>rfl
 replace hTO₅:ak h₅ TO #[x,y]:=by rw [←ets];exact hTO₅
 refine wpAny_bind (wpAny_seqItems hTO₅ rfl ?_)
 refine wpAny_bind (wpAny_newTuple ?_)
 have hsz:h₅.objs.size=s.heap.objs.size:=by rw [hs₅.1,hs₄.1,hs₃.1,hs₂.1,hs₁.1]
 have hz₅:IsZip h₅ z TI TO .ellipsis:=hs₅.extBut _ _ zTO (hs₄.extBut _ _ zi2 (hs₃.extBut _ _ zTO (hs₂.extBut _ _ zi1 hz₁)))
 have hk₅:∀c o,c∉[z,TO,i1,i2]->s.heap.get? c=some o->h₅.get? c=some o:=fun c o hc e=>
  hs₅.extBut _ _ (ne3 hc (by simp)) (hs₄.extBut _ _ (ne3 hc (by simp)) (hs₃.extBut _ _ (ne3 hc (by simp)) (hs₂.extBut _ _ (ne3 hc (by simp)) (hs₁.extBut _ _ (ne3 hc (by simp)) e))))
 have h1₅:Sit h₅ b1 i1 a1 (k+1):=h1₂.at fun o e=>hs₅.extBut _ _ (Ne.symm TOi1) (hs₄.extBut _ _ i12 (hs₃.extBut _ _ (Ne.symm TOi1) e))
 have h2₅:Sit h₅ b2 i2 a2 (k+1):=h2₄.at fun o e=>hs₅.extBut _ _ (Ne.symm TOi2) e
 have hzlt:z<h₅.objs.size:=Heap.lt_size hz₅
 have hTOlt:TO<h₅.objs.size:=Heap.lt_size hTO₅
 show wpAny _ _ (Builtin.SmallTypes.ownedTupleHandOut (.ref z) (.ref h₅.objs.size)>>=_) _ _ _
 refine wpAny_bind ?_
 unfold Builtin.SmallTypes.ownedTupleHandOut
 have hz₆:IsZip (h₅.push {cls:=.type "tuple",data:=.seq #[x,y]}) z TI TO .ellipsis:=Heap.get?_push_of_some _ hz₅
 refine wpAny_bind (wpAny_setField_rec hz₆ (by simp) fun h₇ hz₇ hs₇=>?_)
 replace hz₇:IsZip h₇ z TI TO (rawInt h₅.objs.size):=hz₇
 refine wpAny_setField_rec hz₇ (by simp) fun h₈ hz₈ hs₈=>?_
 replace hz₈:IsZip h₈ z TI TO (rawInt h₅.objs.size):=hz₈
 have up:∀c o,c≠z->h₅.get? c=some o->h₈.get? c=some o:=fun c o c1 e=>hs₈.extBut _ _ c1 (hs₇.extBut _ _ c1 (Heap.get?_push_of_some _ e))
 have hT₈:ak h₈ h₅.objs.size #[x,y]:=hs₈.extBut _ _ (Nat.ne_of_gt hzlt) (hs₇.extBut _ _ (Nat.ne_of_gt hzlt) (Heap.get?_push_size _ rfl))
 have hz8:h₈.objs.size=h₅.objs.size+1:=by rw [hs₈.1,hs₇.1,Heap.size_push]
 rw [hsz] at hz₈ hT₈ hz8
 refine wpAny_pure ⟨_,rfl,?_⟩
 show Q (.ref h₅.objs.size) _
 rw [hsz]
 exact hQ h₈ hz₈ (up _ _ (Ne.symm zTO) hTO₅) (h1₅.at fun o e=>up _ o (Ne.symm zi1) e) (h2₅.at fun o e=>up _ o (Ne.symm zi2) e) hT₈ hz8 fun c o hc e=>up c o (ne3 hc (by simp)) (hk₅ c o hc e)
theorem rk {z TI TO i1 i2 a1 a2:Addr} {b1 b2:Bool} {k:Nat} {xs ys ts:Array Value} {Q:PySem.Fin->Shared->Prop} (hh:A.handled=none)
  (nd:[z,TI,TO,i1,i2].Nodup) (n1:a1∉[z,TO,i1,i2]) (n2:a2∉[z,TO,i1,i2])
  (hz:IsZip s.heap z TI TO .none) (hTI:ak s.heap TI #[.ref i1,.ref i2]) (hTO:ak s.heap TO ts) (hts:ts.size=2)
  (h1:Sit s.heap b1 i1 a1 k) (h2:Sit s.heap b2 i2 a2 k) (hl1:Ssq s.heap b1 a1 xs) (hl2:Ssq s.heap b2 a2 ys) (hend:xs[k]?=none∨ys[k]?=none)
  (hE:∀h' e,(∀c o,c∉[z,TO,i1,i2]->s.heap.get? c=some o->h'.get? c=some o)->(∃o,h'.get? e=some o∧o.cls=.type "StopIteration")->E (.ref e) {s with heap:=h'}):
  wpAny (model prog w) A (Builtin.«zip.__next__» ⟨[.ref z],[]⟩) Q E s:=by
 simp only [List.nodup_cons,List.mem_cons,List.not_mem_nil,or_false,not_or,List.nodup_nil,and_true,not_false_eq_true] at nd
 obtain ⟨⟨zTI,zTO,zi1,zi2⟩,⟨TITO,TIi1,TIi2⟩,⟨TOi1,TOi2⟩,i12⟩:=nd
 simp only [List.mem_cons,List.not_mem_nil,or_false,not_or] at n1 n2
 obtain ⟨a1z,a1T,a1i,a1j⟩:=n1
 obtain ⟨a2z,a2T,a2i,a2j⟩:=n2
 show wpAny _ _ (field (.ref z) 2>>=_) _ _ _
 refine wpAny_bind (wpAny_field hz rfl (x:=.bool false) rfl ?_)
 show wpAny _ _ (field (.ref z) 3>>=_) _ _ _
 refine wpAny_bind (wpAny_field hz rfl (x:=.ref TI) rfl ?_)
 refine wpAny_bind (wpAny_seqItems hTI rfl ?_)
 show wpAny _ _ (Builtin.SmallTypes.ownedTupleIsFree (.ref z)>>=_) _ _ _
 refine wpAny_bind ?_
 unfold Builtin.SmallTypes.ownedTupleIsFree
 refine wpAny_bind (wpAny_field hz rfl (x:=.none) rfl (wpAny_pure ?_))
 simp only [if_true]
 refine wpAny_bind (wpAny_rule ?_)
 refine wpAny_bind (wpAny_field hz rfl (x:=.ref TO) rfl ?_)
 refine wpAny_bind (wpAny_setField_rec hz (by simp) fun h₁ hz₁ hs₁=>?_)
 replace hz₁:IsZip h₁ z TI TO .ellipsis:=hz₁
 refine wpAny_bind ?_
 simp only [List.zipIdx_cons,List.zipIdx_nil,List.forIn_cons,List.forIn_nil]
 refine wpAny_bind (wpAny_bind (wpAny_onRaise ?_))
 show wpAny _ _ (Builtin.SmallTypes.nextOf (.ref i1)>>=_) _ _ _
 have hi1:=h1.at (h':=h₁) fun o e=>hs₁.extBut _ _ (Ne.symm zi1) e
 have hL1:=hl1.at (h':=h₁) fun o e=>hs₁.extBut _ _ a1z e
 cases hx:xs[k]? with
 |none=>
  refine wpAny_bind (dE hh hi1 hL1 hx fun h₂ e hs₂ he=>?_)
  obtain ⟨oe,hoe,hce⟩:=he
  have hz₂:IsZip h₂ z TI TO .ellipsis:=hs₂ _ _ zi1 hz₁
  have hez:e≠z:=fun x=>by subst x;rw [hz₂] at hoe;cases hoe;simp at hce
  refine wpAny_setField_rec hz₂ (by simp) fun h₃ _ hs₃=>hE h₃ e (fun c o hc x=>hs₃.extBut _ _ (ne3 hc (by simp)) (hs₂ _ _ (ne3 hc (by simp)) (hs₁.extBut _ _ (ne3 hc (by simp)) x))) ⟨oe,hs₃.extBut _ _ hez hoe,hce⟩
 |some x=>
  have hy:ys[k]?=none:=by rcases hend with h|h;rw [hx] at h;cases h;exact h
  refine wpAny_bind (bz hi1 hL1 hx fun h₂ h1₂ hs₂=>wpAny_pure ?_)
  have hTO₂:ak h₂ TO ts:=hs₂.extBut _ _ TOi1 (hs₁.extBut _ _ (Ne.symm zTO) hTO)
  refine wpAny_bind (wpAny_seqItems hTO₂ rfl ?_)
  refine wpAny_bind (aV hTO₂ (by omega) fun h₃ hTO₃ hs₃=>?_)
  refine wpAny_bind (wpAny_letGo (wpAny_pure ?_))
  refine wpAny_bind (wpAny_bind (wpAny_onRaise ?_))
  show wpAny _ _ (Builtin.SmallTypes.nextOf (.ref i2)>>=_) _ _ _
  refine wpAny_bind (dE hh (h2.at fun o e=>hs₃.extBut _ _ (Ne.symm TOi2) (hs₂.extBut _ _ (Ne.symm i12) (hs₁.extBut _ _ (Ne.symm zi2) e)))
   (hl2.at fun o e=>hs₃.extBut _ _ a2T (hs₂.extBut _ _ a2i (hs₁.extBut _ _ a2z e))) hy fun h₄ e hs₄ he=>?_)
  obtain ⟨oe,hoe,hce⟩:=he
  have hz₄:IsZip h₄ z TI TO .ellipsis:=hs₄ _ _ zi2 (hs₃.extBut _ _ zTO (hs₂.extBut _ _ zi1 hz₁))
  have hez:e≠z:=fun x=>by subst x;rw [hz₄] at hoe;cases hoe;simp at hce
  refine wpAny_setField_rec hz₄ (by simp) fun h₅ _ hs₅=>hE h₅ e (fun c o hc x=>hs₅.extBut _ _ (ne3 hc (by simp)) (hs₄ _ _ (ne3 hc (by simp)) (hs₃.extBut _ _ (ne3 hc (by simp)) (hs₂.extBut _ _ (ne3 hc (by simp)) (hs₁.extBut _ _ (ne3 hc (by simp)) x))))) ⟨oe,hs₅.extBut _ _ hez hoe,hce⟩
theorem p0 {z TI TO i1 i2 i3 a1 a2 a3:Addr} {b1 b2 b3:Bool} {k:Nat} {xs ys us ts:Array Value} {x y u:Value} {Q:Value->Shared->Prop}
  (nd:[z,TI,TO,i1,i2,i3].Nodup) (n1:a1∉[z,TO,i1,i2,i3]) (n2:a2∉[z,TO,i1,i2,i3]) (n3:a3∉[z,TO,i1,i2,i3])
  (hz:IsZip s.heap z TI TO .none) (hTI:ak s.heap TI #[.ref i1,.ref i2,.ref i3]) (hTO:ak s.heap TO ts) (hts:ts.size=3)
  (h1:Sit s.heap b1 i1 a1 k) (h2:Sit s.heap b2 i2 a2 k) (h3:Sit s.heap b3 i3 a3 k) (hl1:Ssq s.heap b1 a1 xs) (hl2:Ssq s.heap b2 a2 ys) (hl3:Ssq s.heap b3 a3 us)
  (hx:xs[k]?=some x) (hy:ys[k]?=some y) (hu:us[k]?=some u)
  (hQ:∀h',IsZip h' z TI TO (rawInt s.heap.objs.size)->ak h' TO #[x,y,u]->Sit h' b1 i1 a1 (k+1)->Sit h' b2 i2 a2 (k+1)->Sit h' b3 i3 a3 (k+1)->ak h' s.heap.objs.size #[x,y,u]->h'.objs.size=s.heap.objs.size+1->
   (∀c o,c∉[z,TO,i1,i2,i3]->s.heap.get? c=some o->h'.get? c=some o)->Q (.ref s.heap.objs.size) {s with heap:=h'}):
  wpAny (model prog w) A (Builtin.«zip.__next__» ⟨[.ref z],[]⟩) (fun fin s'=>∃v,fin=.done (.ret v)∧Q v s') E s:=by
 simp only [List.nodup_cons,List.mem_cons,List.not_mem_nil,or_false,not_or,List.nodup_nil,and_true,not_false_eq_true] at nd
 obtain ⟨⟨zTI,zTO,zi1,zi2,zi3⟩,⟨TITO,TIi1,TIi2,TIi3⟩,⟨TOi1,TOi2,TOi3⟩,⟨i12,i13⟩,i23⟩:=nd
 simp only [List.mem_cons,List.not_mem_nil,or_false,not_or] at n1 n2 n3
 obtain ⟨a1z,a1T,a1i,a1j,a1k⟩:=n1
 obtain ⟨a2z,a2T,a2i,a2j,a2k⟩:=n2
 obtain ⟨a3z,a3T,a3i,a3j,a3k⟩:=n3
 show wpAny _ _ (field (.ref z) 2>>=_) _ _ _
 refine wpAny_bind (wpAny_field hz rfl (x:=.bool false) rfl ?_)
 show wpAny _ _ (field (.ref z) 3>>=_) _ _ _
 refine wpAny_bind (wpAny_field hz rfl (x:=.ref TI) rfl ?_)
 refine wpAny_bind (wpAny_seqItems hTI rfl ?_)
 show wpAny _ _ (Builtin.SmallTypes.ownedTupleIsFree (.ref z)>>=_) _ _ _
 refine wpAny_bind ?_
 unfold Builtin.SmallTypes.ownedTupleIsFree
 refine wpAny_bind (wpAny_field hz rfl (x:=.none) rfl (wpAny_pure ?_))
 simp only [if_true]
 refine wpAny_bind (wpAny_rule ?_)
 refine wpAny_bind (wpAny_field hz rfl (x:=.ref TO) rfl ?_)
 refine wpAny_bind (wpAny_setField_rec hz (by simp) fun h₁ hz₁ hs₁=>?_)
 replace hz₁:IsZip h₁ z TI TO .ellipsis:=hz₁
 refine wpAny_bind ?_
 simp only [List.zipIdx_cons,List.zipIdx_nil,List.forIn_cons,List.forIn_nil]
 refine wpAny_bind (wpAny_bind (wpAny_onRaise ?_))
 show wpAny _ _ (Builtin.SmallTypes.nextOf (.ref i1)>>=_) _ _ _
 refine wpAny_bind (bz (h1.at fun o e=>hs₁.extBut _ _ (Ne.symm zi1) e) (hl1.at fun o e=>hs₁.extBut _ _ a1z e) hx fun h₂ h1₂ hs₂=>wpAny_pure ?_)
 have hTO₂:ak h₂ TO ts:=hs₂.extBut _ _ TOi1 (hs₁.extBut _ _ (Ne.symm zTO) hTO)
 refine wpAny_bind (wpAny_seqItems hTO₂ rfl ?_)
 refine wpAny_bind (aV hTO₂ (by omega) fun h₃ hTO₃ hs₃=>?_)
 refine wpAny_bind (wpAny_letGo (wpAny_pure ?_))
 refine wpAny_bind (wpAny_bind (wpAny_onRaise ?_))
 show wpAny _ _ (Builtin.SmallTypes.nextOf (.ref i2)>>=_) _ _ _
 refine wpAny_bind (bz (h2.at fun o e=>hs₃.extBut _ _ (Ne.symm TOi2) (hs₂.extBut _ _ (Ne.symm i12) (hs₁.extBut _ _ (Ne.symm zi2) e)))
  (hl2.at fun o e=>hs₃.extBut _ _ a2T (hs₂.extBut _ _ a2i (hs₁.extBut _ _ a2z e))) hy fun h₄ h2₄ hs₄=>wpAny_pure ?_)
 have hTO₄:=hs₄.extBut _ _ TOi2 hTO₃
 refine wpAny_bind (wpAny_seqItems hTO₄ rfl ?_)
 refine wpAny_bind (aV hTO₄ (by simp;omega) fun h₅ hTO₅ hs₅=>?_)
 refine wpAny_bind (wpAny_letGo (wpAny_pure ?_))
 refine wpAny_bind (wpAny_bind (wpAny_onRaise ?_))
 show wpAny _ _ (Builtin.SmallTypes.nextOf (.ref i3)>>=_) _ _ _
 refine wpAny_bind (bz (h3.at fun o e=>hs₅.extBut _ _ (Ne.symm TOi3) (hs₄.extBut _ _ (Ne.symm i23) (hs₃.extBut _ _ (Ne.symm TOi3) (hs₂.extBut _ _ (Ne.symm i13) (hs₁.extBut _ _ (Ne.symm zi3) e)))))
  (hl3.at fun o e=>hs₅.extBut _ _ a3T (hs₄.extBut _ _ a3j (hs₃.extBut _ _ a3T (hs₂.extBut _ _ a3i (hs₁.extBut _ _ a3z e))))) hu fun h₆ h3₆ hs₆=>wpAny_pure ?_)
 have hTO₆:=hs₆.extBut _ _ TOi3 hTO₅
 refine wpAny_bind (wpAny_seqItems hTO₆ rfl ?_)
 refine wpAny_bind (aV hTO₆ (by simp;omega) fun h₇ hTO₇ hs₇=>?_)
 refine wpAny_bind (wpAny_letGo (wpAny_pure (wpAny_pure ?_)))
 have ets:(((ts.setIfInBounds 0 x).setIfInBounds 1 y).setIfInBounds 2 u)=#[x,y,u]:=by
  match ts,hts with
  |⟨[p,q,r]⟩,_=>rfl
 replace hTO₇:ak h₇ TO #[x,y,u]:=by rw [←ets];exact hTO₇
 refine wpAny_bind (wpAny_seqItems hTO₇ rfl ?_)
 refine wpAny_bind (wpAny_newTuple ?_)
 have hsz:h₇.objs.size=s.heap.objs.size:=by rw [hs₇.1,hs₆.1,hs₅.1,hs₄.1,hs₃.1,hs₂.1,hs₁.1]
 have hz₅:IsZip h₇ z TI TO .ellipsis:=hs₇.extBut _ _ zTO (hs₆.extBut _ _ zi3 (hs₅.extBut _ _ zTO (hs₄.extBut _ _ zi2 (hs₃.extBut _ _ zTO (hs₂.extBut _ _ zi1 hz₁)))))
 have hk₅:∀c o,c∉[z,TO,i1,i2,i3]->s.heap.get? c=some o->h₇.get? c=some o:=fun c o hc e=>
  hs₇.extBut _ _ (ne3 hc (by simp)) (hs₆.extBut _ _ (ne3 hc (by simp)) (hs₅.extBut _ _ (ne3 hc (by simp)) (hs₄.extBut _ _ (ne3 hc (by simp)) (hs₃.extBut _ _ (ne3 hc (by simp)) (hs₂.extBut _ _ (ne3 hc (by simp)) (hs₁.extBut _ _ (ne3 hc (by simp)) e))))))
 have h1₅:Sit h₇ b1 i1 a1 (k+1):=h1₂.at fun o e=>hs₇.extBut _ _ (Ne.symm TOi1) (hs₆.extBut _ _ i13 (hs₅.extBut _ _ (Ne.symm TOi1) (hs₄.extBut _ _ i12 (hs₃.extBut _ _ (Ne.symm TOi1) e))))
 have h2₅:Sit h₇ b2 i2 a2 (k+1):=h2₄.at fun o e=>hs₇.extBut _ _ (Ne.symm TOi2) (hs₆.extBut _ _ i23 (hs₅.extBut _ _ (Ne.symm TOi2) e))
 have h3₅:Sit h₇ b3 i3 a3 (k+1):=h3₆.at fun o e=>hs₇.extBut _ _ (Ne.symm TOi3) e
 have hzlt:z<h₇.objs.size:=Heap.lt_size hz₅
 have hTOlt:TO<h₇.objs.size:=Heap.lt_size hTO₇
 show wpAny _ _ (Builtin.SmallTypes.ownedTupleHandOut (.ref z) (.ref h₇.objs.size)>>=_) _ _ _
 refine wpAny_bind ?_
 unfold Builtin.SmallTypes.ownedTupleHandOut
 have hz₆:IsZip (h₇.push {cls:=.type "tuple",data:=.seq #[x,y,u]}) z TI TO .ellipsis:=Heap.get?_push_of_some _ hz₅
 refine wpAny_bind (wpAny_setField_rec hz₆ (by simp) fun h₈ hz₈ hs₈=>?_)
 replace hz₈:IsZip h₈ z TI TO (rawInt h₇.objs.size):=hz₈
 refine wpAny_setField_rec hz₈ (by simp) fun h₉ hz₉ hs₉=>?_
 replace hz₉:IsZip h₉ z TI TO (rawInt h₇.objs.size):=hz₉
 have up:∀c o,c≠z->h₇.get? c=some o->h₉.get? c=some o:=fun c o c1 e=>hs₉.extBut _ _ c1 (hs₈.extBut _ _ c1 (Heap.get?_push_of_some _ e))
 have hT₈:ak h₉ h₇.objs.size #[x,y,u]:=hs₉.extBut _ _ (Nat.ne_of_gt hzlt) (hs₈.extBut _ _ (Nat.ne_of_gt hzlt) (Heap.get?_push_size _ rfl))
 have hz8:h₉.objs.size=h₇.objs.size+1:=by rw [hs₉.1,hs₈.1,Heap.size_push]
 rw [hsz] at hz₉ hT₈ hz8
 refine wpAny_pure ⟨_,rfl,?_⟩
 show Q (.ref h₇.objs.size) _
 rw [hsz]
 exact hQ h₉ hz₉ (up _ _ (Ne.symm zTO) hTO₇) (h1₅.at fun o e=>up _ o (Ne.symm zi1) e) (h2₅.at fun o e=>up _ o (Ne.symm zi2) e) (h3₅.at fun o e=>up _ o (Ne.symm zi3) e) hT₈ hz8 fun c o hc e=>up c o (ne3 hc (by simp)) (hk₅ c o hc e)
theorem qY {z TI TO i1 i2 i3 a1 a2 a3:Addr} {b1 b2 b3:Bool} {k:Nat} {xs ys us ts:Array Value} {Q:PySem.Fin->Shared->Prop} (hh:A.handled=none)
  (nd:[z,TI,TO,i1,i2,i3].Nodup) (n1:a1∉[z,TO,i1,i2,i3]) (n2:a2∉[z,TO,i1,i2,i3]) (n3:a3∉[z,TO,i1,i2,i3])
  (hz:IsZip s.heap z TI TO .none) (hTI:ak s.heap TI #[.ref i1,.ref i2,.ref i3]) (hTO:ak s.heap TO ts) (hts:ts.size=3)
  (h1:Sit s.heap b1 i1 a1 k) (h2:Sit s.heap b2 i2 a2 k) (h3:Sit s.heap b3 i3 a3 k) (hl1:Ssq s.heap b1 a1 xs) (hl2:Ssq s.heap b2 a2 ys) (hl3:Ssq s.heap b3 a3 us)
  (hend:xs[k]?=none∨ys[k]?=none∨us[k]?=none)
  (hE:∀h' e,(∀c o,c∉[z,TO,i1,i2,i3]->s.heap.get? c=some o->h'.get? c=some o)->(∃o,h'.get? e=some o∧o.cls=.type "StopIteration")->E (.ref e) {s with heap:=h'}):
  wpAny (model prog w) A (Builtin.«zip.__next__» ⟨[.ref z],[]⟩) Q E s:=by
 simp only [List.nodup_cons,List.mem_cons,List.not_mem_nil,or_false,not_or,List.nodup_nil,and_true,not_false_eq_true] at nd
 obtain ⟨⟨zTI,zTO,zi1,zi2,zi3⟩,⟨TITO,TIi1,TIi2,TIi3⟩,⟨TOi1,TOi2,TOi3⟩,⟨i12,i13⟩,i23⟩:=nd
 simp only [List.mem_cons,List.not_mem_nil,or_false,not_or] at n1 n2 n3
 obtain ⟨a1z,a1T,a1i,a1j,a1k⟩:=n1
 obtain ⟨a2z,a2T,a2i,a2j,a2k⟩:=n2
 obtain ⟨a3z,a3T,a3i,a3j,a3k⟩:=n3
 show wpAny _ _ (field (.ref z) 2>>=_) _ _ _
 refine wpAny_bind (wpAny_field hz rfl (x:=.bool false) rfl ?_)
 show wpAny _ _ (field (.ref z) 3>>=_) _ _ _
 refine wpAny_bind (wpAny_field hz rfl (x:=.ref TI) rfl ?_)
 refine wpAny_bind (wpAny_seqItems hTI rfl ?_)
 show wpAny _ _ (Builtin.SmallTypes.ownedTupleIsFree (.ref z)>>=_) _ _ _
 refine wpAny_bind ?_
 unfold Builtin.SmallTypes.ownedTupleIsFree
 refine wpAny_bind (wpAny_field hz rfl (x:=.none) rfl (wpAny_pure ?_))
 simp only [if_true]
 refine wpAny_bind (wpAny_rule ?_)
 refine wpAny_bind (wpAny_field hz rfl (x:=.ref TO) rfl ?_)
 refine wpAny_bind (wpAny_setField_rec hz (by simp) fun h₁ hz₁ hs₁=>?_)
 replace hz₁:IsZip h₁ z TI TO .ellipsis:=hz₁
 refine wpAny_bind ?_
 simp only [List.zipIdx_cons,List.zipIdx_nil,List.forIn_cons,List.forIn_nil]
 refine wpAny_bind (wpAny_bind (wpAny_onRaise ?_))
 show wpAny _ _ (Builtin.SmallTypes.nextOf (.ref i1)>>=_) _ _ _
 have hi1:=h1.at (h':=h₁) fun o e=>hs₁.extBut _ _ (Ne.symm zi1) e
 have hL1:=hl1.at (h':=h₁) fun o e=>hs₁.extBut _ _ a1z e
 cases hx:xs[k]? with
 |none=>
  refine wpAny_bind (dE hh hi1 hL1 hx fun h₂ e hs₂ he=>?_)
  obtain ⟨oe,hoe,hce⟩:=he
  have hz₂:IsZip h₂ z TI TO .ellipsis:=hs₂ _ _ zi1 hz₁
  have hez:e≠z:=fun x=>by subst x;rw [hz₂] at hoe;cases hoe;simp at hce
  refine wpAny_setField_rec hz₂ (by simp) fun h₃ _ hs₃=>hE h₃ e (fun c o hc x=>hs₃.extBut _ _ (ne3 hc (by simp)) (hs₂ _ _ (ne3 hc (by simp)) (hs₁.extBut _ _ (ne3 hc (by simp)) x))) ⟨oe,hs₃.extBut _ _ hez hoe,hce⟩
 |some x=>
  have hyu:ys[k]?=none∨us[k]?=none:=by rcases hend with h|h;rw [hx] at h;cases h;exact h
  refine wpAny_bind (bz hi1 hL1 hx fun h₂ h1₂ hs₂=>wpAny_pure ?_)
  have hTO₂:ak h₂ TO ts:=hs₂.extBut _ _ TOi1 (hs₁.extBut _ _ (Ne.symm zTO) hTO)
  refine wpAny_bind (wpAny_seqItems hTO₂ rfl ?_)
  refine wpAny_bind (aV hTO₂ (by omega) fun h₃ hTO₃ hs₃=>?_)
  refine wpAny_bind (wpAny_letGo (wpAny_pure ?_))
  refine wpAny_bind (wpAny_bind (wpAny_onRaise ?_))
  show wpAny _ _ (Builtin.SmallTypes.nextOf (.ref i2)>>=_) _ _ _
  have hi2:=h2.at (h':=h₃) fun o e=>hs₃.extBut _ _ (Ne.symm TOi2) (hs₂.extBut _ _ (Ne.symm i12) (hs₁.extBut _ _ (Ne.symm zi2) e))
  have hL2:=hl2.at (h':=h₃) fun o e=>hs₃.extBut _ _ a2T (hs₂.extBut _ _ a2i (hs₁.extBut _ _ a2z e))
  cases hy:ys[k]? with
  |none=>
   refine wpAny_bind (dE hh hi2 hL2 hy fun h₄ e hs₄ he=>?_)
   obtain ⟨oe,hoe,hce⟩:=he
   have hz₄:IsZip h₄ z TI TO .ellipsis:=hs₄ _ _ zi2 (hs₃.extBut _ _ zTO (hs₂.extBut _ _ zi1 hz₁))
   have hez:e≠z:=fun x=>by subst x;rw [hz₄] at hoe;cases hoe;simp at hce
   refine wpAny_setField_rec hz₄ (by simp) fun h₅ _ hs₅=>hE h₅ e (fun c o hc x=>hs₅.extBut _ _ (ne3 hc (by simp)) (hs₄ _ _ (ne3 hc (by simp)) (hs₃.extBut _ _ (ne3 hc (by simp)) (hs₂.extBut _ _ (ne3 hc (by simp)) (hs₁.extBut _ _ (ne3 hc (by simp)) x))))) ⟨oe,hs₅.extBut _ _ hez hoe,hce⟩
  |some y=>
   have hu:us[k]?=none:=by rcases hyu with h|h;rw [hy] at h;cases h;exact h
   refine wpAny_bind (bz hi2 hL2 hy fun h₄ h2₄ hs₄=>wpAny_pure ?_)
   have hTO₄:=hs₄.extBut _ _ TOi2 hTO₃
   refine wpAny_bind (wpAny_seqItems hTO₄ rfl ?_)
   refine wpAny_bind (aV hTO₄ (by simp;omega) fun h₅ hTO₅ hs₅=>?_)
   refine wpAny_bind (wpAny_letGo (wpAny_pure ?_))
   refine wpAny_bind (wpAny_bind (wpAny_onRaise ?_))
   show wpAny _ _ (Builtin.SmallTypes.nextOf (.ref i3)>>=_) _ _ _
   refine wpAny_bind (dE hh (h3.at fun o e=>hs₅.extBut _ _ (Ne.symm TOi3) (hs₄.extBut _ _ (Ne.symm i23) (hs₃.extBut _ _ (Ne.symm TOi3) (hs₂.extBut _ _ (Ne.symm i13) (hs₁.extBut _ _ (Ne.symm zi3) e)))))
    (hl3.at fun o e=>hs₅.extBut _ _ a3T (hs₄.extBut _ _ a3j (hs₃.extBut _ _ a3T (hs₂.extBut _ _ a3i (hs₁.extBut _ _ a3z e))))) hu fun h₆ e hs₆ he=>?_)
   obtain ⟨oe,hoe,hce⟩:=he
   have hz₆:IsZip h₆ z TI TO .ellipsis:=hs₆ _ _ zi3 (hs₅.extBut _ _ zTO (hs₄.extBut _ _ zi2 (hs₃.extBut _ _ zTO (hs₂.extBut _ _ zi1 hz₁))))
   have hez:e≠z:=fun x=>by subst x;rw [hz₆] at hoe;cases hoe;simp at hce
   refine wpAny_setField_rec hz₆ (by simp) fun h₇ _ hs₇=>hE h₇ e (fun c o hc x=>hs₇.extBut _ _ (ne3 hc (by simp)) (hs₆ _ _ (ne3 hc (by simp)) (hs₅.extBut _ _ (ne3 hc (by simp)) (hs₄.extBut _ _ (ne3 hc (by simp)) (hs₃.extBut _ _ (ne3 hc (by simp)) (hs₂.extBut _ _ (ne3 hc (by simp)) (hs₁.extBut _ _ (ne3 hc (by simp)) x))))))) ⟨oe,hs₇.extBut _ _ hez hoe,hce⟩
theorem d5 {z TI TO:Addr} {f0:Value} {Q:Option Value->Shared->Prop} (hz:IsZip s.heap z TI TO f0)
  (h:wpAny (model prog w) A.in1 (Builtin.«zip.__next__» ⟨[.ref z],[]⟩) (fun fin s'=>∃v,fin=.done (.ret v)∧Q (some v) s') (fun e s'=>∃a o,e=.ref a∧s'.heap.get? a=some o∧o.cls=.type "StopIteration"∧Q none s') s):
  wpAny (model prog w) A (pyNext (.ref z)) Q E s:=by
 have hT:s.TypeIs (.ref z) "zip":=⟨_,hz,rfl⟩
 unfold pyNext
 refine wpAny_bind (wpAny_attempt (wpAny_callSpecial?_slot (name:=Str.ofString "__next__") hT F.slot_zip_next
  (wpAny_call_entry F.slot_zip_next hT F.entry_zip_next (wpAny_mono h (fun fin s' hv=>?_) fun e s' he=>?_) (F.args_zip_next_1 _))))
 ·obtain ⟨v,rfl,q⟩:=hv
  exact ⟨v,rfl,wpAny_pure q⟩
 ·obtain ⟨a,o,rfl,ho,hc,q⟩:=he
  refine wpAny_bind (wpAny_isInstance (T:="StopIteration") (b:=true) ⟨o,ho,hc⟩ isSubtype_stop ?_)
  exact wpAny_pure q
noncomputable def bO (b:Bool) (a:Addr):Obj:={cls:=.type (match b with|true=>"tuple_iterator"|false=>"list_iterator"),data:=.fields #[.ref a,.int 0 0]}
theorem d8 {b:Bool} {a:Addr} {xs:Array Value} {Q:Value->Shared->Prop} (h:Ssq s.heap b a xs) (hQ:Q (.ref s.heap.objs.size) {s with heap:=s.heap.push (bO b a)}):wpAny (model prog w) A (pyIter (.ref a)) Q E s:=by
 cases b with
 |true=>exact wpAny_pyIter_tuple h hQ
 |false=>exact wpAny_pyIter_list h hQ
theorem Sit.new {h:Heap} (b:Bool) (a:Addr):Sit (h.push (bO b a)) b h.objs.size a 0:=by
 cases b with
 |true=>exact ⟨_,Heap.get?_push_size _ rfl,rfl,rfl⟩
 |false=>exact ⟨_,Heap.get?_push_size _ rfl,rfl,rfl⟩
end
theorem mP (b1 b2:Bool) (a1 a2:Addr) (xs ys:Array Value):
  Meets (Builtin.«zip.__new__» ⟨[.type "zip",.ref a1,.ref a2],[]⟩) (fun _ R s=>Ssq s.heap b1 a1 xs∧Ssq s.heap b2 a2 ys∧
   ∀h',ak h' (s.heap.objs.size+2) #[.ref s.heap.objs.size,.ref (s.heap.objs.size+1)]->ak h' (s.heap.objs.size+3) #[.none,.none]->IsZip h' (s.heap.objs.size+4) (s.heap.objs.size+2) (s.heap.objs.size+3) .none->
    Sit h' b1 s.heap.objs.size a1 0->Sit h' b2 (s.heap.objs.size+1) a2 0->
    (∀c o,s.heap.get? c=some o->h'.get? c=some o)->h'.objs.size=s.heap.objs.size+5->R (.ok (.ret (.ref (s.heap.objs.size+4)))) {s with heap:=h'}):=
 .of_wp fun prog w A R s h=>by
  obtain ⟨hp,g,d,tk,os⟩:=s;obtain ⟨hl1,hl2,h⟩:=h
  have hsub:=sub_zip
  have hL1:Ssq (Shared.heap ⟨hp,g,d,tk,os⟩) b1 a1 xs:=hl1
  have hL2:Ssq (Shared.heap ⟨hp.push (bO b1 a1),g,d,tk,os⟩) b2 a2 ys:=Ssq.at (h':=hp.push (bO b1 a1)) hl2 fun o e=>Heap.get?_push_of_some _ e
  wp_walk using d8 hL1,d8 hL2
  refine ⟨_,rfl,?_⟩
  dsimp only at h ⊢
  generalize e1:hp.push (bO b1 a1)=h1
  generalize e2:h1.push (bO b2 a2)=h2
  generalize e3:h2.push _=h3
  generalize e4:h3.push _=h4
  generalize e5:h4.push _=h5
  have z1:h1.objs.size=hp.objs.size+1:=e1▸Heap.size_push ..
  have z2:h2.objs.size=hp.objs.size+2:=by rw [←e2,Heap.size_push,z1]
  have z3:h3.objs.size=hp.objs.size+3:=by rw [←e3,Heap.size_push,z2]
  have z4:h4.objs.size=hp.objs.size+4:=by rw [←e4,Heap.size_push,z3]
  have z5:h5.objs.size=hp.objs.size+5:=by rw [←e5,Heap.size_push,z4]
  have k5:∀c o,h4.get? c=some o->h5.get? c=some o:=fun c o e=>e5▸Heap.get?_push_of_some _ e
  have k4:∀c o,h3.get? c=some o->h5.get? c=some o:=fun c o e=>k5 c o (e4▸Heap.get?_push_of_some _ e)
  have k3:∀c o,h2.get? c=some o->h5.get? c=some o:=fun c o e=>k4 c o (e3▸Heap.get?_push_of_some _ e)
  have k2:∀c o,h1.get? c=some o->h5.get? c=some o:=fun c o e=>k3 c o (e2▸Heap.get?_push_of_some _ e)
  have g3:=Heap.get?_push_size h2 (o:={cls:=.type "tuple",data:=.seq #[.ref hp.objs.size,.ref h1.objs.size]}) rfl
  have g4:=Heap.get?_push_size h3 (o:={cls:=.type "tuple",data:=.seq #[.none,.none]}) rfl
  have g5:=Heap.get?_push_size h4 (o:={cls:=.type "zip",data:=.fields #[.none,.bool false,.bool false,.ref h2.objs.size,.ref h3.objs.size]}) rfl
  have q3:h3.get? h2.objs.size=_:=(congrArg (fun h=>h.get? h2.objs.size) e3).symm.trans g3
  have q4:h4.get? h3.objs.size=_:=(congrArg (fun h=>h.get? h3.objs.size) e4).symm.trans g4
  have q5:h5.get? h4.objs.size=_:=(congrArg (fun h=>h.get? h4.objs.size) e5).symm.trans g5
  rw [z1,z2] at q3
  rw [z3] at q4
  rw [z2,z3,z4] at q5
  rw [z4]
  refine h h5 (k4 _ _ q3) (k5 _ _ q4) q5 (Sit.at (Sit.new (h:=hp) b1 a1) fun o e=>k2 _ _ (e1▸e)) ?_ (fun c o e=>k2 _ _ (e1▸Heap.get?_push_of_some _ e)) z5
  rw [←z1]
  exact Sit.at (Sit.new (h:=h1) b2 a2) fun o e=>k3 _ _ (e2▸e)
theorem ni (b1 b2 b3:Bool) (a1 a2 a3:Addr) (xs ys us:Array Value):
  Meets (Builtin.«zip.__new__» ⟨[.type "zip",.ref a1,.ref a2,.ref a3],[]⟩) (fun _ R s=>Ssq s.heap b1 a1 xs∧Ssq s.heap b2 a2 ys∧Ssq s.heap b3 a3 us∧
   ∀h',ak h' (s.heap.objs.size+3) #[.ref s.heap.objs.size,.ref (s.heap.objs.size+1),.ref (s.heap.objs.size+2)]->ak h' (s.heap.objs.size+4) #[.none,.none,.none]->
    IsZip h' (s.heap.objs.size+5) (s.heap.objs.size+3) (s.heap.objs.size+4) .none->
    Sit h' b1 s.heap.objs.size a1 0->Sit h' b2 (s.heap.objs.size+1) a2 0->Sit h' b3 (s.heap.objs.size+2) a3 0->
    (∀c o,s.heap.get? c=some o->h'.get? c=some o)->h'.objs.size=s.heap.objs.size+6->R (.ok (.ret (.ref (s.heap.objs.size+5)))) {s with heap:=h'}):=
 .of_wp fun prog w A R s h=>by
  obtain ⟨hp,g,d,tk,os⟩:=s;obtain ⟨hl1,hl2,hl3,h⟩:=h
  have hsub:=sub_zip
  have hL1:Ssq (Shared.heap ⟨hp,g,d,tk,os⟩) b1 a1 xs:=hl1
  have hL2:Ssq (Shared.heap ⟨hp.push (bO b1 a1),g,d,tk,os⟩) b2 a2 ys:=Ssq.at (h':=hp.push (bO b1 a1)) hl2 fun o e=>Heap.get?_push_of_some _ e
  have hL3:Ssq (Shared.heap ⟨(hp.push (bO b1 a1)).push (bO b2 a2),g,d,tk,os⟩) b3 a3 us:=Ssq.at (h':=(hp.push (bO b1 a1)).push (bO b2 a2)) hl3 fun o e=>Heap.get?_push_of_some _ (Heap.get?_push_of_some _ e)
  wp_walk using d8 hL1,d8 hL2,d8 hL3
  refine ⟨_,rfl,?_⟩
  dsimp only at h ⊢
  generalize e1:hp.push (bO b1 a1)=h1
  generalize e2:h1.push (bO b2 a2)=h2
  generalize e2b:h2.push (bO b3 a3)=h2b
  generalize e3:h2b.push _=h3
  generalize e4:h3.push _=h4
  generalize e5:h4.push _=h5
  have z1:h1.objs.size=hp.objs.size+1:=e1▸Heap.size_push ..
  have z2:h2.objs.size=hp.objs.size+2:=by rw [←e2,Heap.size_push,z1]
  have z2b:h2b.objs.size=hp.objs.size+3:=by rw [←e2b,Heap.size_push,z2]
  have z3:h3.objs.size=hp.objs.size+4:=by rw [←e3,Heap.size_push,z2b]
  have z4:h4.objs.size=hp.objs.size+5:=by rw [←e4,Heap.size_push,z3]
  have z5:h5.objs.size=hp.objs.size+6:=by rw [←e5,Heap.size_push,z4]
  have k5:∀c o,h4.get? c=some o->h5.get? c=some o:=fun c o e=>e5▸Heap.get?_push_of_some _ e
  have k4:∀c o,h3.get? c=some o->h5.get? c=some o:=fun c o e=>k5 c o (e4▸Heap.get?_push_of_some _ e)
  have k3:∀c o,h2b.get? c=some o->h5.get? c=some o:=fun c o e=>k4 c o (e3▸Heap.get?_push_of_some _ e)
  have k2b:∀c o,h2.get? c=some o->h5.get? c=some o:=fun c o e=>k3 c o (e2b▸Heap.get?_push_of_some _ e)
  have k2:∀c o,h1.get? c=some o->h5.get? c=some o:=fun c o e=>k2b c o (e2▸Heap.get?_push_of_some _ e)
  have g3:=Heap.get?_push_size h2b (o:={cls:=.type "tuple",data:=.seq #[.ref hp.objs.size,.ref h1.objs.size,.ref h2.objs.size]}) rfl
  have g4:=Heap.get?_push_size h3 (o:={cls:=.type "tuple",data:=.seq #[.none,.none,.none]}) rfl
  have g5:=Heap.get?_push_size h4 (o:={cls:=.type "zip",data:=.fields #[.none,.bool false,.bool false,.ref h2b.objs.size,.ref h3.objs.size]}) rfl
  have q3:h3.get? h2b.objs.size=_:=(congrArg (fun h=>h.get? h2b.objs.size) e3).symm.trans g3
  have q4:h4.get? h3.objs.size=_:=(congrArg (fun h=>h.get? h3.objs.size) e4).symm.trans g4
  have q5:h5.get? h4.objs.size=_:=(congrArg (fun h=>h.get? h4.objs.size) e5).symm.trans g5
  rw [z1,z2,z2b] at q3
  rw [z3] at q4
  rw [z2b,z3,z4] at q5
  rw [z4]
  refine h h5 (k4 _ _ q3) (k5 _ _ q4) q5 (Sit.at (Sit.new (h:=hp) b1 a1) fun o e=>k2 _ _ (e1▸e)) ?_ ?_ (fun c o e=>k2 _ _ (e1▸Heap.get?_push_of_some _ e)) z5
  ·rw [←z1]
   exact Sit.at (Sit.new (h:=h1) b2 a2) fun o e=>k2b _ _ (e2▸e)
  ·rw [←z2]
   exact Sit.at (Sit.new (h:=h2) b3 a3) fun o e=>k3 _ _ (e2b▸e)
theorem jG (a b c:Value):checkTypeCall "zip" ⟨[a,b,c],[]⟩=pure ():=by kernel_rfl
theorem ko (a b c:Value):checkBuiltinCall "zip.__new__" ⟨[.type "zip",a,b,c],[]⟩=pure ():=by kernel_rfl
theorem gx (a b c d:Value):argsOk "object.__init__" ⟨[a,b,c,d],[]⟩:=by
 unfold argsOk;rw [signature?_of (id:="object.__init__") (n:=['_','_','t','i','n','i','_','_']) (o:=['t','c','e','j','b','o']) (by kernel_rfl) F.owner_object];kernel_rfl
section
variable {prog:Program} {w:World} {A:Around} {E:Value->Shared->Prop} {s:Shared}
theorem nP {b1 b2:Bool} {a1 a2:Addr} {xs ys:Array Value} {Q:Value->Shared->Prop} (hl1:Ssq s.heap b1 a1 xs) (hl2:Ssq s.heap b2 a2 ys)
  (h:∀h',ak h' (s.heap.objs.size+2) #[.ref s.heap.objs.size,.ref (s.heap.objs.size+1)]->ak h' (s.heap.objs.size+3) #[.none,.none]->IsZip h' (s.heap.objs.size+4) (s.heap.objs.size+2) (s.heap.objs.size+3) .none->
    Sit h' b1 s.heap.objs.size a1 0->Sit h' b2 (s.heap.objs.size+1) a2 0->
    (∀c o,s.heap.get? c=some o->h'.get? c=some o)->h'.objs.size=s.heap.objs.size+5->Q (.ref (s.heap.objs.size+4)) {s with heap:=h'}):
  wpAny (model prog w) A (call (.type "zip") [.ref a1,.ref a2]) Q E s:=by
 refine callType_new F.called_zip (by decide) (F.typeCall_zip_2 _ _) (F.newCall_zip_2 _ _) (fun obj=>F.args_object_init_3 obj _ _) F.entry_zip_new
  (mP b1 b2 a1 a2 xs ys) ⟨hl1,hl2,fun h' x1 x2 x3 x4 x5 x6 x7=>?_⟩
 exact ⟨⟨_,x3,rfl⟩,h h' x1 x2 x3 x4 x5 x6 x7⟩
theorem nW {b1 b2 b3:Bool} {a1 a2 a3:Addr} {xs ys us:Array Value} {Q:Value->Shared->Prop} (hl1:Ssq s.heap b1 a1 xs) (hl2:Ssq s.heap b2 a2 ys) (hl3:Ssq s.heap b3 a3 us)
  (h:∀h',ak h' (s.heap.objs.size+3) #[.ref s.heap.objs.size,.ref (s.heap.objs.size+1),.ref (s.heap.objs.size+2)]->ak h' (s.heap.objs.size+4) #[.none,.none,.none]->
    IsZip h' (s.heap.objs.size+5) (s.heap.objs.size+3) (s.heap.objs.size+4) .none->
    Sit h' b1 s.heap.objs.size a1 0->Sit h' b2 (s.heap.objs.size+1) a2 0->Sit h' b3 (s.heap.objs.size+2) a3 0->
    (∀c o,s.heap.get? c=some o->h'.get? c=some o)->h'.objs.size=s.heap.objs.size+6->Q (.ref (s.heap.objs.size+5)) {s with heap:=h'}):
  wpAny (model prog w) A (call (.type "zip") [.ref a1,.ref a2,.ref a3]) Q E s:=by
 refine callType_new F.called_zip (by decide) (jG _ _ _) (ko _ _ _) (fun obj=>gx obj _ _ _) F.entry_zip_new
  (ni b1 b2 b3 a1 a2 a3 xs ys us) ⟨hl1,hl2,hl3,fun h' x1 x2 x3 x4 x5 x6 x7 x8=>?_⟩
 exact ⟨⟨_,x3,rfl⟩,h h' x1 x2 x3 x4 x5 x6 x7 x8⟩
end
end CT
namespace CT
open PySem PySem.Spec L2
open PyProof.Rows hiding St
noncomputable def SqB (K:PySem.W.Frag) (H:Hp) (b:Bool) (a:Addr) (xs:List V):Prop:=match b with|true=>SqT K H a xs|false=>SqL K H a xs
section
variable {X:Cx} {pins:List (Addr×Obj)} {σ:St} {H:Hp} {s:Shared} {a:Addr} {xs ys:List V} {b:Bool}
theorem Inv.sqb (I:Inv X pins σ H s) (h:SqB X.K H b a xs):∃its:List Value,Vals xs its∧Ssq s.heap b a its.toArray∧xs.length<=sizeLine:=by
 cases b with
 |true=>obtain ⟨its,r,p,z⟩:=I.tuple h;exact ⟨its,r,p,z⟩
 |false=>obtain ⟨its,r,p,z⟩:=I.list h;exact ⟨its,r,p.isList,z⟩
theorem Inv.d9 (I:Inv X pins σ H s) (h:SqB X.K H b a xs) (h':SqB X.K H b a ys):xs=ys:=by
 cases b with
 |true=>exact I.jX h h'
 |false=>exact I.lI h h'
theorem Inv.dv {c:Addr} (I:Inv X pins σ H s) (h:SqB X.K H b a xs) (f:a_ X pins H c):a≠c:=by
 have fromK:∀o,X.K.lookup a=some o->a≠c:=fun o hk z=>by
  have e:=I.ok.mod.kin a o hk
  rcases f.2.2.2.1 with q|q
  ·exact I.ok.iu a o e (z▸q)
  ·exact absurd (Nat.lt_of_lt_of_le (Heap.lt_size e) (Nat.le_trans I.ok.bsz (z▸q))) (Nat.lt_irrefl _)
 have fromR:∀u,Rd H a u->a≠c:=fun u h=>by
  rcases h with h|⟨_,h⟩<;>exact aJ h f.1
 cases b with
 |true=>
  rcases h with h|⟨o,_,_,hk,_⟩
  ·exact fromR _ h
  ·exact fromK o hk
 |false=>
  rcases h with h|⟨o,_,_,hk,_⟩
  ·exact fromR _ h
  ·exact fromK o hk
theorem Inv.d_ {h':Heap} {t':Nat} {ch:List Addr} (I:Inv X pins σ H s) (hf:∀b∈ch,a_ X pins H b) (k:∀b o,b∉ch->s.heap.get? b=some o->h'.get? b=some o):Inv X pins σ H {s with heap:=h',toks:=t'}:=by
 have nit:∀b u,H b=some u->b∉ch:=fun b u e z=>by have:=(hf b z).1;rw [e] at this;cases this
 refine I.step (g':=s.gens) (d':=s.drawn) (ch:=ch) (fun b hb=>?_) (fun b o _ _ hc e _=>k b o hc e) (fun b o _ _ hc e _=>⟨o.slots,k b o hc e⟩) (fun _ _ _ _ n=>n)
  (fun b o hc e=>⟨o,k b o hc e⟩) (fun _ _ e=>e) (fun _ _ _ e=>e) (fun b ps e=>⟨#[],by rw [e];simp⟩) (fun m hm=>?_) (fun b u e=>?_) I.bare
 ·obtain ⟨f0,f1,f2,f3,f4,f5⟩:=hf b hb
  exact ⟨f3,f1,f4,f5⟩
 ·obtain ⟨o,es,ep,ho,r⟩:=hm
  exact ⟨o,es,ep,k _ o (fun z=>(hf _ z).2.1 rfl) ho,r⟩
 ·refine (I.hok b u e).gg (fun c v hc q=>k c v ?_ q) (fun _ q=>q) fun _ _ q=>q
  rcases hc with z|z
  ·rw [z];exact nit b u e
  ·exact nit c _ z
theorem Inv.adopt {T:Addr} {o:HO} (I:Inv X pins σ H s) (f:a_ X pins H T) (new:aP X.prog X.w (upd H T o) s.heap T o):Inv X pins σ (upd H T o) s:=by
 have neT:∀{b:Addr} {u:HO},H b=some u->b≠T:=fun e=>aJ e f.1
 have r:Inv X pins σ (upd H T o) {s with heap:=s.heap,gens:=s.gens,drawn:=s.drawn,toks:=s.toks}:=
  I.step (ch:=[T]) (fun b hb=>by
   have e:b=T:=by simpa using hb
   subst e
   obtain ⟨f0,f1,f2,f3,f4,f5⟩:=f
   exact ⟨f3,f1,f4,f5⟩) (fun b o _ _ _ e _=>e) (fun b o _ _ _ e _=>⟨o.slots,e⟩) (fun b o hc e n=>by rw [aj (fun z=>hc (by simp [z]))];exact n)
   (fun b o _ e=>⟨o,e⟩) (fun b xs e=>by rw [aj (neT e)];exact e) (fun b o u e=>by rw [aj (neT e)];exact e) (fun b ps e=>⟨#[],by rw [aj (neT e),e];simp⟩) (fun m hm=>hm) (fun b u e=>by
    by_cases hb:b=T
    ·subst hb;rw [aH] at e;cases e;exact new
    ·rw [aj hb] at e
     exact (I.hok b u e).gg (fun _ _ _ q=>q) (fun c q=>by rw [aj (neT q)];exact q) fun c xs q=>by rw [aj (neT q)];exact q) I.bare
 exact r
end
noncomputable def xw (K:PySem.W.Frag) (b1 b2:Bool) (a1 a2:Addr):It:=
 ⟨fun i H=>∃xs ys x y,SqB K H b1 a1 xs∧SqB K H b2 a2 ys∧xs[i]?=some x∧ys[i]?=some y,
  fun i H v H'=>∃T x y,H T=none∧v=.ref T∧H'=upd H T (.tup [x,y])∧(∀xs,SqB K H b1 a1 xs->xs[i]?=some x)∧(∀ys,SqB K H b2 a2 ys->ys[i]?=some y),
  fun i H=>∃xs ys,SqB K H b1 a1 xs∧SqB K H b2 a2 ys∧(xs.length<=i∨ys.length<=i)⟩
noncomputable def vS (K:PySem.W.Frag) (b1 b2 b3:Bool) (a1 a2 a3:Addr):It:=
 ⟨fun i H=>∃xs ys us x y u,SqB K H b1 a1 xs∧SqB K H b2 a2 ys∧SqB K H b3 a3 us∧xs[i]?=some x∧ys[i]?=some y∧us[i]?=some u,
  fun i H v H'=>∃T x y u,H T=none∧v=.ref T∧H'=upd H T (.tup [x,y,u])∧(∀xs,SqB K H b1 a1 xs->xs[i]?=some x)∧(∀ys,SqB K H b2 a2 ys->ys[i]?=some y)∧(∀us,SqB K H b3 a3 us->us[i]?=some u),
  fun i H=>∃xs ys us,SqB K H b1 a1 xs∧SqB K H b2 a2 ys∧SqB K H b3 a3 us∧(xs.length<=i∨ys.length<=i∨us.length<=i)⟩
theorem jB {xs:List V} {its:List Value} {i:Nat} {x:V} (r:Vals xs its) (h:xs[i]?=some x):∃u,its.toArray[i]?=some u∧RelV x u:=by
 obtain ⟨u,h1,h2⟩:=r.get h
 exact ⟨u,by simpa using h1,h2⟩
theorem jk {xs:List V} {its:List Value} {i:Nat} (r:Vals xs its) (h:xs.length<=i):its.toArray[i]?=none:=by
 have:=r.length
 simp
 omega
theorem ju {α:Type} {a b c d e x:α} (h:x∈[a,c,d,e]):x∈[a,b,c,d,e]:=by
 simp only [List.mem_cons,List.not_mem_nil,or_false] at h ⊢
 rcases h with h|h|h|h<;>simp [h]
theorem pJ {P:Program} {w:World} {K:PySem.W.Frag} {elts:List Expr} {x1} {pos:Pos} {z TI TO i1 i2 a1 a2:Addr} {b1 b2:Bool} (nd:[z,TI,TO,i1,i2].Nodup):
  Turn P w K (.Tuple elts x1 pos) (xw K b1 b2 a1 a2) [z,TI,TO,i1,i2] z
   (fun i h=>IsZip h z TI TO .none∧ak h TI #[.ref i1,.ref i2]∧(∃ts,ak h TO ts∧ts.size=2)∧Sit h b1 i1 a1 i∧Sit h b2 i2 a2 i) where
 mem:=by simp
 obj:=fun i h ⟨q1,q2,⟨ts,q3,_⟩,q4,q5⟩ b hb=>by
  simp only [List.mem_cons,List.not_mem_nil,or_false] at hb
  rcases hb with rfl|rfl|rfl|rfl|rfl
  ·exact ⟨_,q1,fun v e=>by have e':Data.fields _=Data.cell v:=e;cases e'⟩
  ·exact ⟨_,q2,fun v e=>by have e':Data.seq _ _=Data.cell v:=e;cases e'⟩
  ·exact ⟨_,q3,fun v e=>by have e':Data.seq _ _=Data.cell v:=e;cases e'⟩
  ·obtain ⟨o,n,vs,e,_,d⟩:=q4.rec
   exact ⟨o,e,fun v e=>by rw [d] at e;cases e⟩
  ·obtain ⟨o,n,vs,e,_,d⟩:=q5.rec
   exact ⟨o,e,fun v e=>by rw [d] at e;cases e⟩
 keep:=fun i h h' ⟨q1,q2,⟨ts,q3,q3'⟩,q4,q5⟩ k=>⟨k z (by simp) _ q1,k TI (by simp) _ q2,⟨ts,k TO (by simp) _ q3,q3'⟩,q4.at fun o e=>k i1 (by simp) o e,q5.at fun o e=>k i2 (by simp) o e⟩
 item:=by
  intro X hP hw hK hc i pins s σ H E I hf ⟨q1,q2,⟨ts,q3,q3'⟩,q4,q5⟩ hg
  subst hP hw hK
  obtain ⟨xs,ys,x,y,hx,hy,ex,ey⟩:=hg
  obtain ⟨its,r1,p1,_⟩:=CT.Inv.sqb I hx
  obtain ⟨its2,r2,p2,_⟩:=CT.Inv.sqb I hy
  obtain ⟨u,eu,ru⟩:=jB r1 ex
  obtain ⟨v,ev,rv⟩:=jB r2 ey
  have n1:a1∉[z,TO,i1,i2]:=fun m=>CT.Inv.dv I hx (hf a1 (ju m)) rfl
  have n2:a2∉[z,TO,i1,i2]:=fun m=>CT.Inv.dv I hy (hf a2 (ju m)) rfl
  refine d5 q1 (pj nd n1 n2 q1 q2 q3 q3' q4 q5 p1 p2 eu ev fun h' z1 z2 z3 z4 z5 z6 kk=>?_)
  refine ⟨_,rfl,wpAny_letOwnedTupleGo_zip z1 fun h2 z1' sb=>?_⟩
  have nT:∀b∈[z,TI,TO,i1,i2],b≠s.heap.objs.size:=fun b hb=>by
   simp only [List.mem_cons,List.not_mem_nil,or_false] at hb
   rcases hb with rfl|rfl|rfl|rfl|rfl
   ·exact Nat.ne_of_lt (Heap.lt_size q1)
   ·exact Nat.ne_of_lt (Heap.lt_size q2)
   ·exact Nat.ne_of_lt (Heap.lt_size q3)
   ·obtain ⟨o,n,vs,e,_,d⟩:=q4.rec;exact Nat.ne_of_lt (Heap.lt_size e)
   ·obtain ⟨o,n,vs,e,_,d⟩:=q5.rec;exact Nat.ne_of_lt (Heap.lt_size e)
  have nd':=nd
  simp only [List.nodup_cons,List.mem_cons,List.not_mem_nil,or_false,not_or,List.nodup_nil,and_true,not_false_eq_true] at nd'
  obtain ⟨⟨zTI,zTO,zi1,zi2⟩,⟨TITO,TIi1,TIi2⟩,⟨TOi1,TOi2⟩,i12⟩:=nd'
  have k2:∀c o,c∉[z,TO,i1,i2]->s.heap.get? c=some o->h2.get? c=some o:=fun c o hc e=>sb.extBut c o (fun q=>hc (by simp [q])) (kk c o hc e)
  have I1:Inv X pins σ H {s with heap:=h2}:=CT.Inv.d_ (t':=s.toks) (ch:=[z,TO,i1,i2]) I (fun b hb=>hf b (ju hb)) k2
  have hT:h2.get? s.heap.objs.size=some {cls:=.type "tuple",data:=.seq #[u,v]}:=sb.extBut _ _ (Ne.symm (nT z (by simp))) z5
  have I2:Inv X pins σ (upd H s.heap.objs.size (.tup [x,y])) {s with heap:=h2}:=CT.Inv.adopt I1 (I.eg (Nat.le_refl _) (I.hok.fresh (Nat.le_refl _)))
   ⟨by show 2<=sizeLine;decide,[u,v],.cons ru (.cons rv .nil),_,hT,rfl,_,rfl⟩
  refine ⟨.ref s.heap.objs.size,_,I2,rfl,⟨_,x,y,I.hok.fresh (Nat.le_refl _),rfl,rfl,fun xs' h'=>by rw [CT.Inv.d9 I h' hx];exact ex,fun ys' h'=>by rw [CT.Inv.d9 I h' hy];exact ey⟩,?_,fun b hb=>?_⟩
  ·refine ⟨z1',k2 _ _ (by simp [Ne.symm zTI,TITO,TIi1,TIi2]) q2,⟨#[u,v],sb.extBut _ _ (Ne.symm zTO) z2,rfl⟩,z3.at fun o e=>sb.extBut _ _ (Ne.symm zi1) e,z4.at fun o e=>sb.extBut _ _ (Ne.symm zi2) e⟩
  ·rw [aj (nT b hb)];exact (hf b hb).1
 done:=by
  intro X hP hw hK hc i pins s σ H E I hf ⟨q1,q2,⟨ts,q3,q3'⟩,q4,q5⟩ hg
  subst hP hw hK
  obtain ⟨xs,ys,hx,hy,he⟩:=hg
  obtain ⟨its,r1,p1,_⟩:=CT.Inv.sqb I hx
  obtain ⟨its2,r2,p2,_⟩:=CT.Inv.sqb I hy
  have n1:a1∉[z,TO,i1,i2]:=fun m=>CT.Inv.dv I hx (hf a1 (ju m)) rfl
  have n2:a2∉[z,TO,i1,i2]:=fun m=>CT.Inv.dv I hy (hf a2 (ju m)) rfl
  refine d5 q1 (rk (I.ok.hd hc) nd n1 n2 q1 q2 q3 q3' q4 q5 p1 p2 (he.imp (jk r1) (jk r2)) fun h' e kk ⟨o,ho,hcls⟩=>⟨e,o,rfl,ho,hcls,rfl,?_⟩)
  exact CT.Inv.d_ (t':=s.toks) (ch:=[z,TO,i1,i2]) I (fun b hb=>hf b (ju hb)) kk
 self:=fun _ _ _ _ _ ⟨q1,_⟩ h=>wpAny_pyIter_zip q1 h
noncomputable def zt (K:PySem.W.Frag) (t:TA):TI:=fun σ H R=>t σ H fun vs H1=>∃b1 b2 a1 a2 xs ys,vs=[.ref a1,.ref a2]∧SqB K H1 b1 a1 xs∧SqB K H1 b2 a2 ys∧R (xw K b1 b2 a1 a2) H1
noncomputable def zm (K:PySem.W.Frag) (t:TA):TI:=fun σ H R=>t σ H fun vs H1=>∃b1 b2 b3 a1 a2 a3 xs ys us,vs=[.ref a1,.ref a2,.ref a3]∧SqB K H1 b1 a1 xs∧SqB K H1 b2 a2 ys∧SqB K H1 b3 a3 us∧R (vS K b1 b2 b3 a1 a2 a3) H1
section
variable {X:Cx} {elts:List Expr} {x1:Nat} {tpos:Pos}
theorem uK {a b:Expr} {ta:TA} {k} {p pos:Pos} (hg:Gl X "zip") (hm:X.mg "zip"=none) (ha:PA X [a,b] ta) (hs:starEach [a,b] X.env=[(false,eval a X.env),(false,eval b X.env)]:=by rfl) (hs2:starEach [b] X.env=[(false,eval b X.env)]:=by rfl):
  PI X (.Tuple elts k tpos) (.Call (.Name "zip" p) [a,b] [] pos) (zt X.K ta):=by
 intro pins s σ H R I h
 refine Call_ (dM I hg hm boot_zip (PyProof.Rows.callWith_type1 (thn (ha pos pins s σ H _ I h) fun us s1 ⟨vs,H1,I1,r1,q1⟩=>?_) (by rw [hs,hs2]) (by rw [hs2];rfl)))
 obtain ⟨b1,b2,a1,a2,xs,ys,e,hx,hy,q⟩:=q1
 subst e
 cases r1 with
 |cons r rr=>
  cases rr with
  |cons r' rr=>
   cases rr
   cases r
   cases r'
   obtain ⟨its,rv1,p1,_⟩:=CT.Inv.sqb I1 hx
   obtain ⟨its2,rv2,p2,_⟩:=CT.Inv.sqb I1 hy
   refine nP p1 p2 fun h' x1 x2 x3 x4 x5 x6 x7=>?_
   refine wpAny_pyIter_zip x3 ?_
   refine ⟨_,_,_,_,H1,rfl,I1.kept (t':=s1.toks) x6,pJ (TI:=s1.heap.objs.size+2) (TO:=s1.heap.objs.size+3) (i1:=s1.heap.objs.size) (i2:=s1.heap.objs.size+1) (by simp),⟨x3,x1,⟨_,x2,rfl⟩,x4,x5⟩,fun b hb=>?_,q⟩
   have hle:s1.heap.objs.size<=b:=by
    simp only [List.mem_cons,List.not_mem_nil,or_false] at hb
    rcases hb with rfl|rfl|rfl|rfl|rfl<;>omega
   exact I1.eg hle (I1.hok.fresh hle)
end
end CT
namespace CT
open PySem PySem.Spec L2
open PyProof.Rows hiding St
noncomputable def KP:List (PK×Addr×V)->List (PK×Addr×Value)->Prop:=Paired fun p q=>p.1=q.1∧p.2.1=q.2.1∧RelV p.2.2 q.2.2
noncomputable def xa (h:Heap) (d:Addr) (xs:List (PK×Addr×Value)) (ep:Nat):Prop:=
 ∃o es,h.get? d=some o∧o.ExactDict∧o.data=.dict es ep∧es.toList=xs.map (fun x=>⟨x.1.hs,.ref x.2.1,x.2.2⟩)∧(xs.map (·.1)).Nodup
noncomputable def PD (a:Addr) (ep:Nat) (kvs:List (PK×Addr×V)):HO:=.ext fun h=>kvs.length<=sizeLine∧(a==sysModules)=false∧∃xs,KP kvs xs∧xa h a xs ep
section
variable {P:Program} {w:World} {H:Hp} {h:Heap} {a:Addr} {ep:Nat} {kvs:List (PK×Addr×V)}
theorem dy (ok:HOk P w H h) (e:H a=some (PD a ep kvs)):kvs.length<=sizeLine∧(a==sysModules)=false∧∃xs,KP kvs xs∧ay (bH P w) h a xs ep:=(show aP P w H h a (PD a ep kvs) from ok a _ e).1
theorem iM {xs:List (PK×Addr×Value)} (z:kvs.length<=sizeLine) (hd:(a==sysModules)=false) (k:KP kvs xs) (r:ay (bH P w) h a xs ep):aP P w H h a (PD a ep kvs):=
 ⟨⟨z,hd,xs,k,r⟩,let ⟨o,_,e,_⟩:=r;⟨o,e⟩,fun h1 h2 ⟨z,hd,xs,k,r⟩ kk=>⟨z,hd,xs,k,ay.keep (knd:=bH P w) r kk⟩⟩
noncomputable def eA (H:Hp) (k:PK) (b:Addr):Prop:=k.dp<=8∧∀P w h,HOk P w H h->bD h k (.ref b)
theorem eA.is {k:PK} {b:Addr} (q:eA H k b) (ok:HOk P w H h):(bH P w).is h k b:=⟨q.2 P w h ok,q.1⟩
theorem bD.wQ {s:Shared} {k:PK} {b:Addr} (x:bD s.heap k (.ref b)):s.TypeIs (.ref b) "tuple":=by
 cases k with
 |i n=>obtain ⟨_,e⟩:=x;cases e
 |t l=>obtain ⟨a,o,its,n,e,g,c,_⟩:=x;cases e;exact ⟨o,g,c⟩
noncomputable def ek (H:Hp) (kvs:List (PK×Addr×V)):Prop:=∀p∈kvs,eA H p.1 p.2.1
theorem KP.mem {xs:List (PK×Addr×Value)} (r:KP kvs xs):∀x∈xs,∃p∈kvs,p.1=x.1∧p.2.1=x.2.1:=by
 unfold KP at r
 induction r with
 |nil=>intro x hx;cases hx
 |@cons p q ps qs h t ih=>
  intro x hx
  rcases List.mem_cons.mp hx with e|hx
  ·subst e;exact ⟨p,List.mem_cons_self,h.1,h.2.1⟩
  ·obtain ⟨y,hy,e⟩:=ih x hx
   exact ⟨y,List.mem_cons_of_mem _ hy,e⟩
theorem KP.is {xs:List (PK×Addr×Value)} (r:KP kvs xs) (ks:ek H kvs) (ok:HOk P w H h):∀x∈xs,(bH P w).is h x.1 x.2.1:=fun x hx=>by
 obtain ⟨p,hp,e1,e2⟩:=r.mem x hx
 rw [←e1,←e2];exact (ks p hp).is ok
noncomputable def c7 (kvs:List (PK×Addr×V)) (k:PK):Option V:=(kvs.find? fun p=>decide (p.1=k)).map (·.2.2)
noncomputable def eV (kvs:List (PK×Addr×V)) (k:PK) (b:Addr) (v:V):List (PK×Addr×V):=
 if (c7 kvs k).isSome then kvs.map (fun p=>if p.1=k then (p.1,p.2.1,v) else p) else kvs++[(k,b,v)]
theorem KP.val {xs:List (PK×Addr×Value)} (r:KP kvs xs) (k:PK):bX (c7 kvs k) ((atKey xs k).map (·.2)):=by
 unfold KP at r
 induction r with
 |nil=>trivial
 |@cons p q ps qs h t ih=>
  unfold c7 atKey
  rw [List.find?_cons,List.find?_cons,h.1]
  by_cases e:q.1=k
  ·rw [decide_eq_true e];exact h.2.2
  ·rw [decide_eq_false e];exact ih
theorem KP.length {xs:List (PK×Addr×Value)} (r:KP kvs xs):kvs.length=xs.length:=Paired.length r
theorem KP.gB {xs:List (PK×Addr×Value)} (r:KP kvs xs) (k:PK) {v:V} {u:Value} (rv:RelV v u):KP (kvs.map fun p=>if p.1=k then (p.1,p.2.1,v) else p) (xs.map (putAt k u)):=by
 unfold KP at r ⊢
 induction r with
 |nil=>exact .nil
 |@cons p q ps qs h t ih=>
  rw [List.map_cons,List.map_cons]
  refine .cons ?_ ih
  unfold putAt
  by_cases e:q.1=k
  ·rw [if_pos e,if_pos (h.1.trans e)];exact ⟨h.1,h.2.1,rv⟩
  ·rw [if_neg e,if_neg (fun z=>e (h.1.symm.trans z))];exact h
theorem KP.snoc {xs:List (PK×Addr×Value)} (r:KP kvs xs) (k:PK) (b:Addr) {v:V} {u:Value} (rv:RelV v u):KP (kvs++[(k,b,v)]) (xs++[(k,b,u)]):=by
 unfold KP at r ⊢
 induction r with
 |nil=>exact .cons ⟨rfl,rfl,rv⟩ .nil
 |cons h t ih=>exact .cons h ih
theorem KP.put {xs:List (PK×Addr×Value)} (r:KP kvs xs) (k:PK) (b:Addr) {v:V} {u:Value} (rv:RelV v u):KP (eV kvs k b v) (storedH xs k b u):=by
 have e:(c7 kvs k).isSome=(atKey xs k).isSome:=by
  have:=r.val k
  cases h1:c7 kvs k with
  |none=>cases h2:(atKey xs k) with
   |none=>rfl
   |some p=>rw [h1,h2] at this;exact this.elim
  |some v=>cases h2:(atKey xs k) with
   |none=>rw [h1,h2] at this;exact this.elim
   |some p=>rfl
 unfold eV storedH
 rw [e]
 split
 ·exact r.gB k rv
 ·exact r.snoc k b rv
theorem r6 {k:PK} {b:Addr} {v:V}:(eV kvs k b v).length<=kvs.length+1:=by
 unfold eV
 split
 ·rw [List.length_map];omega
 ·rw [List.length_append];exact Nat.le_refl _
theorem KP.nodup {xs:List (PK×Addr×Value)} (r:KP kvs xs):kvs.map (·.1)=xs.map (·.1):=by
 unfold KP at r
 induction r with
 |nil=>rfl
 |@cons p q ps qs h t ih=>rw [List.map_cons,List.map_cons,ih,h.1]
theorem KP.get {xs:List (PK×Addr×Value)} (r:KP kvs xs):∀{i:Nat} {p:PK×Addr×V},kvs[i]?=some p->∃q,xs[i]?=some q∧p.1=q.1∧p.2.1=q.2.1∧RelV p.2.2 q.2.2:=by
 unfold KP at r
 induction r with
 |nil=>intro i p h;simp at h
 |@cons p q ps qs h t ih=>
  intro i x hx
  cases i with
  |zero=>simp at hx;subst hx;exact ⟨q,rfl,h⟩
  |succ i=>obtain ⟨y,hy,e⟩:=ih (i:=i) (p:=x) (by simpa using hx);exact ⟨y,by simpa using hy,e⟩
end
section
variable {X:Cx} {pins:List (Addr×Obj)} {σ:St} {H:Hp} {s:Shared} {a b:Addr} {v:V} {u r:Value} {o:Option V} {A:Around} {E:Value->Shared->Prop} {ep:Nat} {kvs:List (PK×Addr×V)} {k:PK}
theorem oj {Q:Value->Shared->Prop} (hu:A.units+9<cLine) (I:Inv X pins σ H s) (e:H a=some (PD a ep kvs)) (ks:ek H kvs) (kb:eA H k b) (l:c7 kvs k=some v) (h:∀w' s',Inv X pins σ H s'->RelV v w'->Q w' s'):
  wpAny (model X.prog X.w) A (getItem (.ref a) (.ref b)) Q E s:=by
 obtain ⟨z,hd,xs,rel,dd⟩:=dy I.hok e
 obtain ⟨w',hw,rw'⟩:=bX.some_of (v:=v) (o:=(atKey xs k).map (·.2)) (by rw [←l];exact rel.val k)
 obtain ⟨p,hp,hp2⟩:=Option.map_eq_some_iff.mp hw
 refine wpAny_getItem_heap (knd:=bH X.prog X.w) (show A.units+1+8<cLine by omega) (kb.is I.hok) (dd.ofH (rel.is ks I.hok)) hp ?_
 rw [hp2]
 exact h w' _ (I.tok _) rw'
theorem zJ {Q:Value->Shared->Prop} (hu:A.units+9<cLine) (I:Inv X pins σ H s) (e:H a=some (PD a ep kvs)) (ks:ek H kvs) (kb:eA H k b) (h:∀w' s',Inv X pins σ H s'->RelV ((c7 kvs k).getD .non) w'->Q w' s'):
  wpAny (model X.prog X.w) A (call (.builtin "dict.get") [.ref a,.ref b]) Q E s:=by
 obtain ⟨z,hd,xs,rel,dd⟩:=dy I.hok e
 refine call_meetsIn PySem.F.slot_dict_get dd.typeIs PySem.F.entry_dict_get (PySem.F.args_dict_get_2 _ _) (meetsH_dict_get (bH X.prog X.w) a b hd) ⟨show A.units+1+8<cLine by omega,k,xs,kb.is I.hok,dd.ofH (rel.is ks I.hok),h _ _ (I.tok _) ?_⟩
 exact (rel.val k).getD rfl
theorem qf {Q:Unit->Shared->Prop} (hu:A.units+9<cLine) (I:Inv X pins σ H s) (e:H a=some (PD a ep kvs)) (ks:ek H kvs) (kb:eA H k b) (hl:kvs.length<sizeLine) (rv:RelV v r) (h:∀s' ep',Inv X pins σ (upd H a (PD a ep' (eV kvs k b v))) s'->Q () s'):
  wpAny (model X.prog X.w) A (setItem (.ref a) (.ref b) r) Q E s:=by
 obtain ⟨z,hd,xs,rel,dd⟩:=dy I.hok e
 have hz:xs.length<=sizeLine:=by rw [←rel.length];exact z
 refine wpAny_setItem_heap (knd:=bH X.prog X.w) (hsz:=hz) (show A.units+1+8<cLine by omega) (kb.is I.hok) (dd.ofH (rel.is ks I.hok)) fun h' dd' hs=>?_
 obtain ⟨ep',rw'⟩:=mC dd'
 refine h _ ep' (uC I (by rw [e];exact True.intro) hs (let ⟨q,_,hq,_⟩:=rw';⟨q,hq⟩) (iM (by have:=r6 (kvs:=kvs) (k:=k) (b:=b) (v:=v);omega) hd (rel.put k b rv) rw'))
theorem xb {Q:Value->Shared->Prop} (I:Inv X pins σ H s) (e:H a=some (PD a ep kvs)) (ks:ek H kvs) (hh:(kvs.map fun p=>p.1.hs).Nodup) (h:∀p ep' s',H p=none->Inv X pins σ (upd H p (PD p ep' kvs)) s'->Q (.ref p) s'):
  wpAny (model X.prog X.w) A (call (.type "dict") [.ref a]) Q E s:=by
 obtain ⟨z,hd,xs,rel,dd⟩:=dy I.hok e
 have e2:(xs.map fun x=>(bH X.prog X.w).hash x.1)=kvs.map fun p=>p.1.hs:=by
  have:=congrArg (List.map PK.hs) rel.nodup
  rw [List.map_map,List.map_map] at this
  exact this.symm
 refine oI (knd:=bH X.prog X.w) hd dd (fun x hx=>(rel.is ks I.hok x hx).1.wQ) (by rw [e2];exact hh) (by rw [←rel.length];exact z) fun h' ep' hd' hs'=>?_
 refine h _ ep' _ (I.hok.fresh (Nat.le_refl _)) (I.laid (a:=s.heap.objs.size) (o:=PD s.heap.objs.size ep' kvs) (t':=s.toks) (fun b q hb=>?_) (Nat.le_refl _) (iM z (beq_eq_false_iff_ne.mpr (Ne.symm (Nat.ne_of_lt I.big))) rel hd'))
 rw [hs'.2 b (Nat.ne_of_lt (Heap.lt_size hb))]
 exact Heap.get?_push_of_some _ hb
end
noncomputable def Itp (a:Addr) (ep:Nat) (kvs:List (PK×Addr×V)):It:=
 ⟨fun i H=>H a=some (PD a ep kvs)∧i<kvs.length,fun i H v H'=>H'=H∧∃p,kvs[i]?=some p∧v=.ref p.2.1,fun i H=>H a=some (PD a ep kvs)∧kvs.length<=i⟩
theorem ow {P:Program} {w:World} {K:PySem.W.Frag} {tg:Expr} (a it:Addr) (ep:Nat) (kvs:List (PK×Addr×V)):Turn P w K tg (Itp a ep kvs) [it] it (fun i h=>h.IsKeyIter it a i kvs.length ep) where
 mem:=by simp
 obj:=fun i h st b hb=>by
  cases (List.mem_singleton.mp hb)
  obtain ⟨o,e,c,d⟩:=st
  exact ⟨o,e,fun v z=>by rw [d] at z;cases z⟩
 keep:=fun i h h' st k=>let ⟨o,e,r⟩:=st;⟨o,k it (by simp) o e,r⟩
 item:=by
  intro X hP hw hK hc i pins s σ H E I hf st hg
  subst hP hw hK
  obtain ⟨he,hi⟩:=hg
  obtain ⟨z,hd,xs,rel,dd⟩:=dy I.hok he
  obtain ⟨p,hp⟩:∃p,kvs[i]?=some p:=⟨kvs[i],by simp [hi]⟩
  obtain ⟨q,hq,_,e2,_⟩:=rel.get hp
  obtain ⟨f0,f1,f2,f3,f4,f5⟩:=hf it (by simp)
  rw [rel.length] at st
  refine nj st dd hq fun h' st' sb=>?_
  have I1:Inv X pins σ H {s with heap:=h'}:=I.turned (t':=s.toks) (fun b o hb e=>(sb.2 b hb).trans e) f0 f1 f3 f4 f5
  obtain ⟨o,e,c,d⟩:=id st'
  rw [←rel.length] at st'
  exact ⟨_,rfl,kA (s:={s with heap:=h'}) e c d (by decide) ⟨.ref p.2.1,H,I1,by rw [e2];rfl,⟨rfl,p,hp,rfl⟩,st',fun b hb=>(hf b hb).1⟩⟩
 done:=by
  intro X hP hw hK hc i pins s σ H E I hf st hg
  subst hP hw hK
  obtain ⟨he,hi⟩:=hg
  obtain ⟨z,hd,xs,rel,dd⟩:=dy I.hok he
  obtain ⟨f0,f1,f2,f3,f4,f5⟩:=hf it (by simp)
  rw [rel.length] at st
  exact o8 (I.ok.hd hc) st dd (by rw [List.getElem?_eq_none_iff,←rel.length];exact hi) fun h' eb=>⟨rfl,I.turned (t':=s.toks) (fun b o hb e=>eb b o hb e) f0 f1 f3 f4 f5⟩
 self:=fun _ _ _ _ _ st h=>wpAny_pyIter_keyiter st h
noncomputable def Bh (tl:TE):TI:=fun σ H R=>tl σ H fun x H1=>∃a ep kvs,x=.ref a∧H1 a=some (PD a ep kvs)∧R (Itp a ep kvs) H1
section
variable {X:Cx} {tg o i e value:Expr} {pos pos' apos cpos:Pos} {td ty tv:TE}
theorem yA {l:Expr} {tl:TE} (hl:PE X l tl):PI X tg l (Bh tl):=by
 intro pins s σ H R I h
 refine thn (hl pins s σ H _ I h) fun v s1 ⟨x,H1,I1,r1,a,ep,kvs,ex,he,q⟩=>?_
 subst ex
 cases r1
 obtain ⟨z,hd,xs,rel,dd⟩:=dy I1.hok he
 refine nM hd dd ?_
 refine ⟨s1.heap.objs.size,[s1.heap.objs.size],_,_,H1,rfl,I1.kept (t':=s1.toks) fun b o e=>Heap.get?_push_of_some _ e,ow a _ ep kvs,⟨_,Heap.get?_push_size _ rfl,rfl,by rw [rel.length];rfl⟩,fun b hb=>?_,q⟩
 cases (List.mem_singleton.mp hb)
 exact I1.eg (Nat.le_refl _) (I1.hok.fresh (Nat.le_refl _))
noncomputable def zH (td ty:TE):TE:=fun σ H Q=>td σ H fun x H1=>ty σ H1 fun y H2=>∃a b ep kvs k v,x=.ref a∧y=.ref b∧H2 a=some (PD a ep kvs)∧ek H2 kvs∧eA H2 k b∧c7 kvs k=some v∧Q v H2
theorem tZ (hu:X.A.units+9<cLine) (ho:PE X o td) (hi:PE X i ty) (hs:mR i):PE X (.Subscript o i pos) (zH td ty):=by
 intro pins s σ H Q I h
 refine ug PySem.F.slot_dict_getitem.lookup hs (thn (ho pins s σ H _ I h) fun u s1 ⟨x,H1,I1,rx,q1⟩=>thn (hi pins s1 σ H1 _ I1 q1) fun iv s2 ⟨y,H2,I2,ry,a,b,ep,kvs,k,v,ex,ey,he,ks,kb,l,q2⟩=>?_)
 subst ex ey
 obtain rfl:u=Value.ref a:=rx
 obtain rfl:iv=Value.ref b:=ry
 obtain ⟨_,_,xs,_,dd⟩:=dy I2.hok he
 exact ⟨dd.typeIs,oj hu I2 he ks kb l fun w' s3 I3 rw'=>⟨v,H2,I3,rw',q2⟩⟩
noncomputable def xB (td ty:TE):TE:=fun σ H Q=>td σ H fun x H1=>∃a ep kvs,x=.ref a∧H1 a=some (PD a ep kvs)∧ty σ H1 fun y H2=>∃b k,y=.ref b∧H2 a=some (PD a ep kvs)∧ek H2 kvs∧eA H2 k b∧Q ((c7 kvs k).getD .non) H2
theorem rq (hu:X.A.units+9<cLine) (ho:PE X o td) (he:PE X e ty) (m:M1 X o "get" apos e cpos):PE X (.Call (.Attribute o "get" apos) [e] [] cpos) (xB td ty):=by
 intro pins s σ H Q I h
 refine wpAny_Call_method m.base m.few m.line PySem.F.plainAttrs_dict PySem.F.slot_dict_get PySem.F.type_dict_get (thn (ho pins s σ H _ I h) fun u s1 ⟨x,H1,I1,rx,a,ep,kvs,ex,hx,q1⟩=>?_)
 subst ex
 obtain rfl:u=Value.ref a:=rx
 obtain ⟨_,_,xs,_,dd⟩:=dy I1.hok hx
 refine ⟨dd.typeIs,fun b q=>?_,?_⟩
 ·cases q
  obtain ⟨ob,_,h1,h2,_⟩:=dd
  exact ⟨ob,h1,h2.2.1⟩
 rw [m.trees]
 refine Calls.callWith_builtin rfl (Calls.evalArgs_plain (Calls.spliced_cons (thn (he pins s1 σ H1 _ I1 q1) fun iv s2 ⟨y,H2,I2,ry,b,k,ey,hx2,ks,kb,q2⟩=>Calls.spliced_nil ?_)))
 subst ey
 obtain rfl:iv=Value.ref b:=ry
 exact zJ hu I2 hx2 ks kb fun w' s3 I3 rw'=>⟨_,H2,I3,rw',q2⟩
noncomputable def Af (td ty tv:TE):TS:=fun D σ H=>tv σ H fun v H1=>td σ H1 fun x H2=>ty σ H2 fun y H3=>∃a b ep kvs k,x=.ref a∧y=.ref b∧H3 a=some (PD a ep kvs)∧ek H3 kvs∧eA H3 k b∧kvs.length<sizeLine∧∀ep',D.nx σ (upd H3 a (PD a ep' (eV kvs k b v)))
theorem vM (hu:X.A.units+9<cLine) (ho:PE X o td) (hi:PE X i ty) (hv:PE X value tv) (hs:swapsWith value (some (.Subscript o i pos')) pos.line X.env=pure false):PS X (.Assign [.Subscript o i pos'] value pos) (Af td ty tv):=by
 intro pins s σ H D I h
 refine wpAny_Assign_Subscript (thn (hv pins s σ H _ I h) fun r s1 ⟨v,H1,I1,rv,q1⟩=>thn (ho pins s1 σ H1 _ I1 q1) fun u s2 ⟨x,H2,I2,rx,q2⟩=>thn (hi pins s2 σ H2 _ I2 q2) fun iv s3 ⟨y,H3,I3,ry,a,b,ep,kvs,k,ex,ey,he,ks,kb,hl,q3⟩=>?_) hs
 subst ex ey
 obtain rfl:u=Value.ref a:=rx
 obtain rfl:iv=Value.ref b:=ry
 exact qf hu I3 he ks kb hl rv fun s4 ep' I4=>⟨σ,_,I4,q3 ep'⟩
noncomputable def Ae:TE:=fun _ H Q=>∀p,H p=none->Q (.ref p) (upd H p (PD p 0 []))
theorem vo:PE X (.Dict [] [] pos) Ae:=fun pins s σ H Q I h=>
 wpAny_Dict_empty ⟨.ref s.heap.objs.size,_,I.laid (a:=s.heap.objs.size) (o:=PD s.heap.objs.size 0 []) (t':=s.toks) (fun _ _ q=>Heap.get?_push_of_some _ q) (Nat.le_refl _)
  (iM (Nat.zero_le _) (beq_eq_false_iff_ne.mpr (Ne.symm (Nat.ne_of_lt I.big))) (xs:=[]) .nil (ay.new s.heap)),rfl,h _ (I.hok.fresh (Nat.le_refl _))⟩
theorem nK:cL X (.type "dict") (fun vs H Q=>∃a ep kvs,vs=[.ref a]∧H a=some (PD a ep kvs)∧ek H kvs∧(kvs.map fun p=>p.1.hs).Nodup∧∀p ep',H p=none->Q (.ref p) (upd H p (PD p ep' kvs))):=by
 intro pins s σ H xs us Q I r ⟨a,ep,kvs,ex,he,ks,hh,q⟩
 subst ex
 cases r with
 |cons r t=>
  cases t
  cases r
  exact xb I he ks hh fun p ep' s' hp I'=>⟨.ref p,_,I',rfl,q p ep' hp⟩
end
end CT
namespace CT
open PySem PySem.Spec L2
open PyProof.Rows hiding St
inductive D where
 |non|bl (b:Bool)|int (i:Int)|str (x:Str)|tup (xs:List D)|lst (xs:List D)|ins (C:Addr) (fs:List (Str×D))|exc (C:Addr) (fs:List (Str×D))
 |ty (n:String)|cl (C:Addr)
 |dct (kvs:List (D×D))|pdc (es:List (PK×D))
mutual
noncomputable def PK.d:PK->D
 |.i n=>.int n
 |.t l=>.tup (PK.dL l)
noncomputable def PK.dL:List PK->List D
 |[]=>[]
 |k::ks=>PK.d k::PK.dL ks
end
noncomputable def Az:Key->D
 |.inl i=>.int i
 |.inr x=>.str x
noncomputable abbrev Ad:=Addr->Prop
noncomputable def SqK (K:PySem.W.Frag) (a:Addr) (xs:List V):Prop:=
 ∃(o:Obj) (its:Array Value) (n:Nat),K.lookup a=some o∧o.cls=.type "list"∧o.dict=none∧o.data=.seq its n∧its.size<=sizeLine∧Vals xs its.toList
mutual
inductive Rds (K:PySem.W.Frag) (H:Hp) (S:Ad):D->V->Prop
 |non:Rds K H S .non .non
 |bl (b:Bool):Rds K H S (.bl b) (.bl b)
 |int (i:Int):Rds K H S (.int i) (.int i)
 |str (x:Str):Rds K H S (.str x) (.str x)
 |ty (n:String):Rds K H S (.ty n) (.ty n)
 |cl (C:Addr):Rds K H S (.cl C) (.ref C)
 |tup {a:Addr} {vs:List V} {xs:List D}:H a=some (.tup vs)->¬S a->af K H S xs vs->Rds K H S (.tup xs) (.ref a)
 |lst {a:Addr} {vs:List V} {xs:List D}:Rd H a (.lst vs)->¬S a->af K H S xs vs->Rds K H S (.lst xs) (.ref a)
 |lstK {a:Addr} {vs:List V} {xs:List D}:SqK K a vs->af K H S xs vs->Rds K H S (.lst xs) (.ref a)
 |ins {a C dx:Addr} {fs:List (Str×D)} {gs:List (Str×V)}:H a=some (.ins C dx gs)->¬S a->aF K H S fs gs->Rds K H S (.ins C fs) (.ref a)
 |k7 {fr:Bool} {a C:Addr}:H a=some (kE fr a C none)->¬S a->Rds K H S (.exc C []) (.ref a)
 |exc {fr:Bool} {a C dx:Addr} {fs:List (Str×D)} {gs:List (Str×V)}:H a=some (kE fr a C (some dx))->H dx=some (rH dx gs)->¬S a->¬S dx->aF K H S fs gs->Rds K H S (.exc C fs) (.ref a)
 |dK {a:Addr} {kvs:List (Key×V)} {es:List (D×D)}:H a=some (.dK kvs)->¬S a->es.map (·.1)=kvs.map (fun p=>Az p.1)->af K H S (es.map (·.2)) (kvs.map (·.2))->Rds K H S (.dct es) (.ref a)
 |dP {a:Addr} {ep:Nat} {kvs:List (PK×Addr×V)} {es:List (PK×D)}:H a=some (PD a ep kvs)->¬S a->aq K H S es kvs->Rds K H S (.pdc es) (.ref a)
inductive af (K:PySem.W.Frag) (H:Hp) (S:Ad):List D->List V->Prop
 |nil:af K H S [] []
 |cons {d:D} {v:V} {ds:List D} {vs:List V}:Rds K H S d v->af K H S ds vs->af K H S (d::ds) (v::vs)
inductive aq (K:PySem.W.Frag) (H:Hp) (S:Ad):List (PK×D)->List (PK×Addr×V)->Prop
 |nil:aq K H S [] []
 |cons {k:PK} {a:Addr} {d:D} {v:V} {ds:List (PK×D)} {vs:List (PK×Addr×V)}:k.dp<=8->Rds K H S (PK.d k) (.ref a)->Rds K H S d v->aq K H S ds vs->aq K H S ((k,d)::ds) ((k,a,v)::vs)
inductive aF (K:PySem.W.Frag) (H:Hp) (S:Ad):List (Str×D)->List (Str×V)->Prop
 |nil:aF K H S [] []
 |cons {n:Str} {d:D} {v:V} {ds:List (Str×D)} {vs:List (Str×V)}:Rds K H S d v->aF K H S ds vs->aF K H S ((n,d)::ds) ((n,v)::vs)
end
noncomputable def Ext (S:Ad) (H H':Hp):Prop:=∀a o,¬S a->H a=some o->H' a=some o
noncomputable abbrev no:Ad:=fun _=>False
noncomputable abbrev aD (H H':Hp):Prop:=Ext no H H'
theorem Ext.refl {S:Ad} {H:Hp}:Ext S H H:=fun _ _ _ e=>e
theorem Ext.trans {S:Ad} {H H1 H2:Hp} (a:Ext S H H1) (b:Ext S H1 H2):Ext S H H2:=fun c o n e=>b c o n (a c o n e)
theorem Ext.to {H H':Hp} (e:aD H H') (S:Ad):Ext S H H':=fun a o _ h=>e a o (fun z=>z) h
theorem Ext.new {H:Hp} {p:Addr} {o:HO} (hp:H p=none):aD H (upd H p o):=fun a u _ e=>by rw [aj (aJ e hp)];exact e
theorem Ext.set {H:Hp} {S:Ad} {p:Addr} {o:HO} (hp:S p):Ext S H (upd H p o):=fun a u n e=>by rw [aj (fun z:a=p=>n (by rw [z];exact hp))];exact e
theorem Ext.ne {H H':Hp} (e:aD H H') {a:Addr} (h:H a≠none):H' a≠none:=by
 cases q:H a with
 |none=>exact absurd q h
 |some o=>rw [e a o (fun z=>z) q];intro z;cases z
theorem Rd.ext {S:Ad} {H H':Hp} {a:Addr} {u:HO} (e:Ext S H H') (n:¬S a) (r:Rd H a u):Rd H' a u:=r.elim (fun z=>.inl (e _ _ n z)) fun ⟨o,z⟩=>.inr ⟨o,e _ _ n z⟩
section
variable {K:PySem.W.Frag} {H H':Hp} {S S':Ad}
mutual
theorem Rds.ext (e:Ext S H H'):∀{d:D} {v:V},Rds K H S d v->Rds K H' S d v
 |_,_,.non=>.non
 |_,_,.bl b=>.bl b
 |_,_,.int i=>.int i
 |_,_,.str x=>.str x
 |_,_,.ty n=>.ty n
 |_,_,.cl C=>.cl C
 |_,_,.tup h n r=>.tup (e _ _ n h) n (af.ext e r)
 |_,_,.lst h n r=>.lst (CT.Rd.ext e n h) n (af.ext e r)
 |_,_,.lstK h r=>.lstK h (af.ext e r)
 |_,_,.ins h n r=>.ins (e _ _ n h) n (aF.ext e r)
 |_,_,.k7 h n=>.k7 (e _ _ n h) n
 |_,_,.exc h h2 n n2 r=>.exc (e _ _ n h) (e _ _ n2 h2) n n2 (aF.ext e r)
 |_,_,.dK h n k r=>.dK (e _ _ n h) n k (af.ext e r)
 |_,_,.dP h n r=>.dP (e _ _ n h) n (aq.ext e r)
theorem aq.ext (e:Ext S H H'):∀{ds:List (PK×D)} {vs:List (PK×Addr×V)},aq K H S ds vs->aq K H' S ds vs
 |_,_,.nil=>.nil
 |_,_,.cons p k r t=>.cons p (Rds.ext e k) (Rds.ext e r) (aq.ext e t)
theorem af.ext (e:Ext S H H'):∀{ds:List D} {vs:List V},af K H S ds vs->af K H' S ds vs
 |_,_,.nil=>.nil
 |_,_,.cons r t=>.cons (Rds.ext e r) (af.ext e t)
theorem aF.ext (e:Ext S H H'):∀{ds:List (Str×D)} {vs:List (Str×V)},aF K H S ds vs->aF K H' S ds vs
 |_,_,.nil=>.nil
 |_,_,.cons r t=>.cons (Rds.ext e r) (aF.ext e t)
end
mutual
theorem Rds.av (e:∀a,S' a->S a∨H a=none):∀{d:D} {v:V},Rds K H S d v->Rds K H S' d v
 |_,_,.non=>.non
 |_,_,.bl b=>.bl b
 |_,_,.int i=>.int i
 |_,_,.str x=>.str x
 |_,_,.ty n=>.ty n
 |_,_,.cl C=>.cl C
 |_,_,.tup h n r=>.tup h (fun z=>(e _ z).elim n fun q=>by rw [h] at q;cases q) (af.av e r)
 |_,_,.lst h n r=>.lst h (fun z=>(e _ z).elim n fun q=>by rcases h with h|⟨_,h⟩<;>(rw [h] at q;cases q)) (af.av e r)
 |_,_,.lstK h r=>.lstK h (af.av e r)
 |_,_,.ins h n r=>.ins h (fun z=>(e _ z).elim n fun q=>by rw [h] at q;cases q) (aF.av e r)
 |_,_,.k7 h n=>.k7 h (fun z=>(e _ z).elim n fun q=>by rw [h] at q;cases q)
 |_,_,.exc h h2 n n2 r=>.exc h h2 (fun z=>(e _ z).elim n fun q=>by rw [h] at q;cases q) (fun z=>(e _ z).elim n2 fun q=>by rw [h2] at q;cases q) (aF.av e r)
 |_,_,.dK h n k r=>.dK h (fun z=>(e _ z).elim n fun q=>by rw [h] at q;cases q) k (af.av e r)
 |_,_,.dP h n r=>.dP h (fun z=>(e _ z).elim n fun q=>by rw [h] at q;cases q) (aq.av e r)
theorem aq.av (e:∀a,S' a->S a∨H a=none):∀{ds:List (PK×D)} {vs:List (PK×Addr×V)},aq K H S ds vs->aq K H S' ds vs
 |_,_,.nil=>.nil
 |_,_,.cons p k r t=>.cons p (Rds.av e k) (Rds.av e r) (aq.av e t)
theorem af.av (e:∀a,S' a->S a∨H a=none):∀{ds:List D} {vs:List V},af K H S ds vs->af K H S' ds vs
 |_,_,.nil=>.nil
 |_,_,.cons r t=>.cons (Rds.av e r) (af.av e t)
theorem aF.av (e:∀a,S' a->S a∨H a=none):∀{ds:List (Str×D)} {vs:List (Str×V)},aF K H S ds vs->aF K H S' ds vs
 |_,_,.nil=>.nil
 |_,_,.cons r t=>.cons (Rds.av e r) (aF.av e t)
end
theorem af.length:∀{ds:List D} {vs:List V},af K H S ds vs->ds.length=vs.length
 |_,_,.nil=>rfl
 |_,_,.cons _ t=>by rw [List.length_cons,List.length_cons,af.length t]
theorem af.get:∀{ds:List D} {vs:List V} {i:Nat} {d:D},af K H S ds vs->ds[i]?=some d->∃v,vs[i]?=some v∧Rds K H S d v
 |_,_,0,_,.cons r _,e=>by simp at e;subst e;exact ⟨_,rfl,r⟩
 |_,_,i+1,_,.cons _ t,e=>by
  obtain ⟨v,h1,h2⟩:=af.get (i:=i) t (by simpa using e)
  exact ⟨v,by simpa using h1,h2⟩
theorem af.app:∀{ds es:List D} {vs us:List V},af K H S ds vs->af K H S es us->af K H S (ds++es) (vs++us)
 |_,_,_,_,.nil,s=>s
 |_,_,_,_,.cons r t,s=>.cons r (af.app t s)
theorem af.rep {d:D} {v:V} (r:Rds K H S d v):∀n:Nat,af K H S (List.replicate n d) (List.replicate n v)
 |0=>.nil
 |n+1=>.cons r (af.rep r n)
theorem aF.look {f:Str}:∀{ds:List (Str×D)} {vs:List (Str×V)} {d:D},aF K H S ds vs->ds.lookup f=some d->∃v,vs.lookup f=some v∧Rds K H S d v
 |(n,x)::r,_,d,.cons q t,e=>by
  rw [List.lookup_cons] at e ⊢
  cases hb:f==n with
  |true=>rw [hb] at e;cases e;exact ⟨_,rfl,q⟩
  |false=>rw [hb] at e;exact aF.look t e
theorem aF.none {f:Str}:∀{ds:List (Str×D)} {vs:List (Str×V)},aF K H S ds vs->ds.lookup f=none->vs.lookup f=none
 |[],_,.nil,_=>rfl
 |(n,x)::r,_,.cons q t,e=>by
  rw [List.lookup_cons] at e ⊢
  cases hb:f==n with
  |true=>rw [hb] at e;cases e
  |false=>rw [hb] at e;exact aF.none t e
theorem Rds.aS {i:Int} {v:V} (r:Rds K H S (.int i) v):v=.int i:=by cases r;rfl
theorem Rds.blV {b:Bool} {v:V} (r:Rds K H S (.bl b) v):v=.bl b:=by cases r;rfl
theorem Rds.nE {v:V} (r:Rds K H S .non v):v=.non:=by cases r;rfl
theorem Rds.cg {xs:List D} {v:V} (r:Rds K H S (.tup xs) v):∃a vs,v=.ref a∧H a=some (.tup vs)∧af K H S xs vs:=by cases r with|tup h n r=>exact ⟨_,_,rfl,h,r⟩
theorem Rds.iF {xs:List D} {v:V} (r:Rds K H S (.lst xs) v):∃a vs,v=.ref a∧SqL K H a vs∧af K H S xs vs:=by
 cases r with
 |lst h n r=>exact ⟨_,_,rfl,.inl h,r⟩
 |lstK h r=>exact ⟨_,_,rfl,.inr h,r⟩
theorem Rds.jD {C:Addr} {fs:List (Str×D)} {v:V} (r:Rds K H S (.ins C fs) v):∃a dx gs,v=.ref a∧H a=some (.ins C dx gs)∧aF K H S fs gs:=by cases r with|ins h n r=>exact ⟨_,_,_,rfl,h,r⟩
theorem af.one {d:D} {vs:List V} (r:af K H S [d] vs):∃v,vs=[v]∧Rds K H S d v:=by cases r with|cons r t=>cases t;exact ⟨_,rfl,r⟩
theorem af.two {d e:D} {vs:List V} (r:af K H S [d,e] vs):∃v u,vs=[v,u]∧Rds K H S d v∧Rds K H S e u:=by
 cases r with|cons r t=>obtain ⟨u,rfl,q⟩:=t.one;exact ⟨_,_,rfl,r,q⟩
noncomputable def Dom (H:Hp) (S:Ad):Prop:=∀a,S a->H a≠none
theorem Dom.ext {H H':Hp} {S:Ad} (d:Dom H S) (e:aD H H'):Dom H' S:=fun a h=>e.ne (d a h)
theorem Dom.not {H:Hp} {S:Ad} (d:Dom H S) {p:Addr} (hp:H p=Option.none):¬S p:=fun z=>d p z hp
theorem Rds.eJ {p:Addr} {vs:List V} {xs:List D} (dm:Dom H S) (hp:H p=Option.none) (r:af K H S xs vs):Rds K (upd H p (.tup vs)) S (.tup xs) (.ref p):=.tup aH (dm.not hp) (r.ext ((Ext.new hp).to S))
theorem Rds.lF {p:Addr} {vs:List V} {xs:List D} (dm:Dom H S) (hp:H p=Option.none) (r:af K H S xs vs):Rds K (upd H p (.lst vs)) S (.lst xs) (.ref p):=.lst (.inl aH) (dm.not hp) (r.ext ((Ext.new hp).to S))
end
inductive Ow where
 |l (xs:List D)|d (es:List (PK×D))
noncomputable def Ow.D:Ow->D
 |.l xs=>.lst xs
 |.d es=>.pdc es
noncomputable def cy (K:PySem.W.Frag) (H:Hp) (S:Ad) (a:Addr):Ow->HO->Prop
 |.l xs,o=>∃vs,o=.lst vs∧af K H S xs vs
 |.d es,o=>∃ep kvs,o=PD a ep kvs∧aq K H S es kvs
inductive Sl where
 |nil|any|val (d:D)|owx (c:Ow)|new (C x dx:Addr) (fs:List (Str×D))
noncomputable abbrev Sl.own (xs:List D):Sl:=.owx (.l xs)
noncomputable abbrev Sl.odc (es:List (PK×D)):Sl:=.owx (.d es)
section
variable {K:PySem.W.Frag} {H H':Hp} {S S':Ad} {a:Addr} {c:Ow} {o:HO}
theorem cy.ext (e:Ext S H H') (h:cy K H S a c o):cy K H' S a c o:=by
 cases c with
 |l xs=>obtain ⟨vs,q,r⟩:=h;exact ⟨vs,q,r.ext e⟩
 |d es=>obtain ⟨ep,vs,q,r⟩:=h;exact ⟨ep,vs,q,r.ext e⟩
theorem cy.av (e:∀a,S' a->S a∨H a=none) (h:cy K H S a c o):cy K H S' a c o:=by
 cases c with
 |l xs=>obtain ⟨vs,q,r⟩:=h;exact ⟨vs,q,r.av e⟩
 |d es=>obtain ⟨ep,vs,q,r⟩:=h;exact ⟨ep,vs,q,r.av e⟩
theorem cy.rds (h:cy K H S a c o) (ha:H a=some o) (n:¬S a):Rds K H S c.D (.ref a):=by
 cases c with
 |l xs=>obtain ⟨vs,rfl,r⟩:=h;exact .lst (.inl ha) n r
 |d es=>obtain ⟨ep,vs,rfl,r⟩:=h;exact .dP ha n r
theorem cy.sort (h:cy K H S a c o):(∃vs,o=.lst vs)∨∃ep kvs,o=PD a ep kvs:=by
 cases c with
 |l xs=>obtain ⟨vs,rfl,r⟩:=h;exact .inl ⟨vs,rfl⟩
 |d es=>obtain ⟨ep,vs,rfl,r⟩:=h;exact .inr ⟨ep,vs,rfl⟩
end
noncomputable abbrev Rho:=List Sl
noncomputable def Sl.dj:Sl->Prop
 |.owx _=>True|.new _ _ _ _=>True|_=>False
noncomputable def RO (K:PySem.W.Frag) (H:Hp) (S:Ad):Sl->Option V->Prop
 |.nil,v=>v=none
 |.any,_=>True
 |.val d,v=>∃u,v=some u∧Rds K H S d u
 |.owx c,v=>∃a o,v=some (.ref a)∧S a∧H a=some o∧cy K H S a c o
 |.new C x dx fs,v=>∃gs,v=some (.ref x)∧S x∧H x=some (.ins C dx gs)∧aF K H S fs gs
theorem RO.ext {K:PySem.W.Frag} {H H':Hp} {S:Ad} (e:aD H H'):∀{x:Sl} {v:Option V},RO K H S x v->RO K H' S x v
 |.nil,_,h=>h
 |.any,_,_=>trivial
 |.val _,_,⟨u,h,r⟩=>⟨u,h,r.ext (e.to S)⟩
 |.owx _,_,⟨a,vs,h,s,o,r⟩=>⟨a,vs,h,s,e _ _ (fun z=>z) o,r.ext (e.to S)⟩
 |.new _ _ _ _,_,⟨gs,h,s,o,r⟩=>⟨gs,h,s,e _ _ (fun z=>z) o,r.ext (e.to S)⟩
structure VE (K:PySem.W.Frag) (H:Hp) (S:Ad) (ρ:Rho) (σ:St):Prop where
 len:ρ.length=σ.length
 rel:∀(i:Nat) (x:Sl),ρ[i]?=some x->∃v,σ[i]?=some v∧RO K H S x v
 dist:∀(i j:Nat) (x y:Sl) (a:Addr),i≠j->ρ[i]?=some x->ρ[j]?=some y->x.dj->y.dj->σ[i]?=some (some (.ref a))->σ[j]?≠some (some (.ref a))
 dom:Dom H S
section
variable {K:PySem.W.Frag} {H H':Hp} {S:Ad} {ρ:Rho} {σ:St} {i:Nat}
theorem VE.ext (v:VE K H S ρ σ) (e:aD H H'):VE K H' S ρ σ:=⟨v.len,fun i x h=>let ⟨u,h1,h2⟩:=v.rel i x h;⟨u,h1,h2.ext e⟩,v.dist,v.dom.ext e⟩
theorem VE.get {d:D} (v:VE K H S ρ σ) (h:ρ[i]?=some (.val d)):∃u,σ[i]?=some (some u)∧Rds K H S d u:=by
 obtain ⟨w,h1,u,rfl,r⟩:=v.rel i _ h
 exact ⟨u,h1,r⟩
theorem VE.set {d:D} {u:V} (v:VE K H S ρ σ) (r:Rds K H S d u):VE K H S (ρ.set i (.val d)) (σ.set i (some u)):=by
 refine ⟨by simpa using v.len,fun j x h=>?_,fun j k x y a hjk h1 h2 o1 o2 h3=>?_,v.dom⟩
 ·by_cases hj:i=j
  ·subst hj
   have hi:i<ρ.length:=by
    have:=(List.getElem?_eq_some_iff.mp h).1
    simpa using this
   rw [List.getElem?_set_self hi] at h
   cases h
   exact ⟨some u,List.getElem?_set_self (v.len▸hi),u,rfl,r⟩
  ·rw [List.getElem?_set_ne hj] at h ⊢
   exact v.rel j x h
 ·have n1:i≠j:=fun z=>by
   subst z
   have hi:=(List.getElem?_eq_some_iff.mp h1).1
   rw [List.getElem?_set_self (by simpa using hi)] at h1;cases h1;exact o1
  have n2:i≠k:=fun z=>by
   subst z
   have hi:=(List.getElem?_eq_some_iff.mp h2).1
   rw [List.getElem?_set_self (by simpa using hi)] at h2;cases h2;exact o2
  rw [List.getElem?_set_ne n1] at h1 h3
  rw [List.getElem?_set_ne n2] at h2 ⊢
  exact v.dist j k x y a hjk h1 h2 o1 o2 h3
theorem VE.unset (v:VE K H S ρ σ) (h:ρ[i]?=some .nil):σ[i]?=some none:=by
 obtain ⟨w,h1,rfl⟩:=v.rel i _ h
 exact h1
end
noncomputable def tD (K:PySem.W.Frag) (ρ:Rho) (d:D):TE:=fun σ H Q=>∃S,VE K H S ρ σ∧∀v H',aD H H'->Rds K H' S d v->Q v H'
noncomputable def tDT (K:PySem.W.Frag) (ρ:Rho) (b:Bool):TT:=fun σ H Q=>∃S,VE K H S ρ σ∧∀H',aD H H'->Q b H'
noncomputable def tDA (K:PySem.W.Frag) (ρ:Rho) (ds:List D):TA:=fun σ H Q=>∃S,VE K H S ρ σ∧∀vs H',aD H H'->af K H' S ds vs->Q vs H'
noncomputable def DE (X:Cx) (ρ:Rho) (e:Expr) (d:D):Prop:=PE X e (tD X.K ρ d)
noncomputable def DT (X:Cx) (ρ:Rho) (e:Expr) (b:Bool):Prop:=PT X e (tDT X.K ρ b)
noncomputable def DW (X:Cx) (ρ:Rho) (e:Expr) (b:Bool):Prop:=PW X e (tDT X.K ρ b)
noncomputable def DA (X:Cx) (ρ:Rho) (es:List Expr) (ds:List D):Prop:=PA X es (tDA X.K ρ ds)
section
variable {X:Cx}
theorem PE.weak {e:Expr} {t t':TE} (h:PE X e t) (w:∀σ H Q,t' σ H Q->t σ H Q):PE X e t':=fun pins s σ H Q I q=>h pins s σ H Q I (w σ H Q q)
theorem PT.weak {e:Expr} {t t':TT} (h:PT X e t) (w:∀σ H Q,t' σ H Q->t σ H Q):PT X e t':=fun pins s σ H Q I q=>h pins s σ H Q I (w σ H Q q)
theorem PW.weak {e:Expr} {t t':TT} (h:PW X e t) (w:∀σ H Q,t' σ H Q->t σ H Q):PW X e t':=fun wh pins s σ H Q I q=>h wh pins s σ H Q I (w σ H Q q)
theorem PA.weak {es:List Expr} {t t':TA} (h:PA X es t) (w:∀σ H Q,t' σ H Q->t σ H Q):PA X es t':=fun pos pins s σ H Q I q=>h pos pins s σ H Q I (w σ H Q q)
theorem PS.weak {st:Stmt} {t t':TS} (h:PS X st t) (w:∀D σ H,t' D σ H->t D σ H):PS X st t':=fun pins s σ H D I q=>h pins s σ H D I (w D σ H q)
theorem PSs.weak {st:List Stmt} {t t':TS} (h:PSs X st t) (w:∀D σ H,t' D σ H->t D σ H):PSs X st t':=fun pins s σ H D I q=>h pins s σ H D I (w D σ H q)
variable {ρ:Rho} {a b c e:Expr} {pos:Pos} {d da db dc:D}
theorem pA {i:Nat} {x:Str} (hN:X.N[i]?=some x) (hv:Vis X.env.scope x) (hr:ρ[i]?=some (.val d)) (hd:(x==("__debug__":Str))=false:=by decide) (hcd:(x==("__classdict__":Str))=false:=by decide):DE X ρ (.Name x pos) d:=
 PE.weak (fm hN hv hd hcd) fun σ H Q ⟨S,ve,k⟩=>let ⟨u,h1,r⟩:=ve.get hr;⟨u,h1,k u H Ext.refl r⟩
theorem yp {i:Int} {j}:DE X ρ (.Constant (.int i) j pos) (.int i):=PE.weak wX fun σ H Q ⟨S,ve,k⟩=>k _ H Ext.refl (.int i)
theorem sY {q:Bool} {j}:DE X ρ (.Constant (.bool q) j pos) (.bl q):=PE.weak Aq fun σ H Q ⟨S,ve,k⟩=>k _ H Ext.refl (.bl q)
theorem gL {j}:DE X ρ (.Constant .none j pos) .non:=PE.weak xW fun σ H Q ⟨S,ve,k⟩=>k _ H Ext.refl .non
theorem wW {x:Str} {j}:DE X ρ (.Constant (.str x) j pos) (.str x):=PE.weak xN fun σ H Q ⟨S,ve,k⟩=>k _ H Ext.refl (.str x)
theorem z_ {x:Str} {n:String} (hg:Gl X x) (hm:X.mg x=none) (hv:bootBuiltins x=some (.type n)) (hn:x≠"__name__":=by decide) (hd:(x==("__debug__":Str))=false:=by decide):DE X ρ (.Name x pos) (.ty n):=
 PE.weak (tM hg hm hv (v:=.ty n) rfl hn hd) fun σ H Q ⟨S,ve,k⟩=>k _ H Ext.refl (.ty n)
theorem zV {x:Str} {C:Addr} (hg:Gl X x) (hm:X.mg x=some (.ref C)) (hd:(x==("__debug__":Str))=false:=by decide):DE X ρ (.Name x pos) (.cl C):=
 PE.weak (l8 hg hm (v:=.ref C) rfl hd) fun σ H Q ⟨S,ve,k⟩=>k _ H Ext.refl (.cl C)
theorem qU {x:Str} {i:Int} {t:Tok} (hg:Gl X x) (hm:X.mg x=some (.int i t)) (hd:(x==("__debug__":Str))=false:=by decide):DE X ρ (.Name x pos) (.int i):=
 PE.weak (l8 hg hm (v:=.int i) ⟨t,rfl⟩ hd) fun σ H Q ⟨S,ve,k⟩=>k _ H Ext.refl (.int i)
noncomputable def R2D (K:PySem.W.Frag) (r:R2) (da db d:D):Prop:=∀(x y:V) (H:Hp) (S:Ad) (Q:VK),Rds K H S da x->Rds K H S db y->Dom H S->(∀v H',aD H H'->Rds K H' S d v->Q v H')->r x y H Q
theorem k8 {r:R2} (h:R2D X.K r da db d) (σ:St) (H:Hp) (Q:VK) (q:tD X.K ρ d σ H Q):tOp r (tD X.K ρ da) (tD X.K ρ db) σ H Q:=by
 obtain ⟨S,ve,k⟩:=q
 exact ⟨S,ve,fun x H1 e1 r1=>⟨S,ve.ext e1,fun y H2 e2 r2=>h x y H2 S Q (r1.ext (e2.to S)) r2 ((ve.ext e1).ext e2).dom fun v H' e3 r3=>k v H' (e1.trans (e2.trans e3)) r3⟩⟩
theorem dB {op:Operator} {r:R2} (ho:OpR X (binaryOp op) r) (h:R2D X.K r da db d) (ha:DE X ρ a da) (hb:DE X ρ b db):DE X ρ (.BinOp a op b pos) d:=PE.weak (zK ho ha hb) (k8 h)
theorem bQ {op:CmpOp} {r:R2} (ho:OpR X (compareOp op) r) (h:R2D X.K r da db d) (ha:DE X ρ a da) (hb:DE X ρ b db) (hm:behindInMarks op b=false):DE X ρ (.Compare a [op] [b] pos) d:=PE.weak (tT ho ha hb hm) (k8 h)
theorem uZ {te:TE} {q:Bool} (h:∀σ H Q,tD X.K ρ (.bl q) σ H Q->te σ H Q) (σ:St) (H:Hp) (Q:Bool->Hp->Prop) (w:tDT X.K ρ q σ H Q):tB te σ H Q:=by
 obtain ⟨S,ve,k⟩:=w
 exact h σ H _ ⟨S,ve,fun v H' e r=>⟨q,r.blV,k H' e⟩⟩
theorem bP {op:CmpOp} {r:R2} {q:Bool} (ho:OpR X (compareOp op) r) (h:R2D X.K r da db (.bl q)) (ha:DE X ρ a da) (hb:DE X ρ b db) (hm:behindInMarks op b=false):DT X ρ (.Compare a [op] [b] pos) q:=by
 refine PT.weak (vP ho ha hb hm) fun σ H Q w=>?_
 obtain ⟨S,ve,k⟩:=w
 exact k8 h σ H _ ⟨S,ve,fun v H' e r=>by rw [r.blV];exact ⟨q,rfl,k H' e⟩⟩
theorem gC {q:Bool} (h:DE X ρ e (.bl q)) (he:∀whole,isTrue e X.env whole=(do let v←whole;standAt e.pos;holding [v] (truthy v)):=by intro _;rfl):DT X ρ e q:=PT.weak (xD h he) (uZ fun _ _ _ w=>w)
theorem yv {i j:Int} {K:PySem.W.Frag}:R2D K (rI0 fun i j=>.int (i+j)) (.int i) (.int j) (.int (i+j)):=fun x y H S Q rx ry dm k=>⟨i,j,rx.aS,ry.aS,k _ H Ext.refl (.int _)⟩
theorem wU {i j:Int} {K:PySem.W.Frag}:R2D K (rI0 fun i j=>.int (i - j)) (.int i) (.int j) (.int (i - j)):=fun x y H S Q rx ry dm k=>⟨i,j,rx.aS,ry.aS,k _ H Ext.refl (.int _)⟩
theorem xo {i j:Int} {K:PySem.W.Frag} (h:ic i j):R2D K (rI ic fun i j=>.int (i*j)) (.int i) (.int j) (.int (i*j)):=fun x y H S Q rx ry dm k=>⟨i,j,rx.aS,ry.aS,h,k _ H Ext.refl (.int _)⟩
theorem wY {i j:Int} {K:PySem.W.Frag} (h:0<j):R2D K (rI (fun _ j=>0<j) fun i j=>.int (i%j)) (.int i) (.int j) (.int (i%j)):=fun x y H S Q rx ry dm k=>⟨i,j,rx.aS,ry.aS,h,k _ H Ext.refl (.int _)⟩
theorem tK {i j:Int} {K:PySem.W.Frag} (h:nJ i j):R2D K (rI nJ fun i j=>.int (i / j)) (.int i) (.int j) (.int (i / j)):=fun x y H S Q rx ry dm k=>⟨i,j,rx.aS,ry.aS,h,k _ H Ext.refl (.int _)⟩
theorem dF {i j:Int} {K:PySem.W.Frag} {g:Int->Int->Bool}:R2D K (rI0 fun i j=>.bl (g i j)) (.int i) (.int j) (.bl (g i j)):=fun x y H S Q rx ry dm k=>⟨i,j,rx.aS,ry.aS,k _ H Ext.refl (.bl _)⟩
theorem yG {i j:Int} (ha:DE X ρ a (.int i)) (hb:DE X ρ b (.int j)):DE X ρ (.BinOp a .Add b pos) (.int (i+j)):=dB yL yv ha hb
theorem wy {i j:Int} (ha:DE X ρ a (.int i)) (hb:DE X ρ b (.int j)):DE X ρ (.BinOp a .Sub b pos) (.int (i - j)):=dB xS wU ha hb
theorem xM {i j:Int} (h:ic i j) (ha:DE X ρ a (.int i)) (hb:DE X ρ b (.int j)):DE X ρ (.BinOp a .Mult b pos) (.int (i*j)):=dB vR (xo h) ha hb
theorem xU {i j:Int} (h:0<j) (ha:DE X ρ a (.int i)) (hb:DE X ρ b (.int j)):DE X ρ (.BinOp a .Mod b pos) (.int (i%j)):=dB w9 (wY h) ha hb
theorem tL {i j:Int} (h:nJ i j) (ha:DE X ρ a (.int i)) (hb:DE X ρ b (.int j)):DE X ρ (.BinOp a .FloorDiv b pos) (.int (i / j)):=dB t_ (tK h) ha hb
theorem zU {i j:Int} (ha:DE X ρ a (.int i)) (hb:DE X ρ b (.int j)):DE X ρ (.Compare a [.Lt] [b] pos) (.bl (decide (i<j))):=bQ nV dF ha hb (aL _)
theorem zv {i j:Int} (ha:DE X ρ a (.int i)) (hb:DE X ρ b (.int j)):DE X ρ (.Compare a [.LtE] [b] pos) (.bl (decide (i<=j))):=bQ m8 dF ha hb (aL _)
theorem zo {i j:Int} (ha:DE X ρ a (.int i)) (hb:DE X ρ b (.int j)):DE X ρ (.Compare a [.Gt] [b] pos) (.bl (decide (j<i))):=bQ sW dF ha hb (aL _)
theorem Ap {i j:Int} (ha:DE X ρ a (.int i)) (hb:DE X ρ b (.int j)):DE X ρ (.Compare a [.GtE] [b] pos) (.bl (decide (j<=i))):=bQ sD dF ha hb (aL _)
theorem zX {i j:Int} (ha:DE X ρ a (.int i)) (hb:DE X ρ b (.int j)):DT X ρ (.Compare a [.Lt] [b] pos) (decide (i<j)):=bP nV dF ha hb (aL _)
theorem y9 {i j:Int} (ha:DE X ρ a (.int i)) (hb:DE X ρ b (.int j)):DT X ρ (.Compare a [.LtE] [b] pos) (decide (i<=j)):=bP m8 dF ha hb (aL _)
theorem zN {i j:Int} (ha:DE X ρ a (.int i)) (hb:DE X ρ b (.int j)):DT X ρ (.Compare a [.Gt] [b] pos) (decide (j<i)):=bP sW dF ha hb (aL _)
theorem zD {i j:Int} (ha:DE X ρ a (.int i)) (hb:DE X ρ b (.int j)):DT X ρ (.Compare a [.GtE] [b] pos) (decide (j<=i)):=bP sD dF ha hb (aL _)
noncomputable def flat:D->Option V
 |.non=>some .non|.bl b=>some (.bl b)|.int i=>some (.int i)|.str x=>some (.str x)
 |_=>none
theorem i_ {K:PySem.W.Frag} {H:Hp} {S:Ad} {d:D} {u v:V} (h:flat d=some u) (r:Rds K H S d v):v=u:=by
 cases r<;>(simp only [flat] at h;first|(cases h;rfl)|cases h)
theorem sE {K:PySem.W.Frag} {u v:V} (ha:flat da=some u) (hb:flat db=some v) (hs:mN u v=true):R2D K rEq da db (.bl (decide (u=v))):=fun x y H S Q rx ry dm k=>by
 rw [i_ ha rx,i_ hb ry]
 exact ⟨hs,k _ H Ext.refl (.bl _)⟩
theorem tj {K:PySem.W.Frag} {u v:V} (ha:flat da=some u) (hb:flat db=some v) (hs:mN u v=true):R2D K rNe da db (.bl (!decide (u=v))):=fun x y H S Q rx ry dm k=>by
 rw [i_ ha rx,i_ hb ry]
 exact ⟨hs,k _ H Ext.refl (.bl _)⟩
theorem wH {i j:Int} (ha:DE X ρ a (.int i)) (hb:DE X ρ b (.int j)):DE X ρ (.Compare a [.Eq] [b] pos) (.bl (decide (i=j))):=by
 have:=bQ (pos:=pos) s9 (sE (K:=X.K) (da:=.int i) (db:=.int j) rfl rfl rfl) ha hb (aL _)
 simpa using this
theorem vV {i j:Int} (ha:DE X ρ a (.int i)) (hb:DE X ρ b (.int j)):DE X ρ (.Compare a [.NotEq] [b] pos) (.bl (!decide (i=j))):=by
 have:=bQ (pos:=pos) sF (tj (K:=X.K) (da:=.int i) (db:=.int j) rfl rfl rfl) ha hb (aL _)
 simpa using this
theorem yK {i j:Int} (ha:DE X ρ a (.int i)) (hb:DE X ρ b (.int j)):DT X ρ (.Compare a [.Eq] [b] pos) (decide (i=j)):=by
 have:=bP (pos:=pos) s9 (sE (K:=X.K) (da:=.int i) (db:=.int j) rfl rfl rfl) ha hb (aL _)
 simpa using this
theorem yw {i j:Int} (ha:DE X ρ a (.int i)) (hb:DE X ρ b (.int j)):DT X ρ (.Compare a [.NotEq] [b] pos) (!decide (i=j)):=by
 have:=bP (pos:=pos) sF (tj (K:=X.K) (da:=.int i) (db:=.int j) rfl rfl rfl) ha hb (aL _)
 simpa using this
theorem yS {i:Int} (ha:DE X ρ a (.int i)):DE X ρ (.UnaryOp .USub a pos) (.int (-i)):=
 PE.weak (zT vX ha) fun σ H Q ⟨S,ve,k⟩=>⟨S,ve,fun v H' e r=>⟨i,r.aS,k _ H' e (.int _)⟩⟩
theorem xK {op} (h:DE X ρ a d):DE X ρ (.BoolOp op [a] pos) d:=xh h
theorem om {p q:Bool} {rest:List Expr} (ha:DE X ρ a (.bl p)) (hb:p=true->DE X ρ (.BoolOp .And (b::rest) pos) (.bl q)):DE X ρ (.BoolOp .And (a::b::rest) pos) (.bl (p&&q)):=by
 cases p with
 |true=>exact PE.weak (pO ha (hb rfl)) fun σ H Q ⟨S,ve,k⟩=>⟨S,ve,fun v H' e r=>⟨true,r.blV,by refine fR ?_;exact ⟨S,ve.ext e,fun v' H'' e' r'=>k v' H'' (e.trans e') r'⟩⟩⟩
 |false=>
  have hn:PE X (.BoolOp .And (b::rest) pos) (fun _ _ _=>False):=fun _ _ _ _ _ _ z=>z.elim
  exact PE.weak (pO ha hn) fun σ H Q ⟨S,ve,k⟩=>⟨S,ve,fun v H' e r=>⟨false,r.blV,by refine gk ?_;exact k _ H' e (.bl _)⟩⟩
theorem sL {p q:Bool} {rest:List Expr} (ha:DE X ρ a (.bl p)) (hb:p=false->DE X ρ (.BoolOp .Or (b::rest) pos) (.bl q)):DE X ρ (.BoolOp .Or (a::b::rest) pos) (.bl (p||q)):=by
 cases p with
 |false=>exact PE.weak (tq ha (hb rfl)) fun σ H Q ⟨S,ve,k⟩=>⟨S,ve,fun v H' e r=>⟨false,r.blV,by refine gk ?_;exact ⟨S,ve.ext e,fun v' H'' e' r'=>k v' H'' (e.trans e') r'⟩⟩⟩
 |true=>
  have hn:PE X (.BoolOp .Or (b::rest) pos) (fun _ _ _=>False):=fun _ _ _ _ _ _ z=>z.elim
  exact PE.weak (tq ha hn) fun σ H Q ⟨S,ve,k⟩=>⟨S,ve,fun v H' e r=>⟨true,r.blV,by refine fR ?_;exact k _ H' e (.bl _)⟩⟩
theorem xg {p:Bool} (ha:DE X ρ a (.bl p)):DE X ρ (.UnaryOp .Not a pos) (.bl (!p)):=PE.weak (yM ha) fun σ H Q ⟨S,ve,k⟩=>⟨S,ve,fun v H' e r=>⟨p,r.blV,k _ H' e (.bl _)⟩⟩
theorem yW {p:Bool} (ha:DT X ρ a p):DT X ρ (.UnaryOp .Not a pos) (!p):=PT.weak (v7 ha) fun σ H Q ⟨S,ve,k⟩=>⟨S,ve,fun H' e=>k H' e⟩
theorem DW.dt {p:Bool} (h:DW X ρ e p):DT X ρ e p:=PW.pt h
theorem uF {p:Bool} (ha:DT X ρ a p):DW X ρ (.BoolOp .And [a] pos) p:=vh ha
theorem wg {p:Bool} (ha:DT X ρ a p):DW X ρ (.BoolOp .Or [a] pos) p:=xn ha
theorem oV {p q:Bool} {rest:List Expr} (ha:DT X ρ a p) (hb:p=true->DW X ρ (.BoolOp .And (b::rest) pos) q):DW X ρ (.BoolOp .And (a::b::rest) pos) (p&&q):=by
 cases p with
 |true=>exact PW.weak (qj ha (hb rfl)) fun σ H Q ⟨S,ve,k⟩=>⟨S,ve,fun H' e=>by refine fR ?_;exact ⟨S,ve.ext e,fun H'' e'=>k H'' (e.trans e')⟩⟩
 |false=>
  have hn:PW X (.BoolOp .And (b::rest) pos) (fun _ _ _=>False):=fun _ _ _ _ _ _ _ z=>z.elim
  exact PW.weak (qj ha hn) fun σ H Q ⟨S,ve,k⟩=>⟨S,ve,fun H' e=>by refine gk ?_;exact k H' e⟩
theorem sS {p q:Bool} {rest:List Expr} (ha:DT X ρ a p) (hb:p=false->DW X ρ (.BoolOp .Or (b::rest) pos) q):DW X ρ (.BoolOp .Or (a::b::rest) pos) (p||q):=by
 cases p with
 |false=>exact PW.weak (so ha (hb rfl)) fun σ H Q ⟨S,ve,k⟩=>⟨S,ve,fun H' e=>by refine gk ?_;exact ⟨S,ve.ext e,fun H'' e'=>k H'' (e.trans e')⟩⟩
 |true=>
  have hn:PW X (.BoolOp .Or (b::rest) pos) (fun _ _ _=>False):=fun _ _ _ _ _ _ _ z=>z.elim
  exact PW.weak (so ha hn) fun σ H Q ⟨S,ve,k⟩=>⟨S,ve,fun H' e=>by refine fR ?_;exact k H' e⟩
variable {es:List Expr} {ds:List D}
theorem kN:DA X ρ [] []:=PA.weak o4 fun σ H Q ⟨S,ve,k⟩=>k [] H Ext.refl .nil
theorem fb (ha:DE X ρ e d) (hr:DA X ρ es ds) (hs:starEach (e::es) X.env=(false,eval e X.env)::starEach es X.env:=by rfl):DA X ρ (e::es) (d::ds):=
 PA.weak (mI ha hr hs) fun σ H Q ⟨S,ve,k⟩=>⟨S,ve,fun v H' e r=>⟨S,ve.ext e,fun vs H'' e' rs=>k (v::vs) H'' (e.trans e') (.cons (r.ext (e'.to S)) rs)⟩⟩
theorem oE {j} (h:DA X ρ es ds) (hl:ds.length<=sizeLine):DE X ρ (.Tuple es j pos) (.tup ds):=
 PE.weak (yN h) fun σ H Q ⟨S,ve,k⟩=>⟨S,ve,fun vs H' e rs=>⟨by rw [←rs.length];exact hl,fun p hp=>k _ _ (e.trans (Ext.new hp)) (Rds.eJ (ve.ext e).dom hp rs)⟩⟩
theorem n8 (h:DA X ρ es ds) (hl:ds.length<=sizeLine):DE X ρ (.List es pos) (.lst ds):=
 PE.weak (qi h) fun σ H Q ⟨S,ve,k⟩=>⟨S,ve,fun vs H' e rs=>⟨by rw [←rs.length];exact hl,fun p hp=>k _ _ (e.trans (Ext.new hp)) (Rds.lF (ve.ext e).dom hp rs)⟩⟩
noncomputable def CD (K:PySem.W.Frag) (r:List V->Hp->VK->Prop) (ds:List D) (d:D):Prop:=∀(xs:List V) (H:Hp) (S:Ad) (Q:VK),af K H S ds xs->Dom H S->(∀v H',aD H H'->Rds K H' S d v->Q v H')->r xs H Q
theorem oX {r:List V->Hp->VK->Prop} (h:CD X.K r ds d) (σ:St) (H:Hp) (Q:VK) (q:tD X.K ρ d σ H Q):tCB r (tDA X.K ρ ds) σ H Q:=by
 obtain ⟨S,ve,k⟩:=q
 exact ⟨S,ve,fun vs H1 e1 rs=>h vs H1 S Q rs (ve.ext e1).dom fun v H' e3 r3=>k v H' (e1.trans e3) r3⟩
end
end CT
namespace CT
open PySem PySem.Spec L2
open PyProof.Rows hiding St
noncomputable def ItD (K:PySem.W.Frag) (S:Ad) (J:It) (its:List D) (H:Hp):Prop:=
 ∀(H':Hp) (S':Ad),Ext S H H'->(∀a,S' a->S a∨H a=none)->Dom H' S'->∀i:Nat,(∀d,its[i]?=some d->J.go i H'∧∀x H'',J.yld i H' x H''->aD H' H''∧Rds K H'' S' d x)∧(its.length<=i->J.stop i H')
noncomputable def tDI (K:PySem.W.Frag) (ρ:Rho) (its:List D):TI:=fun σ H R=>∃S,VE K H S ρ σ∧∀J H',aD H H'->ItD K S J its H'->R J H'
noncomputable def DI (X:Cx) (tg:Expr) (ρ:Rho) (iter:Expr) (its:List D):Prop:=PI X tg iter (tDI X.K ρ its)
noncomputable def sg (K:PySem.W.Frag) (S:Ad) (J:It) (its:List D) (H:Hp):Prop:=
 ∀H',aD H H'->Dom H' S->∀i:Nat,(∀d,its[i]?=some d->J.go i H'∧∀x H'',J.yld i H' x H''->aD H' H''∧Rds K H'' S d x)∧(its.length<=i->J.stop i H')
noncomputable def rS (K:PySem.W.Frag) (ρ:Rho) (its:List D):TI:=fun σ H R=>∃S,VE K H S ρ σ∧∀J H',aD H H'->sg K S J its H'->R J H'
noncomputable def DI0 (X:Cx) (tg:Expr) (ρ:Rho) (iter:Expr) (its:List D):Prop:=PI X tg iter (rS X.K ρ its)
section
variable {X:Cx} {tg e:Expr} {ρ:Rho} {pos:Pos}
theorem PI.weak {wi wi':TI} (h:PI X tg e wi) (w:∀σ H R,wi' σ H R->wi σ H R):PI X tg e wi':=fun pins s σ H R I q=>h pins s σ H R I (w σ H R q)
theorem DI.dI0 {its:List D} (h:DI X tg ρ e its):DI0 X tg ρ e its:=PI.weak h fun σ H R ⟨S,ve,k⟩=>⟨S,ve,fun J H' ex hJ=>k J H' ex fun H'' ex' dm i=>hJ H'' S (ex'.to S) (fun a h=>.inl h) dm i⟩
theorem af.later {K:PySem.W.Frag} {S S':Ad} {H H':Hp} {xs:List D} {vs:List V} (r:af K H S xs vs) (e:Ext S H H') (h:∀a,S' a->S a∨H a=none):af K H' S' xs vs:=
 ((r.av (S':=fun a=>S a∨S' a) fun a z=>z.elim .inl (h a)).ext fun a o n q=>e a o (fun z=>n (.inl z)) q).av fun a z=>.inl (.inr z)
theorem Rds.gy {K:PySem.W.Frag} {S:Ad} {H:Hp} {xs:List D} {v:V} (r:Rds K H S (.lst xs) v):∃a vs,v=.ref a∧∀(H':Hp) (S':Ad),Ext S H H'->(∀a,S' a->S a∨H a=none)->SqL K H' a vs∧af K H' S' xs vs:=by
 cases r with
 |lst h n r=>exact ⟨_,_,rfl,fun H' S' e z=>⟨.inl (CT.Rd.ext e n h),r.later e z⟩⟩
 |lstK h r=>exact ⟨_,_,rfl,fun H' S' e z=>⟨.inr h,r.later e z⟩⟩
theorem Rds.jN {K:PySem.W.Frag} {S:Ad} {H:Hp} {xs:List D} {v:V} (r:Rds K H S (.tup xs) v):∃a vs,v=.ref a∧∀(H':Hp) (S':Ad),Ext S H H'->(∀a,S' a->S a∨H a=none)->SqT K H' a vs∧af K H' S' xs vs:=by
 cases r with
 |tup h n r=>exact ⟨_,_,rfl,fun H' S' e z=>⟨.inl (.inl (e _ _ n h)),r.later e z⟩⟩
theorem uX {K:PySem.W.Frag} {S:Ad} {H:Hp} {xs:List D} {a:Addr} {vs:List V} (h:∀(H':Hp) (S':Ad),Ext S H H'->(∀a,S' a->S a∨H a=none)->SqL K H' a vs∧af K H' S' xs vs):ItD K S (Itl K a) xs H:=by
 intro H' S' e z dm i
 obtain ⟨sq,rl⟩:=h H' S' e z
 refine ⟨fun d hd=>?_,fun hi=>⟨vs,sq,by rw [←rl.length];exact hi⟩⟩
 obtain ⟨v,hv,r⟩:=rl.get hd
 refine ⟨⟨vs,v,sq,hv⟩,fun x H'' y=>?_⟩
 obtain ⟨e2,y⟩:=y
 subst e2
 have hx:=y vs sq
 rw [hv] at hx;cases hx
 exact ⟨Ext.refl,r⟩
theorem u6 {K:PySem.W.Frag} {S:Ad} {H:Hp} {xs:List D} {a:Addr} {vs:List V} (h:∀(H':Hp) (S':Ad),Ext S H H'->(∀a,S' a->S a∨H a=none)->SqT K H' a vs∧af K H' S' xs vs):ItD K S (Itt K a) xs H:=by
 intro H' S' e z dm i
 obtain ⟨sq,rl⟩:=h H' S' e z
 refine ⟨fun d hd=>?_,fun hi=>⟨vs,sq,by rw [←rl.length];exact hi⟩⟩
 obtain ⟨v,hv,r⟩:=rl.get hd
 refine ⟨⟨vs,v,sq,hv⟩,fun x H'' y=>?_⟩
 obtain ⟨e2,y⟩:=y
 subst e2
 have hx:=y vs sq
 rw [hv] at hx;cases hx
 exact ⟨Ext.refl,r⟩
theorem pR {xs:List D} (h:DE X ρ e (.lst xs)):DI X tg ρ e xs:=PI.weak (vc h) fun σ H R ⟨S,ve,k⟩=>⟨S,ve,fun v H' ex r=>by
 obtain ⟨a,vs,rfl,l⟩:=r.gy
 exact ⟨a,rfl,⟨vs,(l H' S Ext.refl fun a h=>.inl h).1⟩,k _ H' ex (uX l)⟩⟩
theorem oh {xs:List D} (h:DE X ρ e (.tup xs)):DI X tg ρ e xs:=PI.weak (v8 h) fun σ H R ⟨S,ve,k⟩=>⟨S,ve,fun v H' ex r=>by
 obtain ⟨a,vs,rfl,l⟩:=r.jN
 exact ⟨a,rfl,⟨vs,(l H' S Ext.refl fun a h=>.inl h).1⟩,k _ H' ex (u6 l)⟩⟩
noncomputable def iG (n:Nat):List D:=(List.range n).map fun k:Nat=>D.int (k:Int)
theorem tQ {K:PySem.W.Frag} {S:Ad} {H:Hp} {n:Nat}:ItD K S (Itr 0 n) (iG n) H:=by
 intro H' S' e z dm i
 refine ⟨fun d hd=>?_,fun hi=>show n<=i by simpa [iG] using hi⟩
 have hi:i<n:=by
  have:=(List.getElem?_eq_some_iff.mp hd).1
  simpa [iG] using this
 refine ⟨hi,fun x H'' y=>?_⟩
 obtain ⟨e2,e3⟩:=y
 subst e2 e3
 have hd':d=.int (i:Int):=by
  rw [iG,List.getElem?_map,List.getElem?_range hi] at hd
  exact (Option.some.inj hd).symm
 subst hd'
 rw [Int.zero_add]
 exact ⟨Ext.refl,.int _⟩
theorem rM {a:Expr} {j:Int} {p:Pos} (hg:Gl X "range") (hm:X.mg "range"=none) (ha:DA X ρ [a] [.int j]) (h1: -(2^62)<=j) (h2:j<2^62) (hs:starEach [a] X.env=[(false,eval a X.env)]:=by rfl):DI X tg ρ (.Call (.Name "range" p) [a] [] pos) (iG j.toNat):=
 PI.weak (oU hg hm ha hs) fun σ H R ⟨S,ve,k⟩=>⟨S,ve,fun vs H' ex rs=>by
  obtain ⟨v,rfl,r⟩:=rs.one
  rw [r.aS]
  exact ⟨j,rfl,h1,h2,k _ H' ex tQ⟩⟩
inductive Sq:D->List D->Prop
 |lst (xs:List D):Sq (.lst xs) xs
 |tup (xs:List D):Sq (.tup xs) xs
theorem Sq.later {K:PySem.W.Frag} {S:Ad} {H:Hp} {d:D} {xs:List D} {v:V} (q:Sq d xs) (r:Rds K H S d v):∃b a vs,v=.ref a∧∀(H':Hp) (S':Ad),Ext S H H'->(∀a,S' a->S a∨H a=none)->SqB K H' b a vs∧af K H' S' xs vs:=by
 cases q with
 |lst=>obtain ⟨a,vs,e,l⟩:=r.gy;exact ⟨false,a,vs,e,l⟩
 |tup=>obtain ⟨a,vs,e,l⟩:=r.jN;exact ⟨true,a,vs,e,l⟩
noncomputable def bY:List D->List D->List D
 |x::xs,y::ys=>.tup [x,y]::bY xs ys
 |_,_=>[]
theorem lU:∀{xs ys:List D} {i:Nat} {d:D},(bY xs ys)[i]?=some d->∃x y,xs[i]?=some x∧ys[i]?=some y∧d=.tup [x,y]
 |x::xs,y::ys,0,d,h=>by
  simp [bY] at h
  exact ⟨x,y,rfl,rfl,h.symm⟩
 |x::xs,y::ys,i+1,d,h=>by
  simp [bY] at h
  obtain ⟨x',y',h1,h2,h3⟩:=lU h
  exact ⟨x',y',by simpa using h1,by simpa using h2,h3⟩
 |[],_,_,_,h=>by simp [bY] at h
 |_::_,[],_,_,h=>by simp [bY] at h
theorem lC:∀{xs ys:List D},(bY xs ys).length=min xs.length ys.length
 |x::xs,y::ys=>by simp [bY,lC]
 |[],_=>by simp [bY]
 |_::_,[]=>by simp [bY]
theorem tO {a b:Expr} {da db:D} {xs ys:List D} {elts:List Expr} {k} {tpos p:Pos} (hg:Gl X "zip") (hm:X.mg "zip"=none) (qa:Sq da xs) (qb:Sq db ys) (ha:DA X ρ [a,b] [da,db])
  (hs:starEach [a,b] X.env=[(false,eval a X.env),(false,eval b X.env)]:=by rfl) (hs2:starEach [b] X.env=[(false,eval b X.env)]:=by rfl):DI X (.Tuple elts k tpos) ρ (.Call (.Name "zip" p) [a,b] [] pos) (bY xs ys):=
 PI.weak (uK hg hm ha hs hs2) fun σ H R ⟨S,ve,kk⟩=>⟨S,ve,fun vs H' ex rs=>by
  obtain ⟨v,u,rfl,r1,r2⟩:=rs.two
  obtain ⟨b1,a1,vs1,rfl,l1⟩:=qa.later r1
  obtain ⟨b2,a2,vs2,rfl,l2⟩:=qb.later r2
  refine ⟨b1,b2,a1,a2,vs1,vs2,rfl,(l1 H' S Ext.refl fun a h=>.inl h).1,(l2 H' S Ext.refl fun a h=>.inl h).1,kk _ H' ex fun H2 S2 e2 z2 dm i=>?_⟩
  obtain ⟨s1,t1⟩:=l1 H2 S2 e2 z2
  obtain ⟨s2,t2⟩:=l2 H2 S2 e2 z2
  refine ⟨fun d hd=>?_,fun hi=>⟨vs1,vs2,s1,s2,?_⟩⟩
  ·obtain ⟨x,y,hx,hy,rfl⟩:=lU hd
   obtain ⟨x',hx',rx⟩:=t1.get hx
   obtain ⟨y',hy',ry⟩:=t2.get hy
   refine ⟨⟨vs1,vs2,x',y',s1,s2,hx',hy'⟩,fun z H3 yl=>?_⟩
   obtain ⟨T,x2,y2,hT,rfl,rfl,g1,g2⟩:=yl
   have e1:=g1 vs1 s1
   have e2':=g2 vs2 s2
   rw [hx'] at e1;cases e1
   rw [hy'] at e2';cases e2'
   exact ⟨Ext.new hT,Rds.eJ dm hT (.cons rx (.cons ry .nil))⟩
  ·have h1:=t1.length
   have h2:=t2.length
   rw [lC] at hi
   omega⟩
end
noncomputable def Chg (ks:List Nat) (σ σ':St):Prop:=σ'.length=σ.length∧∀i:Nat,i∉ks->σ'[i]?=σ[i]?
theorem Chg.fgt {ks:List Nat} {σ σ':St} (c:Chg ks σ σ') (h:∀k∈ks,σ[k]?=some none):Fgt σ σ':=⟨c.1.symm,fun i v e=>by
 by_cases hi:i∈ks
 ·rw [h i hi] at e;cases e
 ·rw [c.2 i hi];exact e⟩
theorem Chg.trans {ks ls:List Nat} {σ σ' σ'':St} (a:Chg ks σ σ') (b:Chg ls σ' σ''):Chg (ks++ls) σ σ'':=⟨b.1.trans a.1,fun i hi=>by
 rw [List.mem_append,not_or] at hi
 exact (b.2 i hi.2).trans (a.2 i hi.1)⟩
noncomputable def tDG (K:PySem.W.Frag) (ρ:Rho) (d:D) (ρ':Rho) (ks:List Nat):TG:=fun v σ H Q=>∃S,VE K H S ρ σ∧Rds K H S d v∧∀σ',VE K H S ρ' σ'->Chg ks σ σ'->Q σ' H
noncomputable def AL (K:PySem.W.Frag) (ρ:Rho) (ds:List D) (ρ':Rho) (ks:List Nat):TGs:=fun vs σ H Q=>∃S,VE K H S ρ σ∧af K H S ds vs∧∀σ',VE K H S ρ' σ'->Chg ks σ σ'->Q σ' H
noncomputable def DG (X:Cx) (tg:Expr) (ρ:Rho) (d:D) (ρ':Rho) (ks:List Nat):Prop:=PG X tg (tDG X.K ρ d ρ' ks)
noncomputable def DGs (X:Cx) (tgs:List Expr) (ρ:Rho) (ds:List D) (ρ':Rho) (ks:List Nat):Prop:=PGs X tgs (AL X.K ρ ds ρ' ks)
section
variable {X:Cx} {ρ ρ' ρ'':Rho} {d:D} {ds:List D} {ks ls:List Nat} {pos:Pos} {tg:Expr} {tgs:List Expr}
theorem PG.weak {g g':TG} (h:PG X tg g) (w:∀v σ H Q,g' v σ H Q->g v σ H Q):PG X tg g':=fun pins s σ H v u Q I r q=>h pins s σ H v u Q I r (w v σ H Q q)
theorem PGs.weak {g g':TGs} (h:PGs X tgs g) (w:∀v σ H Q,g' v σ H Q->g v σ H Q):PGs X tgs g':=fun pins s σ H v u Q I r q=>h pins s σ H v u Q I r (w v σ H Q q)
theorem ub {k:Nat} {x:Str} (hN:X.N.Nodup) (hi:X.N[k]?=some x) (hx:Loc X.env.scope x) (hf:X.fn x=true∨X.env.scope.names.lookup x=some .local:=by first|exact .inl rfl|exact .inr rfl|assumption):DG X (.Name x pos) ρ d (ρ.set k (.val d)) [k]:=
 PG.weak (vH hN hi hx hf) fun v σ H Q ⟨S,ve,r,q⟩=>q _ (ve.set r) ⟨by simp,fun i hi=>by
  rw [List.getElem?_set_ne]
  intro z;exact hi (by simp [z])⟩
theorem tJ:DGs X [] ρ [] ρ []:=PGs.weak uW fun vs σ H Q ⟨S,ve,r,q⟩=>⟨by cases r;rfl,q σ ve ⟨rfl,fun _ _=>rfl⟩⟩
theorem qB (h1:DG X tg ρ d ρ' ks) (h2:DGs X tgs ρ' ds ρ'' ls) (hs:(assignEach (tg::tgs) X.env).map (·.2)=assign tg X.env::(assignEach tgs X.env).map (·.2):=by rfl):DGs X (tg::tgs) ρ (d::ds) ρ'' (ks++ls):=
 PGs.weak (qR h1 h2 hs) fun vs σ H Q ⟨S,ve,r,q⟩=>by
  cases r with
  |cons r1 r2=>exact ⟨_,_,rfl,S,ve,r1,fun σ' ve' c=>⟨S,ve',r2,fun σ'' ve'' c'=>q σ'' ve'' (c.trans c')⟩⟩
theorem wV {k} {n:Nat} (hc:X.calm=true) (h:DGs X tgs ρ ds ρ' ks) (hl:ds.length=n) (hn:(assignEach tgs X.env).length=n:=by rfl) (hst:(assignEach tgs X.env).findIdx? (·.1)=none:=by rfl):DG X (.Tuple tgs k pos) ρ (.tup ds) ρ' ks:=
 PG.weak (w5 hc h hn hst) fun v σ H Q ⟨S,ve,r,q⟩=>by
  obtain ⟨a,vs,rfl,ha,rl⟩:=r.cg
  exact ⟨a,vs,rfl,.inl (.inl ha),by rw [←rl.length];exact hl,S,ve,rl,q⟩
end
noncomputable def tDB (K:PySem.W.Frag) (ρ:Rho) (out:List D):TB:=fun σ H ys Q=>∃S,VE K H S ρ σ∧ys.length+out.length<=sizeLine∧∀vs H',aD H H'->af K H' S out vs->Q (ys++vs) H'
noncomputable def DB (Y:Cx) (acc:Addr) (m:Sem Unit) (ρ:Rho) (out:List D):Prop:=PB Y acc m (tDB Y.K ρ out)
noncomputable def DTs (Y:Cx) (ρ:Rho) (ifs:List Expr) (b:Bool):Prop:=PTs Y ifs (tDT Y.K ρ b)
theorem PB.weak {Y:Cx} {acc:Addr} {m:Sem Unit} {t t':TB} (h:PB Y acc m t) (w:∀σ H ys Q,t' σ H ys Q->t σ H ys Q):PB Y acc m t':=fun pins s σ H ys Q I f a q=>h pins s σ H ys Q I f a (w σ H ys Q q)
theorem PTs.weak {Y:Cx} {ifs:List Expr} {t t':TT} (h:PTs Y ifs t) (w:∀σ H Q,t' σ H Q->t σ H Q):PTs Y ifs t':=fun pins s σ H Q I q=>h pins s σ H Q I (w σ H Q q)
section
variable {Y:Cx} {acc:Addr} {ρ:Rho} {d:D}
theorem uV:DTs Y ρ [] true:=PTs.weak jl fun σ H Q ⟨S,ve,k⟩=>k H Ext.refl
theorem vk {c:Expr} {b:Bool} (h:DT Y ρ c b):DTs Y ρ [c] b:=vy h
theorem tI {elt:Expr} (he:DE Y ρ elt d):DB Y acc (do let _←call (.builtin "list.append") [.ref acc,←eval elt Y.env]) ρ [d]:=
 PB.weak (vF he) fun σ H ys Q ⟨S,ve,hl,k⟩=>⟨Nat.le_trans (Nat.le_add_right _ _) hl,S,ve,fun v H' e r=>k [v] H' e (.cons r .nil)⟩
noncomputable def nQ (G:Rho->D->Rho->List Nat->Prop) (T:Rho->Bool->Prop) (B:Rho->List D->Prop) (ρ:Rho) (ks:List Nat) (d:D) (out:List D):Prop:=
 ∃ρ' b,G ρ d ρ' ks∧T ρ' b∧(b=true->B ρ' out)∧(b=false->out=[])
noncomputable def gA (K:PySem.W.Frag) (G:Rho->D->Rho->List Nat->Prop):TG:=fun v σ H Q=>∃ρ d ρ' ks,G ρ d ρ' ks∧tDG K ρ d ρ' ks v σ H Q
noncomputable def ttA (K:PySem.W.Frag) (T:Rho->Bool->Prop):TT:=fun σ H Q=>∃ρ b,T ρ b∧tDT K ρ b σ H Q
noncomputable def tbA (K:PySem.W.Frag) (B:Rho->List D->Prop):TB:=fun σ H ys Q=>∃ρ out,B ρ out∧tDB K ρ out σ H ys Q
theorem nG {tg:Expr} {G:Rho->D->Rho->List Nat->Prop} (h:∀ρ d ρ' ks,G ρ d ρ' ks->DG Y tg ρ d ρ' ks):PG Y tg (gA Y.K G):=fun pins s σ H v u Q I r ⟨_,_,_,_,g,q⟩=>h _ _ _ _ g pins s σ H v u Q I r q
theorem sR {ifs:List Expr} {T:Rho->Bool->Prop} (h:∀ρ b,T ρ b->DTs Y ρ ifs b):PTs Y ifs (ttA Y.K T):=fun pins s σ H Q I ⟨_,_,g,q⟩=>h _ _ g pins s σ H Q I q
theorem wM {m:Sem Unit} {B:Rho->List D->Prop} (h:∀ρ out,B ρ out->DB Y acc m ρ out):PB Y acc m (tbA Y.K B):=fun pins s σ H ys Q I f a ⟨_,_,g,q⟩=>h _ _ g pins s σ H ys Q I f a q
theorem lr {outs:List (List D)} {i:Nat} (h:i<outs.length):(outs.take (i+1)).flatten=(outs.take i).flatten++outs[i]:=by
 rw [List.take_succ_eq_append_getElem h,List.flatten_append]
 simp
theorem pY {K:PySem.W.Frag} {G:Rho->D->Rho->List Nat->Prop} {T:Rho->Bool->Prop} {B:Rho->List D->Prop} {ks:List Nat} {J:It} {its:List D} {outs:List (List D)} (hks:∀k∈ks,ρ[k]?=some .nil) (hl:its.length=outs.length)
  (ht:∀(i:Nat) d out,its[i]?=some d->outs[i]?=some out->nQ G T B ρ ks d out) {σ:St} {H:Hp} {S:Ad} {ys:List V} {Q:List V->Hp->Prop} (ve:VE K H S ρ σ) (hJ:sg K S J its H) (hz:ys.length+outs.flatten.length<=sizeLine)
  (q:∀vs H',aD H H'->af K H' S outs.flatten vs->Q (ys++vs) H'):fZ (gA K G) (ttA K T) (tbA K B) J σ H ys Q:=by
 refine ⟨fun i n ys' H'=>n=its.length - i∧i<=its.length∧aD H H'∧∃vs,ys'=ys++vs∧af K H' S (outs.take i).flatten vs,⟨its.length,by simp,Nat.zero_le _,Ext.refl,[],by simp,by simpa using af.nil⟩,?_⟩
 rintro i n ys' H' ⟨rfl,hi,ex,vs,rfl,rv⟩
 have dm:=(ve.ext ex).dom
 obtain ⟨J1,J2⟩:=hJ H' ex dm i
 by_cases hlt:i<its.length
 ·have hlo:i<outs.length:=hl▸hlt
  have hd:its[i]?=some its[i]:=by simp [hlt]
  have ho:outs[i]?=some outs[i]:=by simp [hlo]
  obtain ⟨go,yld⟩:=J1 _ hd
  obtain ⟨ρ',b,hg,hts,hb1,hb2⟩:=ht i _ _ hd ho
  have step:=lr hlo
  have lenO:(outs.take i).flatten.length+outs[i].length<=outs.flatten.length:=by
   have e:outs.flatten=(outs.take (i+1)).flatten++(outs.drop (i+1)).flatten:=by rw [←List.flatten_append,List.take_append_drop]
   rw [e,step,List.length_append,List.length_append]
   omega
  refine .inr ⟨go,fun x H1 y=>?_⟩
  obtain ⟨e1,r1⟩:=yld x H1 y
  have ve1:=(ve.ext ex).ext e1
  refine ⟨ρ,its[i],ρ',ks,hg,S,ve1,r1,fun σ2 ve2 c=>⟨c.fgt fun k hk=>ve.unset (hks k hk),ρ',b,hts,S,ve2,fun H2 e2=>?_⟩⟩
  cases b with
  |true=>
   refine fR ⟨ρ',_,hb1 rfl,S,ve2.ext e2,?_,fun us H3 e3 ru=>⟨its.length - (i+1),by omega,rfl,hlt,ex.trans (e1.trans (e2.trans e3)),vs++us,by rw [List.append_assoc],?_⟩⟩
   ·rw [List.length_append,←rv.length]
    omega
   ·rw [step]
    exact af.app (rv.ext ((e1.trans (e2.trans e3)).to S)) ru
  |false=>
   refine gk ⟨its.length - (i+1),by omega,rfl,hlt,ex.trans (e1.trans e2),vs,rfl,?_⟩
   rw [step,hb2 rfl,List.append_nil]
   exact rv.ext ((e1.trans e2).to S)
 ·have e:i=its.length:=by omega
  subst e
  refine .inl ⟨J2 (Nat.le_refl _),q vs H' ex ?_⟩
  rw [hl,List.take_length] at rv
  exact rv
theorem vq {elt:Expr} {gens:List Comprehension} {scope:Scope} {pos:Pos} {n:Nat} {tg iter:Expr} {ifs:List Expr} {ks:List Nat} {its:List D} {outs:List (List D)} (hg:gens[n+1]?=some ⟨tg,iter,ifs,0⟩) (hc:Y.calm=true) (hx:∀e s,Y.xe e s->False)
  (hi:DI0 Y tg ρ iter its) (hks:∀k∈ks,ρ[k]?=some .nil) (hl:its.length=outs.length)
  (ht:∀(i:Nat) d out,its[i]?=some d->outs[i]?=some out->nQ (DG Y tg) (fun ρ b=>DTs Y ρ ifs b) (DB Y acc (aR elt gens scope pos (n+1) (.ref acc) Y.env)) ρ ks d out)
  (hs:∀x,foldedSetIterable iter Y.env x=pure x:=by intro _;rfl):DB Y acc (aR elt gens scope pos n (.ref acc) Y.env) ρ outs.flatten:=
 PB.weak (vD hg hc hx hi (nG fun _ _ _ _ h=>h) (sR fun _ _ h=>h) (wM fun _ _ h=>h) hs) fun σ H ys Q ⟨S,ve,hz,k⟩=>⟨S,ve,fun J H' e hJ=>pY hks hl ht (ve.ext e) hJ hz fun vs H'' e' r=>k vs H'' (e.trans e') r⟩
end
noncomputable def bZ:Option Sl->Sl
 |some (.val d)=>.val d
 |some .nil=>.nil
 |_=>.any
noncomputable def cR (own:List Str) (cap:List (Str×Nat)) (ρ:Rho):Rho:=own.map (fun _=>.nil)++cap.map fun p=>bZ ρ[p.2]?
theorem qZ {o:Option Sl}:¬(bZ o).dj:=by
 unfold bZ
 split<;>exact fun h=>h
theorem VE.cap {K:PySem.W.Frag} {H:Hp} {S:Ad} {ρ:Rho} {σ:St} {own:List Str} {cap:List (Str×Nat)} (ve:VE K H S ρ σ):VE K H S (cR own cap ρ) (cS own cap σ):=by
 have nown:∀(i:Nat) (x:Sl),(cR own cap ρ)[i]?=some x->¬x.dj:=fun i x h o=>by
  have hm:=List.mem_of_getElem? h
  unfold cR at hm
  rcases List.mem_append.mp hm with hm|hm
  ·obtain ⟨y,_,e⟩:=List.mem_map.mp hm;rw [←e] at o;exact o
  ·obtain ⟨p,_,e⟩:=List.mem_map.mp hm;rw [←e] at o;exact qZ o
 refine ⟨by simp [cR,cS],fun i x h=>?_,fun i j x y a _ h _ o=>absurd o (nown i x h),ve.dom⟩
 unfold cR at h
 unfold cS
 by_cases hi:i<own.length
 ·rw [List.getElem?_append_left (by simpa using hi),List.getElem?_map] at h
  rw [List.getElem?_append_left (by simpa using hi),List.getElem?_map]
  cases hq:own[i]? with
  |none=>rw [hq] at h;cases h
  |some y=>rw [hq] at h;cases h;exact ⟨none,rfl,rfl⟩
 ·have hi':own.length<=i:=Nat.le_of_not_lt hi
  rw [List.getElem?_append_right (by simpa using hi'),List.getElem?_map,List.length_map] at h
  rw [List.getElem?_append_right (by simpa using hi'),List.getElem?_map,List.length_map]
  cases hq:cap[i - own.length]? with
  |none=>rw [hq] at h;cases h
  |some p=>
   rw [hq] at h
   have e:bZ ρ[p.2]?=x:=Option.some.inj h
   refine ⟨_,rfl,?_⟩
   subst e
   cases hr:ρ[p.2]? with
   |none=>trivial
   |some y=>
    cases y with
    |nil=>show (σ[p.2]?).join=none;rw [ve.unset hr];rfl
    |any=>trivial
    |owx xs=>trivial
    |new C x dx fs=>trivial
    |val d=>
     obtain ⟨u,hu,r⟩:=ve.get hr
     exact ⟨u,by show (σ[p.2]?).join=some u;rw [hu];rfl,r⟩
section
variable {X:Cx} {scope:Scope} {own:List Str} {cap:List (Str×Nat)} {ρ:Rho} {elt tg iter:Expr} {ifs:List Expr} {rest:List Comprehension} {pos:Pos} {ks:List Nat} {its:List D} {outs:List (List D)}
structure DC (X:Cx) (ρ:Rho) (e:Expr) (ds:List D):Prop where
 pe:PE X e (fun σ H Q=>∃S,VE X.K H S ρ σ∧∀a vs H',aD H H'->H' a=none->af X.K H' S ds vs->Q (.ref a) (upd H' a (.lst vs)))
 ps:∀(i:Nat) (x:Str) (pos' spos:Pos),X.N.Nodup->X.N[i]?=some x->Loc X.env.scope x->(X.fn x=true∨X.env.scope.names.lookup x=some .local)->swapsWith e (some (.Name x pos')) spos.line X.env=pure true->
  PS X (.Assign [.Name x pos'] e spos) (jx (fun σ H Q=>∃S,VE X.K H S ρ σ∧∀a vs H',aD H H'->H' a=none->af X.K H' S ds vs->Q (.ref a) (upd H' a (.lst vs))) (dZ i))
theorem um (cs:CS X scope own cap) (hc:X.calm=true) (hi:DI0 X tg ρ iter its) (hks:∀k∈ks,(cR own cap ρ)[k]?=some .nil) (hl:its.length=outs.length) (hz:outs.flatten.length<=sizeLine)
  (ht:∀(i:Nat) d out,its[i]?=some d->outs[i]?=some out->nQ (fun ρ d ρ' ks=>∀p s h f,DG (cX X scope own cap p s h f) tg ρ d ρ' ks) (fun ρ b=>∀p s h f,DTs (cX X scope own cap p s h f) ρ ifs b)
   (fun ρ out=>∀p s h f acc,DB (cX X scope own cap p s h f) acc (aR elt (⟨tg,iter,ifs,0⟩::rest) scope pos 0 (.ref acc) (bE X scope s.heap.objs.size)) ρ out) (cR own cap ρ) ks d out)
  (hs:∀x,foldedSetIterable iter X.env x=pure x:=by intro _;rfl):DC X ρ (.ListComp elt (⟨tg,iter,ifs,0⟩::rest) scope pos) outs.flatten:=by
 have rd:∀(σ:St) (H:Hp) (Q:VK),(∃S,VE X.K H S ρ σ∧∀a vs H',aD H H'->H' a=none->af X.K H' S outs.flatten vs->Q (.ref a) (upd H' a (.lst vs)))->
   mY own cap (rS X.K ρ its) (gA X.K _) (ttA X.K _) (tbA X.K _) σ H Q:=fun σ H Q ⟨S,ve,k⟩=>⟨S,ve,fun J H1 e1 hJ=>pY hks hl ht (ve.ext e1).cap hJ (by simpa using hz) fun vs H2 e2 r=>⟨by rw [List.nil_append,←r.length];exact hz,fun a ha=>by
  rw [List.nil_append];exact k a vs H2 (e1.trans e2) ha r⟩⟩
 have g1:∀p s h f,PG (cX X scope own cap p s h f) tg (gA X.K (fun ρ d ρ' ks=>∀p s h f,DG (cX X scope own cap p s h f) tg ρ d ρ' ks)):=fun p s h f=>nG (Y:=cX X scope own cap p s h f) fun _ _ _ _ g=>g p s h f
 have g2:∀p s h f,PTs (cX X scope own cap p s h f) ifs (ttA X.K (fun ρ b=>∀p s h f,DTs (cX X scope own cap p s h f) ρ ifs b)):=fun p s h f=>sR (Y:=cX X scope own cap p s h f) fun _ _ g=>g p s h f
 have g3:∀p s h f acc,PB (cX X scope own cap p s h f) acc (aR elt (⟨tg,iter,ifs,0⟩::rest) scope pos 0 (.ref acc) (bE X scope s.heap.objs.size)) (tbA X.K (fun ρ out=>∀p s h f acc,DB (cX X scope own cap p s h f) acc (aR elt (⟨tg,iter,ifs,0⟩::rest) scope pos 0 (.ref acc) (bE X scope s.heap.objs.size)) ρ out)):=
  fun p s h f acc=>wM (Y:=cX X scope own cap p s h f) fun _ _ g=>g p s h f acc
 refine ⟨PE.weak (uN cs hc hi g1 g2 g3 hs) rd,fun i x pos' spos hN hix hx hf hsw=>PS.weak (ue cs hc hN hix hx hi g1 g2 g3 hsw hs hf) fun D σ H q=>rd σ H _ q⟩
theorem DC.de {e:Expr} {ds:List D} (h:DC X ρ e ds):DE X ρ e (.lst ds):=PE.weak h.pe fun σ H Q ⟨S,ve,k⟩=>⟨S,ve,fun a vs H' e hp r=>k _ _ (e.trans (Ext.new hp)) (Rds.lF (ve.ext e).dom hp r)⟩
theorem xQ {α β:Type} {l:List α} {g:α->β} {i:Nat} {b:β} (h:(l.map g)[i]?=some b):∃a,l[i]?=some a∧g a=b:=by
 rw [List.getElem?_map] at h
 cases e:l[i]? with
 |none=>rw [e] at h;cases h
 |some a=>rw [e] at h;exact ⟨a,rfl,Option.some.inj h⟩
variable {α:Type} {l:List α} {f g:α->D} {x:Str} {k:Nat} {px:Pos}
end
end CT
namespace CT
open PySem PySem.Spec L2
open PyProof.Rows hiding St
inductive Out where
 |nx (ρ:Rho)|rt (d:D)|rfx (c:Ow)
noncomputable abbrev Ad.and (S:Ad) (a:Addr):Ad:=fun b=>S b∨b=a
structure Fm (K:PySem.W.Frag) (H₀:Hp) (S₀:Ad) (H:Hp) (S:Ad) (ρ:Rho) (σ:St):Prop where
 ve:VE K H S ρ σ
 ext:aD H₀ H
 sub:∀a,S₀ a->S a
 new:∀a,S a->S₀ a∨H₀ a=none
 dm:Dom H₀ S₀
 own:∀(i:Nat) (x:Sl) (a:Addr),ρ[i]?=some x->x.dj->σ[i]?=some (some (.ref a))->H₀ a=none
noncomputable def nL (K:PySem.W.Frag) (H₀:Hp) (S₀:Ad) (E:Ends):Out->Prop
 |.nx ρ'=>∀σ' H' S',Fm K H₀ S₀ H' S' ρ' σ'->E.nx σ' H'
 |.rt d=>∀v H',aD H₀ H'->Rds K H' S₀ d v->E.rt v H'
 |.rfx c=>∀a o H',aD H₀ H'->H₀ a=none->H' a=some o->cy K H' (S₀.and a) a c o->E.rt (.ref a) H'
noncomputable def tDS (K:PySem.W.Frag) (ρ:Rho) (o:Out):TS:=fun E σ H=>∃H₀ S₀ S,Fm K H₀ S₀ H S ρ σ∧nL K H₀ S₀ E o
noncomputable def DS (X:Cx) (ρ:Rho) (st:Stmt) (o:Out):Prop:=PS X st (tDS X.K ρ o)
noncomputable def DSs (X:Cx) (ρ:Rho) (sts:List Stmt) (o:Out):Prop:=PSs X sts (tDS X.K ρ o)
noncomputable def tDF (K:PySem.W.Frag) (ρ:Rho) (xs:List D):TE:=fun σ H Q=>∃S,VE K H S ρ σ∧∀a vs H',aD H H'->H a=none->H' a=some (.lst vs)->af K H' (S.and a) xs vs->Q (.ref a) H'
noncomputable def DF (X:Cx) (ρ:Rho) (e:Expr) (xs:List D):Prop:=PE X e (tDF X.K ρ xs)
noncomputable def lQ (K:PySem.W.Frag) (ρ:Rho) (c:Ow):TE:=fun σ H Q=>∃S,VE K H S ρ σ∧∀a o H',aD H H'->H a=none->H' a=some o->cy K H' (S.and a) a c o->Q (.ref a) H'
noncomputable def DFx (X:Cx) (ρ:Rho) (e:Expr) (c:Ow):Prop:=PE X e (lQ X.K ρ c)
section
variable {K:PySem.W.Frag} {H₀ H H':Hp} {S₀ S:Ad} {ρ:Rho} {σ:St}
theorem Ext.back {a:Addr} (e:aD H H') (h:H' a=none):H a=none:=by
 cases q:H a with
 |none=>rfl
 |some o=>rw [e a o (fun z=>z) q] at h;cases h
theorem Fm.grow (f:Fm K H₀ S₀ H S ρ σ) (e:aD H H'):Fm K H₀ S₀ H' S ρ σ:=⟨f.ve.ext e,f.ext.trans e,f.sub,f.new,f.dm,f.own⟩
theorem Fm.set {i:Nat} {d:D} {u:V} (f:Fm K H₀ S₀ H S ρ σ) (r:Rds K H S d u):Fm K H₀ S₀ H S (ρ.set i (.val d)) (σ.set i (some u)):=⟨f.ve.set r,f.ext,f.sub,f.new,f.dm,fun j x a h o h2=>by
 by_cases hj:i=j
 ·subst hj
  have hi:=(List.getElem?_eq_some_iff.mp h).1
  rw [List.getElem?_set_self (by simpa using hi)] at h;cases h;exact o.elim
 ·rw [List.getElem?_set_ne hj] at h h2
  exact f.own j x a h o h2⟩
theorem Fm.out (f:Fm K H₀ S₀ H S ρ σ) {d:D} {v:V} (r:Rds K H S d v):Rds K H S₀ d v:=r.av fun a h=>.inl (f.sub a h)
theorem RO.av {S':Ad} {x:Sl} {v:Option V} (e:∀a,S' a->S a∨H a=none) (up:∀a,v=some (.ref a)->S a->S' a) (r:RO K H S x v):RO K H S' x v:=by
 cases x with
 |nil=>exact r
 |any=>trivial
 |val d=>obtain ⟨u,h,r⟩:=r;exact ⟨u,h,r.av e⟩
 |owx c=>obtain ⟨a,vs,h,s,o,r⟩:=r;exact ⟨a,vs,h,up a h s,o,r.av e⟩
 |new C x dx fs=>obtain ⟨gs,h,s,o,r⟩:=r;exact ⟨gs,h,up _ h s,o,r.av e⟩
theorem Fm.n9 {i:Nat} {c:Ow} {a:Addr} {ob:HO} (f:Fm K H₀ S₀ H S ρ σ) (e:aD H H') (hn:H a=none) (ha:H' a=some ob) (r:cy K H' (S.and a) a c ob):
  Fm K H₀ S₀ H' (S.and a) (ρ.set i (.owx c)) (σ.set i (some (.ref a))):=by
 have nS:∀b,S b->b≠a:=fun b h z=>f.ve.dom b h (by rw [z];exact hn)
 have up:∀(x:Sl) (v:Option V),RO K H S x v->RO K H' (S.and a) x v:=fun x v r=>(RO.av (S':=S.and a) (fun b h=>h.imp_right fun z=>by rw [z];exact hn) (fun b _ h=>.inl h) r).ext e
 refine ⟨⟨by simpa using f.ve.len,fun j x h=>?_,fun j k x y b hjk h1 h2 o1 o2 h3 h4=>?_,fun b h=>?_⟩,f.ext.trans e,fun b h=>.inl (f.sub b h),fun b h=>?_,f.dm,fun j x b h o h2=>?_⟩
 ·by_cases hj:i=j
  ·subst hj
   have hi:=(List.getElem?_eq_some_iff.mp h).1
   rw [List.getElem?_set_self (by simpa using hi)] at h
   cases h
   exact ⟨some (.ref a),List.getElem?_set_self (f.ve.len▸(by simpa using hi)),a,ob,rfl,.inr rfl,ha,r⟩
  ·rw [List.getElem?_set_ne hj] at h ⊢
   obtain ⟨v,h1,h2⟩:=f.ve.rel j x h
   exact ⟨v,h1,up x v h2⟩
 ·
  have own_ne:∀(m:Nat) (x:Sl) (c:Addr),ρ[m]?=some x->x.dj->σ[m]?=some (some (.ref c))->S c:=fun m x c hm ho hs=>by
   obtain ⟨v,q1,q2⟩:=f.ve.rel m x hm
   rw [hs] at q1;cases q1
   cases x with
   |owx c=>obtain ⟨a',_,z,s,_⟩:=q2;cases z;exact s
   |new C x dx fs=>obtain ⟨_,z,s,_⟩:=q2;cases z;exact s
   |nil=>exact ho.elim
   |any=>exact ho.elim
   |val d=>exact ho.elim
  by_cases hj:i=j
  ·subst hj
   have hi:=(List.getElem?_eq_some_iff.mp h1).1
   rw [List.getElem?_set_self (by rw [←f.ve.len];simpa using hi)] at h3
   cases h3
   rw [List.getElem?_set_ne hjk] at h2 h4
   exact nS _ (own_ne k y _ h2 o2 h4) rfl
  ·by_cases hk:i=k
   ·subst hk
    have hi:=(List.getElem?_eq_some_iff.mp h2).1
    rw [List.getElem?_set_self (by rw [←f.ve.len];simpa using hi)] at h4
    cases h4
    rw [List.getElem?_set_ne hj] at h1 h3
    exact nS _ (own_ne j x _ h1 o1 h3) rfl
   ·rw [List.getElem?_set_ne hj] at h1 h3
    rw [List.getElem?_set_ne hk] at h2 h4
    exact f.ve.dist j k x y b hjk h1 h2 o1 o2 h3 h4
 ·rcases h with h|h
  ·exact (f.ve.dom.ext e) b h
  ·rw [h,ha];intro z;cases z
 ·rcases h with h|h
  ·exact f.new b h
  ·rw [h];exact .inr (f.ext.back hn)
 ·by_cases hj:i=j
  ·subst hj
   have hi:=(List.getElem?_eq_some_iff.mp h).1
   rw [List.getElem?_set_self (by rw [←f.ve.len];simpa using hi)] at h2
   cases h2
   exact f.ext.back hn
  ·rw [List.getElem?_set_ne hj] at h h2
   exact f.own j x b h o h2
theorem Fm.oS {i:Nat} {c c':Ow} {a:Addr} {ob:HO} (f:Fm K H₀ S₀ H S ρ σ) (hr:ρ[i]?=some (.owx c)) (hs:σ[i]?=some (some (.ref a))) (r:cy K H S a c' ob):Fm K H₀ S₀ (upd H a ob) S (ρ.set i (.owx c')) σ:=by
 have hi:=(List.getElem?_eq_some_iff.mp hr).1
 obtain ⟨v,q1,a',vs,z,sa,ha,_⟩:=f.ve.rel i _ hr
 rw [hs] at q1;cases q1;cases z
 have e:Ext S H (upd H a ob):=Ext.set sa
 refine ⟨⟨by simpa using f.ve.len,fun j x h=>?_,fun j k x y b hjk h1 h2 o1 o2 h3=>?_,fun b h z=>?_⟩,fun b o n h=>?_,f.sub,f.new,f.dm,fun j x b h o h2=>?_⟩
 ·by_cases hj:i=j
  ·subst hj
   rw [List.getElem?_set_self hi] at h
   cases h
   exact ⟨_,hs,a,ob,rfl,sa,aH,r.ext e⟩
  ·rw [List.getElem?_set_ne hj] at h
   obtain ⟨v,h1,h2⟩:=f.ve.rel j x h
   refine ⟨v,h1,?_⟩
   cases x with
   |nil=>exact h2
   |any=>trivial
   |val d=>obtain ⟨u,p,r⟩:=h2;exact ⟨u,p,r.ext e⟩
   |owx c=>
    obtain ⟨b,ws,p,s,o,r⟩:=h2
    subst p
    have nb:b≠a:=fun z=>f.ve.dist i j _ _ a hj hr h trivial trivial hs (by rw [h1,z])
    exact ⟨b,ws,rfl,s,by rw [aj nb];exact o,r.ext e⟩
   |new C b dx fs=>
    obtain ⟨gs,p,s,o,r⟩:=h2
    subst p
    have nb:b≠a:=fun z=>f.ve.dist i j _ _ a hj hr h trivial trivial hs (by rw [h1,z])
    exact ⟨gs,rfl,s,by rw [aj nb];exact o,r.ext e⟩
 ·by_cases hj:i=j
  ·subst hj
   rw [List.getElem?_set_ne hjk] at h2
   exact f.ve.dist i k _ y b hjk hr h2 trivial o2 h3
  ·rw [List.getElem?_set_ne hj] at h1
   by_cases hk:i=k
   ·subst hk
    exact f.ve.dist j i x _ b hjk h1 hr o1 trivial h3
   ·rw [List.getElem?_set_ne hk] at h2
    exact f.ve.dist j k x y b hjk h1 h2 o1 o2 h3
 ·by_cases hb:b=a
  ·rw [hb,aH] at z;cases z
  ·rw [aj hb] at z;exact f.ve.dom b h z
 ·have nb:b≠a:=fun z=>by
   have:=f.own i _ a hr trivial hs
   rw [←z,h] at this;cases this
  rw [aj nb];exact f.ext b o n h
 ·by_cases hj:i=j
  ·subst hj
   exact f.own i _ b hr trivial h2
  ·rw [List.getElem?_set_ne hj] at h
   exact f.own j x b h o h2
theorem Fm.yd {i:Nat} {xs ys:List D} {a:Addr} {us:List V} (f:Fm K H₀ S₀ H S ρ σ) (hr:ρ[i]?=some (.own xs)) (hs:σ[i]?=some (some (.ref a))) (r:af K H S ys us):Fm K H₀ S₀ (upd H a (.lst us)) S (ρ.set i (.own ys)) σ:=f.oS (c':=.l ys) hr hs ⟨us,rfl,r⟩
noncomputable def putD (f:Str) (d:D):List (Str×D)->List (Str×D)
 |[]=>[(f,d)]
 |(g,x)::r=>if g=f then (g,d)::r else (g,x)::putD f d r
theorem aF.put {f:Str} {d:D} {v:V} (q:Rds K H S d v):∀{ds:List (Str×D)} {vs:List (Str×V)},aF K H S ds vs->aF K H S (putD f d ds) (bT f v vs)
 |[],_,.nil=>.cons q .nil
 |(n,x)::r,_,.cons q' t=>by
  unfold putD bT
  split
  ·exact .cons q t
  ·exact .cons q' (aF.put q t)
theorem aF.len:∀{ds:List (Str×D)} {vs:List (Str×V)},aF K H S ds vs->ds.length=vs.length
 |[],_,.nil=>rfl
 |_::_,_,.cons _ t=>by rw [List.length_cons,List.length_cons,aF.len t]
theorem Fm.xC {i:Nat} {C a dx:Addr} {fs hs:List (Str×D)} {us:List (Str×V)} (f:Fm K H₀ S₀ H S ρ σ) (hr:ρ[i]?=some (.new C a dx fs)) (r:aF K H S hs us):Fm K H₀ S₀ (upd H a (.ins C dx us)) S (ρ.set i (.new C a dx hs)) σ:=by
 have hi:=(List.getElem?_eq_some_iff.mp hr).1
 obtain ⟨v,hs',gs,z,sa,ha,_⟩:=f.ve.rel i _ hr
 subst z
 have e:Ext S H (upd H a (.ins C dx us)):=Ext.set sa
 refine ⟨⟨by simpa using f.ve.len,fun j x h=>?_,fun j k x y b hjk h1 h2 o1 o2 h3=>?_,fun b h z=>?_⟩,fun b o n h=>?_,f.sub,f.new,f.dm,fun j x b h o h2=>?_⟩
 ·by_cases hj:i=j
  ·subst hj
   rw [List.getElem?_set_self hi] at h
   cases h
   exact ⟨_,hs',us,rfl,sa,aH,r.ext e⟩
  ·rw [List.getElem?_set_ne hj] at h
   obtain ⟨v,h1,h2⟩:=f.ve.rel j x h
   refine ⟨v,h1,?_⟩
   cases x with
   |nil=>exact h2
   |any=>trivial
   |val d=>obtain ⟨u,p,r⟩:=h2;exact ⟨u,p,r.ext e⟩
   |owx c=>
    obtain ⟨b,ws,p,s,o,r⟩:=h2
    subst p
    have nb:b≠a:=fun z=>f.ve.dist i j _ _ a hj hr h trivial trivial hs' (by rw [h1,z])
    exact ⟨b,ws,rfl,s,by rw [aj nb];exact o,r.ext e⟩
   |new C b dx fs=>
    obtain ⟨gs,p,s,o,r⟩:=h2
    subst p
    have nb:b≠a:=fun z=>f.ve.dist i j _ _ a hj hr h trivial trivial hs' (by rw [h1,z])
    exact ⟨gs,rfl,s,by rw [aj nb];exact o,r.ext e⟩
 ·by_cases hj:i=j
  ·subst hj
   rw [List.getElem?_set_ne hjk] at h2
   exact f.ve.dist i k _ y b hjk hr h2 trivial o2 h3
  ·rw [List.getElem?_set_ne hj] at h1
   by_cases hk:i=k
   ·subst hk
    exact f.ve.dist j i x _ b hjk h1 hr o1 trivial h3
   ·rw [List.getElem?_set_ne hk] at h2
    exact f.ve.dist j k x y b hjk h1 h2 o1 o2 h3
 ·by_cases hb:b=a
  ·rw [hb,aH] at z;cases z
  ·rw [aj hb] at z;exact f.ve.dom b h z
 ·have nb:b≠a:=fun z=>by
   have:=f.own i _ a hr trivial hs'
   rw [←z,h] at this;cases this
  rw [aj nb];exact f.ext b o n h
 ·by_cases hj:i=j
  ·subst hj
   exact f.own i _ b hr trivial h2
  ·rw [List.getElem?_set_ne hj] at h
   exact f.own j x b h o h2
end
section
variable {X:Cx} {ρ ρ':Rho} {e:Expr} {d:D} {st:Stmt} {sts:List Stmt} {o:Out} {pos:Pos} {xs:List D}
theorem DF.x (h:DF X ρ e xs):DFx X ρ e (.l xs):=PE.weak h fun σ H Q ⟨S,ve,k⟩=>⟨S,ve,fun a vs H' ex hn ha r=>k a (.lst vs) H' ex hn ha ⟨vs,rfl,r⟩⟩
theorem DFx.de {c:Ow} (h:DFx X ρ e c):DE X ρ e c.D:=PE.weak h fun σ H Q ⟨S,ve,k⟩=>⟨S,ve,fun a o H' ex hn ha r=>k _ H' ex ((r.av fun b h=>.inl (.inl h)).rds ha (ve.dom.not hn))⟩
theorem DF.de (h:DF X ρ e xs):DE X ρ e (.lst xs):=PE.weak h fun σ H Q ⟨S,ve,k⟩=>⟨S,ve,fun a vs H' ex hn ha r=>k _ H' ex (.lst (.inl ha) (ve.dom.not hn) (r.av fun b h=>.inl (.inl h)))⟩
theorem DC.df (h:DC X ρ e xs):DF X ρ e xs:=PE.weak h.pe fun σ H Q ⟨S,ve,k⟩=>⟨S,ve,fun a vs H' ex hp r=>k a vs _ (ex.trans (Ext.new hp)) (ex.back hp) aH ((r.av (S':=S.and a) fun b h=>h.imp_right fun z=>by rw [z];exact hp).ext ((Ext.new hp).to _))⟩
theorem yJ {es:List Expr} (h:DA X ρ es xs) (hl:xs.length<=sizeLine):DF X ρ (.List es pos) xs:=
 PE.weak (qi h) fun σ H Q ⟨S,ve,k⟩=>⟨S,ve,fun vs H' ex rs=>⟨by rw [←rs.length];exact hl,fun p hp=>k p vs _ (ex.trans (Ext.new hp)) (ex.back hp) aH ((rs.av (S':=S.and p) fun b h=>h.imp_right fun z=>by rw [z];exact hp).ext ((Ext.new hp).to _))⟩⟩
theorem tY:DSs X ρ [] (.nx ρ):=PSs.weak ur fun E σ H ⟨H₀,S₀,S,f,k⟩=>k σ H S f
theorem iB (h1:DS X ρ st (.nx ρ')) (h2:DSs X ρ' sts o):DSs X ρ (st::sts) o:=PSs.weak (lg h1 h2) fun E σ H ⟨H₀,S₀,S,f,k⟩=>⟨H₀,S₀,S,f,fun σ' H' S' f'=>⟨H₀,S₀,S',f',k⟩⟩
noncomputable def Out.ends:Out->Prop
 |.nx _=>False
 |_=>True
theorem mL (h1:DS X ρ st o) (ho:o.ends):DSs X ρ (st::sts) o:=PSs.weak (lg h1 (pQ (sts:=sts))) fun E σ H ⟨H₀,S₀,S,f,k⟩=>⟨H₀,S₀,S,f,by
 cases o with
 |nx _=>exact ho.elim
 |rt d=>exact k
 |rfx xs=>exact k⟩
theorem vw:DS X ρ (.Pass pos) (.nx ρ):=PS.weak uB fun E σ H ⟨H₀,S₀,S,f,k⟩=>k σ H S f
theorem xO (h:DE X ρ e d):DS X ρ (.Return (some e) pos) (.rt d):=PS.weak (lb h) fun E σ H ⟨H₀,S₀,S,f,k⟩=>⟨S,f.ve,fun v H' ex r=>k v H' (f.ext.trans ex) ((f.grow ex).out r)⟩
theorem vK:DS X ρ (.Return none pos) (.rt .non):=PS.weak vm fun E σ H ⟨H₀,S₀,S,f,k⟩=>k .non H f.ext .non
theorem qJ {c:Ow} (h:DFx X ρ e c):DS X ρ (.Return (some e) pos) (.rfx c):=PS.weak (lb h) fun E σ H ⟨H₀,S₀,S,f,k⟩=>⟨S,f.ve,fun a vs H' ex hn ha r=>k a vs H' (f.ext.trans ex) (f.ext.back hn) ha (r.av fun b h=>.inl (h.imp_left (f.sub b)))⟩
theorem tH {i:Nat} {x:Str} {p:Pos} {c:Ow} (hN:X.N[i]?=some x) (hv:Vis X.env.scope x) (hr:ρ[i]?=some (.owx c)) (hd:(x==("__debug__":Str))=false:=by decide) (hcd:(x==("__classdict__":Str))=false:=by decide):
  DS X ρ (.Return (some (.Name x p)) pos) (.rfx c):=PS.weak (lb (fm hN hv hd hcd)) fun E σ H ⟨H₀,S₀,S,f,k⟩=>by
 obtain ⟨v,h1,a,vs,rfl,sa,ha,r⟩:=f.ve.rel i _ hr
 exact ⟨_,h1,k a vs H f.ext (f.own i _ a hr trivial h1) ha (r.av fun b h=>.inl (h.elim (f.sub b) fun z=>by rw [z];exact sa))⟩
theorem md (h:DE X ρ e d) (hs:swapsWith e none pos.line X.env=pure false:=by rfl):DS X ρ (.Expr e pos) (.nx ρ):=PS.weak (jF h hs) fun E σ H ⟨H₀,S₀,S,f,k⟩=>⟨S,f.ve,fun v H' ex r=>k σ H' S (f.grow ex)⟩
variable {i:Nat} {x:Str} {pos':Pos}
theorem xA (hN:X.N.Nodup) (hi:X.N[i]?=some x) (hx:Loc X.env.scope x) (he:DE X ρ e d) (hs:swapsWith e (some (.Name x pos')) pos.line X.env=pure false:=by rfl) (hf:X.fn x=true∨X.env.scope.names.lookup x=some .local:=by first|exact .inl rfl|exact .inr rfl|assumption):
  DS X ρ (.Assign [.Name x pos'] e pos) (.nx (ρ.set i (.val d))):=PS.weak (kZ hN hi hx he hs hf) fun E σ H ⟨H₀,S₀,S,f,k⟩=>⟨S,f.ve,fun v H' ex r=>k _ H' S ((f.grow ex).set r)⟩
theorem ir {c:Ow} (hN:X.N.Nodup) (hi:X.N[i]?=some x) (hx:Loc X.env.scope x) (he:DFx X ρ e c) (hs:swapsWith e (some (.Name x pos')) pos.line X.env=pure false:=by rfl) (hf:X.fn x=true∨X.env.scope.names.lookup x=some .local:=by first|exact .inl rfl|exact .inr rfl|assumption):
  DS X ρ (.Assign [.Name x pos'] e pos) (.nx (ρ.set i (.owx c))):=PS.weak (kZ hN hi hx he hs hf) fun E σ H ⟨H₀,S₀,S,f,k⟩=>⟨S,f.ve,fun a vs H' ex hn ha r=>k _ H' _ (f.n9 ex hn ha r)⟩
theorem j6 {a:Expr} {p ap cp:Pos} (hN:X.N[i]?=some x) (hv:Vis X.env.scope x) (hr:ρ[i]?=some (.own xs)) (he:DE X ρ a d) (hz:xs.length<sizeLine) (hd:(x==("__debug__":Str))=false:=by decide) (hcd:(x==("__classdict__":Str))=false:=by decide)
  (hs:swapsWith (.Call (.Attribute (.Name x p) "append" ap) [a] [] cp) none pos.line X.env=pure false:=by rfl)
  (hbase:attributeBase (.Name x p) "append" X.env (eval (.Name x p) X.env)=eval (.Name x p) X.env:=by rfl)
  (hfew:((backTo cp (starEach [a] X.env)).all (fun x=>!x.1)&&(backToKw cp (keywordEach [] X.env)).all (fun x=>x.1.isSome)&&decide (([a]:List Expr).length+([]:List Keyword).length+(if ([]:List Keyword).isEmpty then 0 else 1)<30))=true:=by rfl)
  (hline:(ap.endLine==cp.line)=true:=by rfl) (hst:starEach [a] X.env=(false,eval a X.env)::starEach [] X.env:=by rfl) (hplain:(backTo cp (starEach [] X.env)).any (·.1)=false:=by rfl):
  DS X ρ (.Expr (.Call (.Attribute (.Name x p) "append" ap) [a] [] cp) pos) (.nx (ρ.set i (.own (xs++[d])))):=
 PS.weak (jF (Ab PySem.F.plainAttrs_list PySem.F.slot_list_append PySem.F.type_list_append n5 (fm hN hv hd hcd) (mI he o4 hst) hbase hfew hline hst hplain) hs) fun E σ H ⟨H₀,S₀,S,f,k⟩=>by
  obtain ⟨v,h1,l,_,rfl,sa,ha,vs,rfl,r⟩:=f.ve.rel i _ hr
  refine ⟨_,h1,.inl ⟨rfl,vs,.inl (.inl ha)⟩,S,f.ve,fun y H' ex ry=>⟨l,vs,y,rfl,rfl,ex _ _ (fun z=>z) ha,by rw [←r.length];exact hz,?_⟩⟩
  exact k _ _ S ((f.grow ex).yd hr h1 (af.app (r.ext (ex.to S)) (.cons ry .nil)))
theorem og {C a dx:Addr} {fs:List (Str×D)} {fl:Str} {p:Pos} (hN:X.N[i]?=some x) (hv:Vis X.env.scope x) (hr:ρ[i]?=some (.new C a dx fs)) (c:Cls X.K C) (na:cz X.K C fl) (hl:fs.length<1000) (he:DE X ρ e d)
  (hs:swapsWith e (some (.Attribute (.Name x p) fl pos')) pos.line X.env=pure false:=by rfl) (hd:(x==("__debug__":Str))=false:=by decide) (hcd:(x==("__classdict__":Str))=false:=by decide):
  DS X ρ (.Assign [.Attribute (.Name x p) fl pos'] e pos) (.nx (ρ.set i (.new C a dx (putD fl d fs)))):=
 PS.weak (xV (fm hN hv hd hcd) he hs) fun E σ H ⟨H₀,S₀,S,f,k⟩=>⟨S,f.ve,fun v H' ex r=>by
  have f':=f.grow ex
  obtain ⟨w,h1,gs,rfl,sa,ha,rf⟩:=f'.ve.rel i _ hr
  exact ⟨_,h1,a,C,dx,gs,rfl,ha,c,na,by rw [←rf.len];exact hl,k _ _ S (f'.xC hr (rf.put r))⟩⟩
theorem gO {sts:List Stmt}:PSs X sts (fun E σ H=>∃ρ o,DSs X ρ sts o∧tDS X.K ρ o E σ H):=fun pins s σ H D I ⟨_,_,h,q⟩=>h pins s σ H D I q
theorem ny {c:Expr} {a b:List Stmt} {q:Bool} (hc:DT X ρ c q) (ha:q=true->DSs X ρ a o) (hb:q=false->DSs X ρ b o):DS X ρ (.If c a b pos) o:=
 PS.weak (zR hc (gO (sts:=a)) (gO (sts:=b))) fun E σ H ⟨H₀,S₀,S,f,k⟩=>⟨S,f.ve,fun H' ex=>by
  cases q with
  |true=>exact fR ⟨ρ,o,ha rfl,H₀,S₀,S,f.grow ex,k⟩
  |false=>exact gk ⟨ρ,o,hb rfl,H₀,S₀,S,f.grow ex,k⟩⟩
end
end CT
namespace CT
open PySem PySem.Spec L2
open PyProof.Rows hiding St
section
variable {X:Cx} {ρ ρ':Rho} {e:Expr} {d:D} {o:Out} {pos:Pos} {xs:List D} {i:Nat}
theorem Fm.give {K:PySem.W.Frag} {H₀ H:Hp} {S₀ S:Ad} {σ:St} {c:Ow} (f:Fm K H₀ S₀ H S ρ σ) (hr:ρ[i]?=some (.owx c)):∃S',(∀a,S' a->S a)∧Fm K H₀ S₀ H S' (ρ.set i (.val c.D)) σ:=by
 have hi:=(List.getElem?_eq_some_iff.mp hr).1
 obtain ⟨v,q1,a,vs,rfl,sa,ha,r⟩:=f.ve.rel i _ hr
 have own_ne:∀(m:Nat) (x:Sl) (c:Addr),i≠m->ρ[m]?=some x->x.dj->σ[m]?=some (some (.ref c))->c≠a:=fun m x c hm h ho hs z=>f.ve.dist i m _ x a hm hr h trivial ho q1 (by rw [hs,z])
 refine ⟨fun b=>S b∧b≠a,fun b h=>h.1,⟨⟨by simpa using f.ve.len,fun j x h=>?_,fun j k x y b hjk h1 h2 o1 o2 h3=>?_,fun b h=>f.ve.dom b h.1⟩,f.ext,fun b h=>⟨f.sub b h,fun z=>?_⟩,fun b h=>f.new b h.1,f.dm,fun j x b h o h2=>?_⟩⟩
 ·by_cases hj:i=j
  ·subst hj
   rw [List.getElem?_set_self hi] at h
   cases h
   exact ⟨_,q1,_,rfl,(r.av fun b h=>.inl h.1).rds ha fun z=>z.2 rfl⟩
  ·rw [List.getElem?_set_ne hj] at h
   obtain ⟨v,h1,h2⟩:=f.ve.rel j x h
   refine ⟨v,h1,?_⟩
   cases x with
   |nil=>exact h2
   |any=>trivial
   |val d=>obtain ⟨u,p,r⟩:=h2;exact ⟨u,p,r.av fun b h=>.inl h.1⟩
   |owx zs=>exact RO.av (x:=.owx zs) (fun b h=>.inl h.1) (fun b z s=>⟨s,own_ne j _ b hj h trivial (by rw [h1,z])⟩) h2
   |new C y dx fs=>exact RO.av (x:=.new C y dx fs) (fun b h=>.inl h.1) (fun b z s=>⟨s,own_ne j _ b hj h trivial (by rw [h1,z])⟩) h2
 ·have n1:i≠j:=fun z=>by
   subst z
   rw [List.getElem?_set_self hi] at h1;cases h1;exact o1
  have n2:i≠k:=fun z=>by
   subst z
   rw [List.getElem?_set_self hi] at h2;cases h2;exact o2
  rw [List.getElem?_set_ne n1] at h1
  rw [List.getElem?_set_ne n2] at h2
  exact f.ve.dist j k x y b hjk h1 h2 o1 o2 h3
 ·have:=f.own i _ a hr trivial q1
  exact f.dm b h (by rw [z];exact this)
 ·have n1:i≠j:=fun z=>by
   subst z
   rw [List.getElem?_set_self hi] at h;cases h;exact o
  rw [List.getElem?_set_ne n1] at h
  exact f.own j x b h o h2
theorem VE.give {K:PySem.W.Frag} {H:Hp} {S:Ad} {σ:St} {c:Ow} (f:VE K H S ρ σ) (hr:ρ[i]?=some (.owx c)):∃S',VE K H S' (ρ.set i (.val c.D)) σ:=by
 have F:Fm K (fun _=>none) no H S ρ σ:=⟨f,(fun a o _ h=>by cases h),fun a h=>h.elim,fun a h=>.inr rfl,fun a h=>h.elim,fun _ _ _ _ _ _=>rfl⟩
 obtain ⟨S',_,f'⟩:=F.give hr
 exact ⟨S',f'.ve⟩
theorem tG {q:Bool} {c:Ow} (hr:ρ[i]?=some (.owx c)) (h:DT X (ρ.set i (.val c.D)) e q):DT X ρ e q:=PT.weak h fun σ H Q ⟨S,ve,k⟩=>by
 obtain ⟨S',ve'⟩:=ve.give hr
 exact ⟨S',ve',k⟩
noncomputable def cn (ρ ρ1:Rho) (ks:List Nat):Prop:=∀(i:Nat) (x:Sl),ρ1[i]?=some x->x.dj->i∉ks∧ρ[i]?=some x
theorem yP:cn ρ ρ []:=fun i x h _=>⟨by simp,h⟩
theorem wu {k:Nat}:cn ρ (ρ.set k (.val d)) [k]:=fun i x h o=>by
 by_cases hj:k=i
 ·subst hj
  have hi:=(List.getElem?_eq_some_iff.mp h).1
  rw [List.getElem?_set_self (by simpa using hi)] at h;cases h;exact o.elim
 ·rw [List.getElem?_set_ne hj] at h
  exact ⟨by simp [Ne.symm hj],h⟩
theorem cn.trans {ρ1 ρ2:Rho} {ks ls:List Nat} (a:cn ρ ρ1 ks) (b:cn ρ1 ρ2 ls):cn ρ ρ2 (ks++ls):=fun i x h o=>by
 obtain ⟨n1,h1⟩:=b i x h o
 obtain ⟨n2,h2⟩:=a i x h1 o
 exact ⟨by simp [n1,n2],h2⟩
inductive ip (X:Cx) (tg:Expr) (body:List Stmt):List D->Rho->Out->Prop
 |nil (ρ:Rho):ip X tg body [] ρ (.nx ρ)
 |cons {d:D} {ds:List D} {ρ ρ1 ρ2:Rho} {ks:List Nat} {o:Out}:DG X tg ρ d ρ1 ks->cn ρ ρ1 ks->DSs X ρ1 body (.nx ρ2)->ip X tg body ds ρ2 o->ip X tg body (d::ds) ρ o
 |ret {d:D} {ds:List D} {ρ ρ1:Rho} {ks:List Nat} {o:Out}:DG X tg ρ d ρ1 ks->cn ρ ρ1 ks->DSs X ρ1 body o->o.ends->ip X tg body (d::ds) ρ o
theorem Fm.tgt {K:PySem.W.Frag} {H₀ H:Hp} {S₀ S:Ad} {ρ ρ1:Rho} {σ σ':St} {ks:List Nat} (f:Fm K H₀ S₀ H S ρ σ) (ve:VE K H S ρ1 σ') (c:Chg ks σ σ') (h:cn ρ ρ1 ks):Fm K H₀ S₀ H S ρ1 σ':=
 ⟨ve,f.ext,f.sub,f.new,f.dm,fun i x a h1 o h2=>by
  obtain ⟨n,h3⟩:=h i x h1 o
  exact f.own i x a h3 o (by rw [←c.2 i n];exact h2)⟩
theorem Fm.mono {K:PySem.W.Frag} {H₀ H1 H:Hp} {S₀ S:Ad} {σ:St} (f:Fm K H1 S₀ H S ρ σ) (e:aD H₀ H1) (dm:Dom H₀ S₀):Fm K H₀ S₀ H S ρ σ:=
 ⟨f.ve,e.trans f.ext,f.sub,fun a h=>(f.new a h).imp_right e.back,dm,fun i x a h o h2=>e.back (f.own i x a h o h2)⟩
theorem nL.mono {K:PySem.W.Frag} {H₀ H1:Hp} {S₀:Ad} {E:Ends} (e:aD H₀ H1) (dm:Dom H₀ S₀) (k:nL K H₀ S₀ E o):nL K H1 S₀ E o:=by
 cases o with
 |nx ρ'=>exact fun σ' H' S' f=>k σ' H' S' (f.mono e dm)
 |rt d=>exact fun v H' ex r=>k v H' (e.trans ex) r
 |rfx xs=>exact fun a vs H' ex hn ha r=>k a vs H' (e.trans ex) (e.back hn) ha r
open Classical in
noncomputable def ei (H:Hp) (S S₀:Ad):Hp:=fun a=>if S a∧¬S₀ a then none else H a
theorem eP {H:Hp} {S S₀:Ad} {a:Addr} {u:HO} (h:H a=some u) (n:S a->S₀ a):ei H S S₀ a=some u:=by
 unfold ei;rw [if_neg fun z=>z.2 (n z.1)];exact h
theorem gp {H:Hp} {S S₀:Ad} {a:Addr} (h:S a) (n:¬S₀ a):ei H S S₀ a=none:=by
 unfold ei;rw [if_pos ⟨h,n⟩]
theorem vd {H:Hp} {S S₀:Ad} {a:Addr} {u:HO} (h:ei H S S₀ a=some u):H a=some u∧(S a->S₀ a):=by
 unfold ei at h
 split at h
 ·cases h
 ·rename_i n
  exact ⟨h,fun s=>Classical.byContradiction fun z=>n ⟨s,z⟩⟩
theorem Fm.cut {K:PySem.W.Frag} {H₀ H:Hp} {S₀ S:Ad} {σ:St} (f:Fm K H₀ S₀ H S ρ σ):aD H₀ (ei H S S₀)∧Fm K (ei H S S₀) S₀ H S ρ σ:=by
 refine ⟨fun a u n h=>eP (f.ext a u n h) fun s=>(f.new a s).elim (fun z=>z) fun z=>(by rw [h] at z;cases z),⟨f.ve,fun a u n h=>(vd h).1,f.sub,fun a s=>?_,fun a s z=>?_,fun i x a h o h2=>?_⟩⟩
 ·by_cases q:S₀ a
  ·exact .inl q
  ·exact .inr (gp s q)
 ·cases q:H a with
  |none=>exact f.ve.dom a (f.sub a s) q
  |some u=>rw [eP q fun _=>s] at z;cases z
 ·have hn:=f.own i x a h o h2
  have ns:¬S₀ a:=fun z=>f.dm a z hn
  obtain ⟨v,q1,q2⟩:=f.ve.rel i x h
  rw [h2] at q1;cases q1
  cases x with
  |owx xs=>obtain ⟨b,_,z,s,_⟩:=q2;cases z;exact gp s ns
  |new C y dx fs=>obtain ⟨_,z,s,_⟩:=q2;cases z;exact gp s ns
  |nil=>exact o.elim
  |any=>exact o.elim
  |val d=>exact o.elim
theorem lS {tg iter:Expr} {body:List Stmt} {its:List D} (hp:PassesOwn (model X.prog X.w) X.A X.env X.xe) (hc:X.calm=true) (hi:DI X tg ρ iter its) (hb:ip X tg body its ρ o)
  (hs:∀x,foldedSetIterable iter X.env x=pure x:=by intro _;rfl):DS X ρ (.For tg iter body [] pos) o:=by
 refine PS.weak (vZ hp hc hi (nG (G:=DG X tg) fun _ _ _ _ h=>h) (gO (sts:=body)) hs) ?_
 rintro E σ H ⟨H₀,S₀,S,f,k⟩
 refine ⟨S,f.ve,fun J H1 ex hJ=>?_⟩
 have f1:=f.grow ex
 obtain ⟨e0,fc⟩:=f1.cut
 have k1:=k.mono e0 f.dm
 refine ⟨fun i m σ' H'=>∃S' ρ',Fm X.K (ei H1 S S₀) S₀ H' S' ρ' σ'∧ip X tg body (its.drop i) ρ' o∧i<=its.length∧m=its.length - i,⟨its.length,S,ρ,fc,by simpa using hb,Nat.zero_le _,by simp⟩,?_⟩
 rintro i m σ' H' ⟨S',ρ',f',hf,hi',rfl⟩
 have ext1:Ext S H1 H':=fun a u n h=>f'.ext a u (fun z=>z) (eP h fun s=>(n s).elim)
 have new1:∀a,S' a->S a∨H1 a=none:=fun a s=>by
  rcases f'.new a s with z|z
  ·exact .inl (f.sub a z)
  ·by_cases q:S a
   ·exact .inl q
   ·cases h:H1 a with
    |none=>exact .inr rfl
    |some u=>rw [eP h fun s=>(q s).elim] at z;cases z
 obtain ⟨J1,J2⟩:=hJ H' S' ext1 new1 f'.ve.dom i
 by_cases hlt:i<its.length
 ·have hd:its[i]?=some its[i]:=by simp [hlt]
  obtain ⟨go,yld⟩:=J1 _ hd
  rw [List.drop_eq_getElem_cons hlt] at hf
  have rep:∀{ρ1:Rho} {ks:List Nat} {x:V} {H2:Hp},J.yld i H' x H2->DG X tg ρ' its[i] ρ1 ks->cn ρ' ρ1 ks->∀(R:St->Hp->Prop),(∀σ2,Fm X.K (ei H1 S S₀) S₀ H2 S' ρ1 σ2->R σ2 H2)->gA X.K (DG X tg) x σ' H2 R:=fun {ρ1 ks x H2} y hg htg R hR=>by
   obtain ⟨e1,r1⟩:=yld x H2 y
   exact ⟨ρ',its[i],ρ1,ks,hg,S',(f'.grow e1).ve,r1,fun σ2 ve2 c=>hR σ2 ((f'.grow e1).tgt ve2 c htg)⟩
  cases hf with
  |cons hg htg hbd hrest=>
   rename_i ρ1 ρ2 ks
   refine .inr ⟨go,fun σ2 H2=>∃S2,Fm X.K (ei H1 S S₀) S₀ H2 S2 ρ2 σ2,fun σ2 H2 ⟨S2,f2⟩=>⟨its.length - (i+1),by omega,S2,ρ2,f2,hrest,hlt,rfl⟩,fun x H2 y=>?_⟩
   exact rep y hg htg _ fun σ2 f2=>⟨ρ1,_,hbd,_,_,S',f2,fun σ3 H3 S3 f3=>⟨S3,f3⟩⟩
  |ret hg htg hbd hend=>
   rename_i ρ1 ks
   refine .inr ⟨go,fun _ _=>False,fun _ _ z=>z.elim,fun x H2 y=>?_⟩
   refine rep y hg htg _ fun σ2 f2=>⟨ρ1,o,hbd,_,_,S',f2,?_⟩
   cases o with
   |nx _=>exact hend.elim
   |rt d=>exact k1
   |rfx xs=>exact k1
 ·have e:i=its.length:=by omega
  subst e
  rw [List.drop_length] at hf
  cases hf
  exact .inl ⟨J2 (Nat.le_refl _),k1 σ' H' S' f'⟩
end
end CT
namespace CT
open PySem PySem.Spec L2
open PyProof.Rows hiding St
noncomputable def spD (K:PySem.W.Frag) (P:List D->D->Prop):Sp:=fun vs H Q _=>∃S ds d,Dom H S∧af K H S ds vs∧P ds d∧∀v H',aD H H'->Rds K H' S d v->Q v H'
noncomputable def spI (K:PySem.W.Frag) (C:Addr) (P:List D->List (Str×D)->Prop):Sp:=fun vs H Q _=>∃S x dx us ds fs,vs=.ref x::us∧H x=some (.ins C dx [])∧Dom H S∧S x∧af K H S ds us∧P ds fs∧
 ∀H' gs,(∀a o,a≠x->H a=some o->H' a=some o)->H' x=some (.ins C dx gs)->aF K H' S fs gs->Q .non H'
noncomputable def aK (N:List Str) (ds:List D):Rho:=ds.map .val++List.replicate (N.length - ds.length) .nil
theorem kQ {K:PySem.W.Frag} {H:Hp} {S:Ad} {N:List Str} {ds:List D} {vs:List V} (dm:Dom H S) (r:af K H S ds vs):VE K H S (aK N ds) (start N vs):=by
 have hl:=r.length
 have nown:∀(i:Nat) (x:Sl),(aK N ds)[i]?=some x->¬x.dj:=fun i x h o=>by
  have hm:=List.mem_of_getElem? h
  unfold aK at hm
  rcases List.mem_append.mp hm with hm|hm
  ·obtain ⟨y,_,e⟩:=List.mem_map.mp hm;rw [←e] at o;exact o
  ·rw [(List.mem_replicate.mp hm).2] at o;exact o
 refine ⟨by simp [aK,L2.start,hl],fun i x h=>?_,fun i j x y a _ h _ o=>absurd o (nown i x h),dm⟩
 unfold aK at h
 unfold L2.start
 by_cases hi:i<ds.length
 ·rw [List.getElem?_append_left (by simpa using hi),List.getElem?_map] at h
  rw [List.getElem?_append_left (by simpa [←hl] using hi),List.getElem?_map]
  cases hq:ds[i]? with
  |none=>rw [hq] at h;cases h
  |some d=>
   rw [hq] at h;cases h
   obtain ⟨v,hv,rv⟩:=r.get hq
   exact ⟨some v,by rw [hv];rfl,v,rfl,rv⟩
 ·have hi':ds.length<=i:=Nat.le_of_not_lt hi
  rw [List.getElem?_append_right (by simpa using hi'),List.length_map,List.getElem?_replicate] at h
  rw [List.getElem?_append_right (by simpa [←hl] using hi'),List.length_map,List.getElem?_replicate]
  rw [←hl]
  split at h
  ·rename_i z
   rw [if_pos z]
   cases h
   exact ⟨none,rfl,rfl⟩
  ·cases h
theorem kS {K:PySem.W.Frag} {H:Hp} {S:Ad} {N:List Str} {ds:List D} {vs:List V} (dm:Dom H S) (r:af K H S ds vs):Fm K H S H S (aK N ds) (start N vs):=
 ⟨kQ dm r,Ext.refl,fun a h=>h,fun a h=>.inl h,dm,fun i x a h o _=>by
  have hm:=List.mem_of_getElem? h
  unfold aK at hm
  rcases List.mem_append.mp hm with hm|hm
  ·obtain ⟨y,_,e⟩:=List.mem_map.mp hm;rw [←e] at o;exact o.elim
  ·rw [(List.mem_replicate.mp hm).2] at o;exact o.elim⟩
noncomputable def wO:Out->D->Prop
 |.rt d,d'=>d=d'
 |.nx _,d'=>d'=.non
 |.rfx c,d'=>d'=c.D
section
variable {P:Program} {w:World} {K:PySem.W.Frag} {mg:Str->Option Value} {base:Heap} {x qual:Str} {st:Stmt} {f:Addr} {fd:FuncData} {N ps:List Str} {k:Nat}
theorem A6 {Pr:List D->D->Prop} (F:Fun K x qual st f fd) (S:bJ N ps (ah st)) (len:∀ds d,Pr ds d->ds.length=ps.length)
  (hb:∀(cdv:Value) (A:Around) (outer:List Env) (s:Shared) (H:Hp) (E:XK) (ds:List D) (d:D),aI k (A.deeper (envOfC qual (ah st) s.heap.objs.size f cdv))->Pr ds d->
   ∃o,wO o d∧DSs (dU CX0 P w K mg base N qual (ah st) f cdv A outer s H E).nox (aK N ds) (aY st) o):aC P w K mg base CX0 (k+1) f fd ps (spD K Pr):=by
 refine F.ok S (fun vs H Q E ⟨S,ds,d,dm,r,p,kk⟩=>by rw [←r.length];exact len ds d p) fun cdv A outer s H vs Q E hr ⟨S',ds,d,dm,r,p,kk⟩=>?_
 obtain ⟨o,ov,h⟩:=hb cdv A outer s H E ds d hr p
 refine ⟨_,h,H,S',S',kS dm r,?_⟩
 cases o with
 |rt d'=>cases ov;exact kk
 |nx ρ'=>cases ov;exact fun σ' H' S'' f=>kk .non H' f.ext .non
 |rfx c=>cases ov;exact fun a vs H' ex hn ha r'=>kk _ H' ex ((r'.av fun b h=>.inl (.inl h)).rds ha (dm.not hn))
noncomputable def js (K:PySem.W.Frag) (P:List D->Ow->Prop):Sp:=fun vs H Q _=>∃S ds c,Dom H S∧af K H S ds vs∧P ds c∧∀a o H',aD H H'->H a=none->H' a=some o->cy K H' (S.and a) a c o->Q (.ref a) H'
theorem zr {Pr:List D->Ow->Prop} (F:Fun K x qual st f fd) (S:bJ N ps (ah st)) (len:∀ds xs,Pr ds xs->ds.length=ps.length)
  (hb:∀(cdv:Value) (A:Around) (outer:List Env) (s:Shared) (H:Hp) (E:XK) (ds:List D) (c:Ow),aI k (A.deeper (envOfC qual (ah st) s.heap.objs.size f cdv))->Pr ds c->
   DSs (dU CX0 P w K mg base N qual (ah st) f cdv A outer s H E).nox (aK N ds) (aY st) (.rfx c)):aC P w K mg base CX0 (k+1) f fd ps (js K Pr):=by
 refine F.ok S (fun vs H Q E ⟨S,ds,d,dm,r,p,kk⟩=>by rw [←r.length];exact len ds d p) fun cdv A outer s H vs Q E hr ⟨S',ds,d,dm,r,p,kk⟩=>?_
 exact ⟨_,hb cdv A outer s H E ds d hr p,H,S',S',kS dm r,kk⟩
theorem AD {C:Addr} {Pr:List D->List (Str×D)->Prop} (F:Fun K x qual st f fd) (S:bJ N ps (ah st)) (len:∀ds fs,Pr ds fs->ds.length+1=ps.length)
  (hb:∀(cdv:Value) (A:Around) (outer:List Env) (s:Shared) (H:Hp) (E:XK) (ds:List D) (fs:List (Str×D)) (z dx:Addr),aI k (A.deeper (envOfC qual (ah st) s.heap.objs.size f cdv))->Pr ds fs->
   ∃ρ',ρ'[0]?=some (.new C z dx fs)∧DSs (dU CX0 P w K mg base N qual (ah st) f cdv A outer s H E).nox (.new C z dx []::(aK N (.non::ds)).tail) (aY st) (.nx ρ')):aC P w K mg base CX0 (k+1) f fd ps (spI K C Pr):=by
 refine F.ok S ?_ ?_
 ·rintro vs H Q E ⟨S,z,dx,us,ds,fs,rfl,hz,dm,sz,r,p,kk⟩
  rw [List.length_cons,←r.length];exact len ds fs p
 ·rintro cdv A outer s H vs Q E hr ⟨S',z,dx,us,ds,fs,rfl,hz,dm,sz,r,p,kk⟩
  obtain ⟨ρ',h0,h⟩:=hb cdv A outer s H E ds fs z dx hr p
  have ve:=kQ (N:=N) dm (.cons (.non:Rds K H S' .non .non) r)
  have e1:aK N (.non::ds)=.val .non::(aK N (.non::ds)).tail:=rfl
  have e2:start N (.non::us)=some .non::(start N (.non::us)).tail:=rfl
  have e3:start N (.ref z::us)=some (.ref z)::(start N (.non::us)).tail:=rfl
  have nown:∀(i:Nat) (x:Sl),(aK N (.non::ds))[i]?=some x->¬x.dj:=fun i x h o=>by
   have hm:=List.mem_of_getElem? h
   unfold aK at hm
   rcases List.mem_append.mp hm with hm|hm
   ·obtain ⟨y,_,e⟩:=List.mem_map.mp hm;rw [←e] at o;exact o
   ·rw [(List.mem_replicate.mp hm).2] at o;exact o
  have nt:∀(i:Nat) (x:Sl),(aK N (.non::ds)).tail[i]?=some x->¬x.dj:=fun i x h=>nown (i+1) x (by rw [e1];exact h)
  refine ⟨_,h,fun a=>if a=z then none else H a,fun a=>S' a∧a≠z,S',⟨⟨?_,fun i x h=>?_,fun i j x y a hij h1 h2 o1 o2 _=>?_,dm⟩,fun a o _ h=>?_,fun a h=>h.1,fun a h=>?_,fun a h=>?_,fun i x a h o h2=>?_⟩,fun σ' H' S'' f=>?_⟩
  ·have:=ve.len
   rw [e3,List.length_cons,List.length_cons]
   rw [e1,e2,List.length_cons,List.length_cons] at this
   exact this
  ·rw [e3]
   cases i with
   |zero=>cases h;exact ⟨_,rfl,[],rfl,sz,hz,.nil⟩
   |succ i=>
    obtain ⟨v,q1,q2⟩:=ve.rel (i+1) x (by rw [e1];exact h)
    rw [e2] at q1
    exact ⟨v,q1,q2⟩
  ·cases i with
   |zero=>cases j with
    |zero=>exact absurd rfl hij
    |succ j=>exact absurd o2 (nt j y h2)
   |succ i=>exact absurd o1 (nt i x h1)
  ·by_cases ha:a=z
   ·rw [if_pos ha] at h;cases h
   ·rw [if_neg ha] at h;exact h
  ·by_cases ha:a=z
   ·exact .inr (if_pos ha)
   ·exact .inl ⟨h,ha⟩
  ·show (if a=z then none else H a)≠none
   rw [if_neg h.2];exact dm a h.1
  ·cases i with
   |zero=>
    rw [e3] at h2
    cases h2
    exact if_pos rfl
   |succ i=>exact absurd o (nt i x h)
  ·obtain ⟨v,_,gs,_,sz',hz',rf⟩:=f.ve.rel 0 _ h0
   refine kk H' gs (fun a o ha h=>f.ext a o (fun z=>z) (by rw [if_neg ha];exact h)) hz' (rf.av fun a h=>?_)
   by_cases ha:a=z
   ·subst ha;exact .inl sz'
   ·exact .inl (f.sub a ⟨h,ha⟩)
end
section
variable {X:Cx} {ρ:Rho} {k:Nat} {f C:Addr} {fd:FuncData} {ps:List Str} {x m:Str} {p pos apos:Pos} {e o:Expr} {es:List Expr} {ds:List D} {d:D}
theorem fk {K:PySem.W.Frag} {H:Hp} {S:Ad} {ds:List D} {vs:List V} (r:af K H S ds vs):af K H S ds (vs++[]):=by rw [List.append_nil];exact r
theorem vG {Pr:List D->D->Prop} (F:aC X.prog X.w X.K X.mg X.base CX0 k f fd ps (spD X.K Pr)) (hr:aI k X.A) (hg:Gl X x) (hm:X.mg x=some (.ref f)) (hk:PySem.W.keepIn X.K (.ref f)=true) (hb:Binds X.K fd ps [])
  (ha:DA X ρ (e::es) ds) (hp:Pr ds d) (hdb:(x==("__debug__":Str))=false:=by decide) (he:starEach (e::es) X.env=(false,eval e X.env)::starEach es X.env:=by rfl) (hpl:(backTo pos (starEach es X.env)).any (·.1)=false:=by rfl):
  DE X ρ (.Call (.Name x p) (e::es) [] pos) d:=PE.weak (mv F hr hg hm hk hb .nil fW ha hdb he hpl) fun σ H Q ⟨S,ve,kk⟩=>⟨S,ve,fun vs H' ex r=>⟨S,ds,d,(ve.ext ex).dom,fk r,hp,fun v H'' ex' r'=>kk v H'' (ex.trans ex') r'⟩⟩
theorem q9 {Pr:List D->Ow->Prop} {c:Ow} (F:aC X.prog X.w X.K X.mg X.base CX0 k f fd ps (js X.K Pr)) (hr:aI k X.A) (hg:Gl X x) (hm:X.mg x=some (.ref f)) (hk:PySem.W.keepIn X.K (.ref f)=true) (hb:Binds X.K fd ps [])
  (ha:DA X ρ (e::es) ds) (hp:Pr ds c) (hdb:(x==("__debug__":Str))=false:=by decide) (he:starEach (e::es) X.env=(false,eval e X.env)::starEach es X.env:=by rfl) (hpl:(backTo pos (starEach es X.env)).any (·.1)=false:=by rfl):
  DFx X ρ (.Call (.Name x p) (e::es) [] pos) c:=PE.weak (mv F hr hg hm hk hb .nil fW ha hdb he hpl) fun σ H Q ⟨S,ve,kk⟩=>⟨S,ve,fun vs H' ex r=>⟨S,ds,c,(ve.ext ex).dom,fk r,hp,fun a us H'' ex' hn ha r'=>kk a us H'' (ex.trans ex') (ex.back hn) ha r'⟩⟩
theorem vn {Pr:List D->D->Prop} {fs:List (Str×D)} {pl:Sem Bool} (ho:DE X ρ o (.ins C fs)) (hl:fs.lookup m=none) (c:Cls X.K C) (hm:Meth X.K C m f) (F:aC X.prog X.w X.K X.mg X.base CX0 k f fd ps (spD X.K Pr)) (hr:aI k X.A) (hb:Binds X.K fd ps [])
  (ha:DA X ρ (e::es) ds) (hp:Pr (.ins C fs::ds) d) (hst:starEach (e::es) X.env=(false,eval e X.env)::starEach es X.env:=by rfl) (hpl:(backTo pos (starEach es X.env)).any (·.1)=false:=by rfl)
  (ht:eval (.Call (.Attribute o m apos) (e::es) [] pos) X.env=(do
   let ov←eval o X.env
   standAt apos.atName
   let (f,first)←holding [ov] (getMethod ov m pl)
   callWith pos f first (backTo pos (starEach (e::es) X.env)) (backToKw pos (keywordEach [] X.env))):=by rfl):
  DE X ρ (.Call (.Attribute o m apos) (e::es) [] pos) d:=PE.weak (mH ho c hm F hr hb .nil fW ha hst hpl ht) fun σ H Q ⟨S,ve,kk⟩=>⟨S,ve,fun v H1 ex1 r1=>by
   obtain ⟨a,dx,gs,rfl,hh,rf⟩:=r1.jD
   exact ⟨a,dx,gs,rfl,hh,rf.none hl,S,ve.ext ex1,fun vs H' ex r=>⟨S,_,d,((ve.ext ex1).ext ex).dom,.cons (r1.ext (ex.to S)) (fk r),hp,fun v H'' ex' r'=>kk v H'' (ex1.trans (ex.trans ex')) r'⟩⟩⟩
theorem se {Pr:List D->D->Prop} {fs:List (Str×D)} {pl:Sem Bool} (ho:DE X ρ o (.ins C fs)) (hl:fs.lookup m=none) (c:Cls X.K C) (hm:Meth X.K C m f) (F:aC X.prog X.w X.K X.mg X.base CX0 k f fd ps (spD X.K Pr)) (hr:aI k X.A) (hb:Binds X.K fd ps [])
  (hp:Pr [.ins C fs] d)
  (ht:eval (.Call (.Attribute o m apos) [] [] pos) X.env=(do
   let ov←eval o X.env
   standAt apos.atName
   let (f,first)←holding [ov] (getMethod ov m pl)
   callWith pos f first (backTo pos (starEach [] X.env)) (backToKw pos (keywordEach [] X.env))):=by rfl):
  DE X ρ (.Call (.Attribute o m apos) [] [] pos) d:=PE.weak (kO ho c hm F hr hb .nil fW ht) fun σ H Q ⟨S,ve,kk⟩=>⟨S,ve,fun v H1 ex1 r1=>by
   obtain ⟨a,dx,gs,rfl,hh,rf⟩:=r1.jD
   exact ⟨a,dx,gs,rfl,hh,rf.none hl,S,_,d,(ve.ext ex1).dom,.cons r1 .nil,hp,fun v H'' ex' r'=>kk v H'' (ex1.trans ex') r'⟩⟩
theorem x_ {fs:List (Str×D)} {fl:Str} (ho:DE X ρ o (.ins C fs)) (c:Cls X.K C) (n:cz X.K C fl) (l:fs.lookup fl=some d) (hb:attributeBase o fl X.env (eval o X.env)=eval o X.env:=by rfl):DE X ρ (.Attribute o fl pos) d:=
 PE.weak (xX ho hb) fun σ H Q ⟨S,ve,kk⟩=>⟨S,ve,fun v H1 ex1 r1=>by
  obtain ⟨a,dx,gs,rfl,hh,rf⟩:=r1.jD
  obtain ⟨u,hu,ru⟩:=rf.look l
  exact ⟨a,C,dx,gs,u,rfl,hh,c,n,hu,kk u H1 ex1 ru⟩⟩
theorem uy {Pr:List D->List (Str×D)->Prop} {fs:List (Str×D)} (M:Mk X.K C f) (F:aC X.prog X.w X.K X.mg X.base CX0 k f fd ps (spI X.K C Pr)) (hr:aI (k+1) X.A) (hg:Gl X x) (hm:X.mg x=some (.ref C)) (hb:Binds X.K fd ps [])
  (ha:DA X ρ (e::es) ds) (hp:Pr ds fs) (hdb:(x==("__debug__":Str))=false:=by decide) (he:starEach (e::es) X.env=(false,eval e X.env)::starEach es X.env:=by rfl) (hpl:(backTo pos (starEach es X.env)).any (·.1)=false:=by rfl):
  DE X ρ (.Call (.Name x p) (e::es) [] pos) (.ins C fs):=PE.weak (uv M F hr hg hm hb .nil fW ha hdb he hpl) fun σ H Q ⟨S,ve,kk⟩=>⟨S,ve,fun vs H1 ex r z dx hz hdx hne=>by
   have e1:aD H1 (upd H1 dx (.own z)):=Ext.new hdx
   have hz1:upd H1 dx (.own z) z=none:=by rw [aj (Ne.symm hne)];exact hz
   have e2:aD H1 (upd (upd H1 dx (.own z)) z (.ins C dx [])):=e1.trans (Ext.new hz1)
   have dm:=(ve.ext ex).dom
   refine ⟨S.and z,z,dx,vs++[],ds,fs,rfl,aH,fun a h=>?_,.inr rfl,fk ((r.av (S':=S.and z) fun b h=>h.imp_right fun q=>by rw [q];exact hz).ext (e2.to _)),hp,fun H' gs hk hz' rf=>⟨rfl,?_⟩⟩
   ·rcases h with h|h
    ·exact dm.ext e2 a h
    ·rw [h,aH];intro q;cases q
   ·refine kk _ H' (ex.trans fun a o n h=>hk a o (aJ h hz) (e2 a o n h)) (.ins hz' (dm.not hz) (rf.av fun b h=>.inl (.inl h)))⟩
end
end CT
namespace CT
open PySem PySem.Spec L2
open PyProof.Rows hiding St
section
variable {X:Cx}
theorem lV:∀{ys:List Bool} {its:List Value},Vals (ys.map .bl) its->its=ys.map .bool
 |[],_,.nil=>rfl
 |y::ys,_,.cons r t=>by rw [lV t,show _=Value.bool y from r];rfl
theorem mB:∀{ns:List Int} {its:List Value},Vals (ns.map .int) its->IntsAre its ns
 |[],_,.nil=>.nil
 |n::ns,_,.cons r t=>by obtain ⟨k,rfl⟩:=(show ∃k,_=Value.int n k from r);exact .cons n k (mB t)
theorem all_range {ys:List Bool}:(List.range ys.length).all (fun i=>ys.getD i true)=ys.all id:=by
 induction ys with
 |nil=>rfl
 |cons y ys ih=>
  rw [List.length_cons,List.range_succ_eq_map,List.all_cons,List.all_map,List.all_cons]
  rw [←ih]
  rfl
theorem lY {prog:Program} {w:World} {A:Around} {ys:List Bool}:TruthOf prog w A (fun i v=>(ys.map Value.bool).toArray[i]?=some v) (fun i=>ys.getD i true):=fun i v s Q E hv q=>by
 have hv':(ys.map Value.bool)[i]?=some v:=by simpa using hv
 obtain ⟨b,hb,rfl⟩:=xQ hv'
 have e:ys.getD i true=b:=by simp [hb]
 exact wpAny_truthy_bool (by rw [←e];exact q)
theorem xl {prog:Program} {w:World} {A:Around} (hh:A.handled=none) (b:Bool) (I ax:Addr) (hne:ax≠I) (items:Array Value):Walks prog w A I [I,ax] [I] items.size (fun i v=>items[i]?=some v) (fun i h=>Sit h b I ax i∧Ssq h b ax items):=by
 cases b with
 |true=>exact Walks.tuple hh I ax hne items
 |false=>exact Walks.list hh I ax hne items
theorem pG (hc:X.calm=true):cL X (.builtin "all") (fun xs H Q=>∃(b:Bool) (a:Addr) (ys:List Bool),xs=[.ref a]∧SqB X.K H b a (ys.map .bl)∧Q (.bl (ys.all id)) H):=by
 intro pins s σ H xs us Q I r h
 obtain ⟨b,a,ys,rfl,hq,q⟩:=h
 obtain ⟨u,rfl,rx⟩:=vals1 r
 cases rx
 obtain ⟨its,r',pl,hz⟩:=CT.Inv.sqb I hq
 have e:=lV r'
 subst e
 have hal:a<s.heap.objs.size:=by
  cases b with
  |true=>obtain ⟨o,ho,_⟩:=pl;exact Heap.lt_size ho
  |false=>obtain ⟨o,ho,_⟩:=pl;exact Heap.lt_size ho
 refine call_all_walk (d8 pl ⟨_,_,_,_,_,_,_,rfl,xl (A:=X.A.in1) (I.ok.hd hc) b s.heap.objs.size a (Nat.ne_of_lt hal) (ys.map Value.bool).toArray,⟨Sit.new b a,pl.at fun o e=>Heap.get?_push_of_some _ e⟩,lY (ys:=ys),fun h' tk hk=>?_⟩)
 refine ⟨.bl (ys.all id),H,I.kept (t':=tk) fun c o e=>hk c o (by simp;exact Nat.ne_of_lt (Heap.lt_size e)) (Heap.get?_push_of_some _ e),?_,q⟩
 show Value.bool _=Value.bool _
 rw [List.size_toArray,List.length_map,all_range]
theorem p6 (hc:X.calm=true):cL X (.builtin "sum") (fun xs H Q=>∃(a:Addr) (ns:List Int),xs=[.ref a]∧SqL X.K H a (ns.map .int)∧Q (.int ns.sum) H):=by
 intro pins s σ H xs us Q I r h
 obtain ⟨a,ns,rfl,hq,q⟩:=h
 obtain ⟨u,rfl,rx⟩:=vals1 r
 cases rx
 obtain ⟨its,r',pl,hz⟩:=I.list hq
 have hi:=mB r'
 obtain ⟨xs,ex⟩:=hi.allInts.items
 have en:xs.toList.map (·.1)=ns:=by rw [←nums_intItems,←ex];exact hi.numsOf
 refine sum_intListG (I.ok.hd hc) (xs:=xs) (by rw [←ex];exact pl.isList) fun h' tk t' hk=>?_
 rw [preSum_eq,List.take_of_length_le (by simp),en]
 exact ⟨.int ns.sum,H,I.kept (t':=tk) hk,⟨t',rfl⟩,q⟩
theorem pC:OpR X (compareOp .Is) (fun x y H Q=>∃a b,x=.bl a∧y=.bl b∧Q (.bl (a==b)) H):=by
 intro pins s σ H x y v u Q I rx ry h
 obtain ⟨a,b,rfl,rfl,q⟩:=h
 cases rx;cases ry
 exact is_bool ⟨.bl _,H,I,rfl,q⟩
theorem j4:OpR X (compareOp .IsNot) (fun x y H Q=>∃a b,x=.bl a∧y=.bl b∧Q (.bl (a !=b)) H):=by
 intro pins s σ H x y v u Q I rx ry h
 obtain ⟨a,b,rfl,rfl,q⟩:=h
 cases rx;cases ry
 exact isnot_bool ⟨.bl _,H,I,rfl,q⟩
theorem rg:OpR X (binaryOp .Add) (fun x y H Q=>∃a b ys,x=.ref a∧y=.ref b∧SqT X.K H a []∧SqT X.K H b ys∧Q (.ref b) H):=by
 intro pins s σ H x y v u Q I rx ry h
 obtain ⟨a,b,ys,rfl,rfl,ha,hb,q⟩:=h
 cases rx
 cases ry
 obtain ⟨its,r1,p1,_⟩:=I.tuple ha
 obtain ⟨its2,r2,p2,_⟩:=I.tuple hb
 cases r1
 obtain ⟨⟨cls,dd,data,sl⟩,ho,hc,n,hd⟩:=p1
 obtain ⟨⟨cls2,dd2,data2,sl2⟩,ho2,hc2,n2,hd2⟩:=p2
 simp only at hc hd hc2 hd2
 subst hc hd hc2 hd2
 exact concat_meets ⟨_,ho,rfl⟩ ⟨_,ho2,rfl⟩ noFill_tuple_add seq_tuple_add PySem.F.slot_tuple_add PySem.F.entry_tuple_add (PySem.F.args_tuple_add_2 _ _)
  (tuple_addW0 a b #[] its2.toArray n n2 dd dd2 sl sl2 (by simp)) ⟨ho,ho2,⟨.ref b,H,I,rfl,q⟩⟩
theorem tW:OpR X (binaryOp .Mult) (fun x y H Q=>∃a k z,x=.ref a∧y=.int k∧SqT X.K H a [z]∧0<=k∧k<2^20∧(k=1->Q (.ref a) H)∧(k≠1->∀p,H p=none->Q (.ref p) (upd H p (.tup (List.replicate k.toNat z))))):=by
 intro pins s σ H x y v u Q I rx ry h
 obtain ⟨a,k,z,rfl,rfl,ha,h0,h1,q1,q2⟩:=h
 cases rx
 obtain ⟨t,rfl⟩:=ry
 obtain ⟨its,r1,p1,_⟩:=I.tuple ha
 cases r1 with
 |cons rz rn=>
  cases rn
  rename_i uz
  obtain ⟨⟨cls,dd,data,sl⟩,ho,hc,n,hd⟩:=p1
  simp only at hc hd
  subst hc hd
  refine wpAny_binaryOp_repeat_ref (T:="tuple") (U:="int") (by decide) ⟨_,ho,rfl⟩ (fun s'=>typeIs_int s' k t) g_ F.fills_int_mul F.slot_int_rmul kX F.slot_int_index.lookup
   (call_meets F.slot_int_rmul (typeIs_int s k t) F.entry_int_rmul (F.args_int_rmul_2 _ _) (jH k t a dd _ n sl)
    ⟨ho,rfl,⟨_,ho,rfl⟩,call_meets F.slot_tuple_mul ⟨_,ho,rfl⟩ F.entry_tuple_mul (F.args_tuple_mul_2 _ _) (ku a dd uz n sl k t h0 h1) ⟨ho,?_⟩⟩)
  by_cases k1:k=1
  ·rw [if_pos k1]
   exact ⟨.ref a,H,I,rfl,q1 k1⟩
  ·rw [if_neg k1]
   have rr:∀m:Nat,Vals (List.replicate m z) (List.replicate m uz):=fun m=>by
    induction m with
    |zero=>exact .nil
    |succ m ih=>exact .cons rz ih
   refine ⟨.ref s.heap.objs.size,_,I.laid (t':=s.toks) (o:=.tup (List.replicate k.toNat z)) (fun b ob q=>Heap.get?_push_of_some _ q) (Nat.le_refl _) ?_,rfl,q2 k1 _ (I.hok.fresh (Nat.le_refl _))⟩
   exact ⟨by rw [List.length_replicate];show k.toNat<=2^24;omega,_,rr _,IsTup.new _ _⟩
end
end CT
namespace CT
open PySem PySem.Spec L2
open PyProof.Rows hiding St
section
variable {X:Cx} {ρ:Rho} {e a b:Expr} {es:List Expr} {d da db:D} {ds xs ys:List D} {x:Str} {p pos:Pos}
theorem cZ {id:String} {r:List V->Hp->VK->Prop} (hc:cL X (.builtin id) r) (hcd:CD X.K r ds d) (hg:Gl X x) (hm:X.mg x=none) (hv:bootBuiltins x=some (.builtin id)) (ha:DA X ρ (e::es) ds) (hn:x≠"__name__":=by decide) (hdb:(x==("__debug__":Str))=false:=by decide)
  (he:starEach (e::es) X.env=(false,eval e X.env)::starEach es X.env:=by rfl) (hpl:(backTo pos (starEach es X.env)).any (·.1)=false:=by rfl):DE X ρ (.Call (.Name x p) (e::es) [] pos) d:=PE.weak (rj hc hg hm hv ha hn hdb he hpl) (oX hcd)
theorem o9 {T:String} {r:List V->Hp->VK->Prop} (hc:cL X (.type T) r) (hcd:CD X.K r ds d) (hg:Gl X x) (hm:X.mg x=none) (hv:bootBuiltins x=some (.type T)) (ha:DA X ρ (e::es) ds) (hn:x≠"__name__":=by decide) (hdb:(x==("__debug__":Str))=false:=by decide)
  (he:starEach (e::es) X.env=(false,eval e X.env)::starEach es X.env:=by rfl) (hpl:(backTo pos (starEach es X.env)).any (·.1)=false:=by rfl):DE X ρ (.Call (.Name x p) (e::es) [] pos) d:=PE.weak (kf hc hg hm hv ha hn hdb he hpl) (oX hcd)
theorem Sq.sq {K:PySem.W.Frag} {H:Hp} {S:Ad} {v:V} (q:Sq d xs) (r:Rds K H S d v):∃b a vs,v=.ref a∧SqB K H b a vs∧af K H S xs vs:=by
 obtain ⟨b,a,vs,e,l⟩:=q.later r
 exact ⟨b,a,vs,e,l H S Ext.refl fun _ h=>.inl h⟩
theorem SqB.or {K:PySem.W.Frag} {H:Hp} {c:Bool} {a:Addr} {vs:List V} (h:SqB K H c a vs):SqL K H a vs∨SqT K H a vs:=by
 cases c with
 |true=>exact .inr h
 |false=>exact .inl h
theorem yk (q:Sq da xs) (hg:Gl X "len") (hm:X.mg "len"=none) (ha:DA X ρ [e] [da]) (he:starEach [e] X.env=(false,eval e X.env)::starEach [] X.env:=by rfl) (hpl:(backTo pos (starEach [] X.env)).any (·.1)=false:=by rfl):DE X ρ (.Call (.Name "len" p) [e] [] pos) (.int xs.length):=
 cZ lR (fun vs H S Q rs dm k=>by
  obtain ⟨v,rfl,r⟩:=rs.one
  obtain ⟨c,a,us,rfl,sq,rl⟩:=q.sq r
  exact ⟨a,us,rfl,sq.or,by rw [←rl.length];exact k _ H Ext.refl (.int _)⟩) hg hm boot_len ha (by decide) (by decide) he hpl
theorem l4:bootBuiltins "tuple"=some (.type "tuple"):=by decide+kernel
theorem pd:bootBuiltins "all"=some (.builtin "all"):=by decide+kernel
theorem oO:bootBuiltins "sum"=some (.builtin "sum"):=by decide+kernel
theorem eD:bootBuiltins "isinstance"=some (.builtin "isinstance"):=by decide+kernel
theorem sf (q:Sq da xs) (hg:Gl X "tuple") (hm:X.mg "tuple"=none) (ha:DA X ρ [e] [da]) (he:starEach [e] X.env=(false,eval e X.env)::starEach [] X.env:=by rfl) (hpl:(backTo pos (starEach [] X.env)).any (·.1)=false:=by rfl):DE X ρ (.Call (.Name "tuple" p) [e] [] pos) (.tup xs):=
 o9 kr (fun vs H S Q rs dm k=>by
  obtain ⟨v,rfl,r⟩:=rs.one
  cases q with
  |lst=>
   obtain ⟨a,us,rfl,sq,rl⟩:=r.iF
   exact ⟨a,us,rfl,.inl ⟨sq,fun l hl=>k _ _ (Ext.new hl) (Rds.eJ dm hl rl)⟩⟩
  |tup=>
   obtain ⟨a,us,rfl,h,rl⟩:=r.cg
   exact ⟨a,us,rfl,.inr ⟨.inl (.inl h),k _ H Ext.refl r⟩⟩) hg hm l4 ha (by decide) (by decide) he hpl
theorem sP {K:PySem.W.Frag} {H:Hp} {S:Ad}:∀{ys:List Bool} {vs:List V},af K H S (ys.map .bl) vs->vs=ys.map .bl
 |[],_,.nil=>rfl
 |y::ys,_,.cons r t=>by rw [sP t,r.blV];rfl
theorem pL {K:PySem.W.Frag} {H:Hp} {S:Ad}:∀{ns:List Int} {vs:List V},af K H S (ns.map .int) vs->vs=ns.map .int
 |[],_,.nil=>rfl
 |y::ys,_,.cons r t=>by rw [pL t,r.aS];rfl
theorem wJ {bs:List Bool} (hc:X.calm=true) (q:Sq da (bs.map .bl)) (hg:Gl X "all") (hm:X.mg "all"=none) (ha:DA X ρ [e] [da]) (he:starEach [e] X.env=(false,eval e X.env)::starEach [] X.env:=by rfl) (hpl:(backTo pos (starEach [] X.env)).any (·.1)=false:=by rfl):
  DE X ρ (.Call (.Name "all" p) [e] [] pos) (.bl (bs.all id)):=
 cZ (pG hc) (fun vs H S Q rs dm k=>by
  obtain ⟨v,rfl,r⟩:=rs.one
  obtain ⟨c,a,us,rfl,sq,rl⟩:=q.sq r
  exact ⟨c,a,bs,rfl,by rw [←sP rl];exact sq,k _ H Ext.refl (.bl _)⟩) hg hm pd ha (by decide) (by decide) he hpl
theorem xZ {ns:List Int} (hc:X.calm=true) (hg:Gl X "sum") (hm:X.mg "sum"=none) (ha:DA X ρ [e] [.lst (ns.map .int)]) (he:starEach [e] X.env=(false,eval e X.env)::starEach [] X.env:=by rfl) (hpl:(backTo pos (starEach [] X.env)).any (·.1)=false:=by rfl):
  DE X ρ (.Call (.Name "sum" p) [e] [] pos) (.int ns.sum):=
 cZ (p6 hc) (fun vs H S Q rs dm k=>by
  obtain ⟨v,rfl,r⟩:=rs.one
  obtain ⟨a,us,rfl,sq,rl⟩:=r.iF
  exact ⟨a,ns,rfl,by rw [←pL rl];exact sq,k _ H Ext.refl (.int _)⟩) hg hm oO ha (by decide) (by decide) he hpl
theorem yx {q r:Bool} (ha:DE X ρ a (.bl q)) (hb:DE X ρ b (.bl r)):DE X ρ (.Compare a [.Is] [b] pos) (.bl (q==r)):=
 bQ pC (fun x y H S Q rx ry dm k=>⟨q,r,rx.blV,ry.blV,k _ H Ext.refl (.bl _)⟩) ha hb (aL _)
theorem o5 {q r:Bool} (ha:DE X ρ a (.bl q)) (hb:DE X ρ b (.bl r)):DE X ρ (.Compare a [.IsNot] [b] pos) (.bl (q !=r)):=
 bQ j4 (fun x y H S Q rx ry dm k=>⟨q,r,rx.blV,ry.blV,k _ H Ext.refl (.bl _)⟩) ha hb (aL _)
theorem yO {q r:Bool} (ha:DE X ρ a (.bl q)) (hb:DE X ρ b (.bl r)):DT X ρ (.Compare a [.Is] [b] pos) (q==r):=
 bP pC (fun x y H S Q rx ry dm k=>⟨q,r,rx.blV,ry.blV,k _ H Ext.refl (.bl _)⟩) ha hb (aL _)
theorem pF {q r:Bool} (ha:DE X ρ a (.bl q)) (hb:DE X ρ b (.bl r)):DT X ρ (.Compare a [.IsNot] [b] pos) (q !=r):=
 bP j4 (fun x y H S Q rx ry dm k=>⟨q,r,rx.blV,ry.blV,k _ H Ext.refl (.bl _)⟩) ha hb (aL _)
theorem ui (ha:DE X ρ a (.tup xs)) (hb:DE X ρ b (.tup ys)) (hl:xs.length+ys.length<=sizeLine):DE X ρ (.BinOp a .Add b pos) (.tup (xs++ys)):=by
 by_cases hx:xs=[]
 ·subst hx
  exact dB rg (fun x y H S Q rx ry dm k=>by
   obtain ⟨p,us,rfl,h1,r1⟩:=rx.cg
   obtain ⟨q,vs,rfl,h2,r2⟩:=ry.cg
   cases r1
   exact ⟨p,q,vs,rfl,rfl,.inl (.inl h1),.inl (.inl h2),k _ H Ext.refl ry⟩) ha hb
 ·exact dB vz (fun x y H S Q rx ry dm k=>by
   obtain ⟨p,us,rfl,h1,r1⟩:=rx.cg
   obtain ⟨q,vs,rfl,h2,r2⟩:=ry.cg
   refine ⟨p,q,us,vs,rfl,rfl,.inl (.inl h1),.inl (.inl h2),fun z=>hx ?_,by rw [←r1.length,←r2.length];exact hl,fun z=>?_,fun z l hp=>k _ _ (Ext.new hp) (Rds.eJ dm hp (af.app r1 r2))⟩
   ·subst z;cases r1;rfl
   ·subst z;cases r2;rw [List.append_nil] at k;exact k _ H Ext.refl rx) ha hb
theorem uU {k:Int} (ha:DE X ρ a (.tup [d])) (hb:DE X ρ b (.int k)) (h0:0<=k) (h1:k<2^20):DE X ρ (.BinOp a .Mult b pos) (.tup (List.replicate k.toNat d)):=
 dB tW (fun x y H S Q rx ry dm kk=>by
  obtain ⟨p,us,rfl,h2,r1⟩:=rx.cg
  obtain ⟨v,rfl,r⟩:=r1.one
  refine ⟨p,k,v,rfl,ry.aS,.inl (.inl h2),h0,h1,fun z=>?_,fun z l hp=>kk _ _ (Ext.new hp) (Rds.eJ dm hp (af.rep r _))⟩
  subst z
  exact kk _ H Ext.refl rx) ha hb
theorem sQ {K:PySem.W.Frag} {H:Hp} {S:Ad} {vs:List V} {i:Int} (r:af K H S xs vs) (h:atI xs i=some d):∃v,atI vs i=some v∧Rds K H S d v:=by
 unfold atI at h ⊢
 rw [←r.length]
 cases q:ixN xs.length i with
 |none=>rw [q] at h;cases h
 |some j=>
  rw [q] at h
  exact r.get h
theorem yV {i:Int} (ha:DE X ρ a (.lst xs)) (hb:DE X ρ b (.int i)) (h:atI xs i=some d) (hs:jJ b:=by exact fun _ _=>rfl):DE X ρ (.Subscript a b pos) d:=
 PE.weak (su vp ha hb hs) (k8 fun x y H S Q rx ry dm k=>by
  obtain ⟨p,us,rfl,sq,r1⟩:=rx.iF
  obtain ⟨v,hv,r⟩:=sQ r1 h
  exact ⟨p,us,i,v,rfl,ry.aS,sq,hv,k _ H Ext.refl r⟩)
theorem yC {i:Int} (ha:DE X ρ a (.tup xs)) (hb:DE X ρ b (.int i)) (h:atI xs i=some d) (hs:jJ b:=by exact fun _ _=>rfl):DE X ρ (.Subscript a b pos) d:=
 PE.weak (su wA ha hb hs) (k8 fun x y H S Q rx ry dm k=>by
  obtain ⟨p,us,rfl,h2,r1⟩:=rx.cg
  obtain ⟨v,hv,r⟩:=sQ r1 h
  exact ⟨p,us,i,v,rfl,ry.aS,.inl (.inl h2),hv,k _ H Ext.refl r⟩)
theorem rT {c:Expr} {i j k:Int} (ha:DE X ρ a (.int i)) (hb:DE X ρ b (.int j)) (hc:DE X ρ c (.int k)) (hm:lastMarks [CmpOp.LtE,CmpOp.Lt] [b,c]=false:=by with_unfolding_all rfl):
  DE X ρ (.Compare a [.LtE,.Lt] [b,c] pos) (.bl (decide (i<=j)&&decide (j<k))):=PE.weak (ri m8 nV ha hb hc hm) fun σ H Q ⟨S,ve,kk⟩=>
 ⟨S,ve,fun x H1 e1 r1=>⟨S,ve.ext e1,fun y H2 e2 r2=>⟨i,j,r1.aS,r2.aS,decide (i<=j),rfl,by
  cases hq:decide (i<=j) with
  |false=>
   rw [hq] at kk
   exact gk (kk _ H2 (e1.trans e2) (.bl _))
  |true=>
   rw [hq,Bool.true_and] at kk
   exact fR ⟨S,(ve.ext e1).ext e2,fun z H3 e3 r3=>⟨j,k,r2.aS,r3.aS,kk _ H3 (e1.trans (e2.trans e3)) (.bl _)⟩⟩⟩⟩⟩
structure Isi (K:PySem.W.Frag) (C:Addr):Prop where
 cl:Cls K C
 ha:PySem.W.findIn K (.ref C) "__class__"=some (some (.builtin "object.__class__"))
 hn:PySem.W.specialIn K (.builtin "object.__class__") "__get__"=some (some (.builtin "getset_descriptor.__get__"))
 tk:PySem.W.takesIn K (.builtin "object.__class__")=some true
 mr:PySem.W.mroIn K C (.type "object")=some true
structure nX (K:PySem.W.Frag) (C:Addr):Prop where
 cl:iE K C
 ha:PySem.W.findIn K (.ref C) "__class__"=some (some (.builtin "object.__class__"))
 hn:PySem.W.specialIn K (.builtin "object.__class__") "__get__"=some (some (.builtin "getset_descriptor.__get__"))
 tk:PySem.W.takesIn K (.builtin "object.__class__")=some true
theorem nX.find {K:PySem.W.Frag} {C:Addr} (i:nX K C) (od:Option Obj):PySem.W.findObj K C od "__class__"=some (.bind (.builtin "getset_descriptor.__get__") (.builtin "object.__class__")):=by
 obtain ⟨cd,hc,_⟩:=PySem.W.any_some i.cl.ov
 unfold PySem.W.findObj
 rw [hc,Option.bind_some,i.ha,Option.bind_some]
 simp [i.hn,i.tk]
inductive TyD (K:PySem.W.Frag):D->Value->Prop
 |non:TyD K .non (.type "NoneType")
 |bl (b:Bool):TyD K (.bl b) (.type "bool")
 |int (i:Int):TyD K (.int i) (.type "int")
 |str (x:Str):TyD K (.str x) (.type "str")
 |tup (xs:List D):TyD K (.tup xs) (.type "tuple")
 |lst (xs:List D):TyD K (.lst xs) (.type "list")
 |ins {C:Addr} (fs:List (Str×D)) (i:Isi K C):TyD K (.ins C fs) (.ref C)
 |exc {C:Addr} (fs:List (Str×D)) (i:nX K C):TyD K (.exc C fs) (.ref C)
 |dct (kvs:List (D×D)):TyD K (.dct kvs) (.type "dict")
 |pdc (es:List (PK×D)):TyD K (.pdc es) (.type "dict")
theorem sy {pins:List (Addr×Obj)} {σ:St} {H:Hp} {s:Shared} {S:Ad} {v:V} {u t:Value} (I:Inv X pins σ H s) (r:Rds X.K H S d v) (rv:RelV v u) (ty:TyD X.K d t):
  ∃Hh:Heap->Prop,PySem.W.KitX X.K u t Hh∧Hh s.heap∧u≠.builtin "__main__.__loader__#opaque":=by
 cases ty with
 |non=>cases r;cases (show u=Value.none from rv);exact ⟨_,PySem.W.kitx_none,True.intro,fun z=>nomatch z⟩
 |bl b=>cases r;cases (show u=Value.bool b from rv);exact ⟨_,PySem.W.kitx_bool,True.intro,fun z=>nomatch z⟩
 |int i=>cases r;obtain ⟨t,q⟩:=(show ∃t,u=Value.int i t from rv);cases q;exact ⟨_,PySem.W.kitx_int,True.intro,fun z=>nomatch z⟩
 |str x=>cases r;obtain ⟨t,q⟩:=(show ∃t,u=Value.str x t from rv);cases q;exact ⟨_,PySem.W.kitx_str,True.intro,fun z=>nomatch z⟩
 |tup xs=>
  obtain ⟨a,vs,rfl,h,_⟩:=r.cg
  cases (show u=Value.ref a from rv)
  obtain ⟨its,_,⟨o,h1,h2,_⟩,_⟩:=I.tuple (.inl (.inl h))
  exact ⟨_,PySem.W.kitx_tuple,⟨o,h1,h2⟩,fun z=>nomatch z⟩
 |lst xs=>
  obtain ⟨a,vs,rfl,h,_⟩:=r.iF
  cases (show u=Value.ref a from rv)
  obtain ⟨its,_,⟨o,n,h1,h2,_⟩,_⟩:=I.list h
  exact ⟨_,PySem.W.kitx_list,⟨o,h1,h2⟩,fun z=>nomatch z⟩
 |@ins C fs i=>
  obtain ⟨a,dx,gs,rfl,h,_⟩:=r.jD
  cases (show u=Value.ref a from rv)
  obtain ⟨mA,O,_⟩:=gR I.hok h
  obtain ⟨od,J,_⟩:=O.look
  exact ⟨_,PySem.W.kitx_own (i.cl.get _) i.cl.hd i.ha i.hn i.tk i.mr,J,fun z=>nomatch z⟩
 |@exc C fs i=>
  cases r with
  |@k7 fr a _ h n=>
   cases (show u=Value.ref a from rv)
   obtain ⟨vs,h1,_⟩:=pz (I.hok a _ h)
   exact ⟨_,lh (ox:=⟨.ref C,none,.fields vs,#[]⟩) (od:=none) i.cl (i.find none),⟨h1,rfl,rfl,trivial⟩,fun z=>nomatch z⟩
  |@exc fr a _ dx _ gs h h2 n n2 rf=>
   cases (show u=Value.ref a from rv)
   obtain ⟨vs,mA,odd,h1,_,_,_,J,_⟩:=zc I h h2
   exact ⟨_,lh i.cl (i.find _),J,fun z=>nomatch z⟩
 |dct kvs=>
  cases r with
  |@dK a ks _ h _ _ _=>
   cases (show u=Value.ref a from rv)
   obtain ⟨_,_,_,_,o,_,_,h1,h2,_⟩:=I.hok a _ h
   exact ⟨_,PySem.W.kitx_dict,⟨o,h1,h2.1⟩,fun z=>nomatch z⟩
 |pdc es=>
  cases r with
  |@dP a ep ks _ h _ _=>
   cases (show u=Value.ref a from rv)
   obtain ⟨_,_,_,_,o,_,h1,h2,_⟩:=dy I.hok h
   exact ⟨_,PySem.W.kitx_dict,⟨o,h1,h2.1⟩,fun z=>nomatch z⟩
inductive ClD:D->Value->Prop
 |ty (n:String):ClD (.ty n) (.type n)
 |cl (C:Addr):ClD (.cl C) (.ref C)
inductive iD:List D->List Value->Prop
 |nil:iD [] []
 |cons {d:D} {c:Value} {ds:List D} {cs:List Value}:ClD d c->iD ds cs->iD (d::ds) (c::cs)
theorem ClD.val {K:PySem.W.Frag} {H:Hp} {S:Ad} {v:V} {u c:Value} (h:ClD d c) (r:Rds K H S d v) (rv:RelV v u):u=c:=by
 cases h with
 |ty n=>cases r;exact rv
 |cl C=>cases r;exact rv
theorem iD.vals {K:PySem.W.Frag} {H:Hp} {S:Ad}:∀{ds:List D} {vs:List V} {us cs:List Value},iD ds cs->af K H S ds vs->Vals vs us->us=cs
 |_,_,_,_,.nil,.nil,.nil=>rfl
 |_,_,_,_,.cons h t,.cons r rt,.cons q qt=>by rw [h.val r q,iD.vals t rt qt]
theorem jM {t:TA} {R:V->V->Hp->VK->Prop} (hR:∀(pins:List (Addr×Obj)) (s:Shared) (σ:St) (H:Hp) (x y:V) (u c:Value) (Q:VK),Inv X pins σ H s->RelV x u->RelV y c->R x y H Q->wpAny (model X.prog X.w) X.A (call (.builtin "isinstance") [u,c]) (EP X pins σ Q) X.xe s):
  cL X (.builtin "isinstance") (fun xs H Q=>∃x y,xs=[x,y]∧R x y H Q):=by
 intro pins s σ H xs us Q I r h
 obtain ⟨x,y,rfl,q⟩:=h
 cases r with
 |cons r1 r2=>
  cases r2 with
  |cons r2 r3=>
   cases r3
   exact hR pins s σ H x y _ _ Q I r1 r2 q
theorem xP {t c:Value} {q:Bool} {dc:D} (hg:Gl X "isinstance") (hm:X.mg "isinstance"=none) (ty:TyD X.K d t) (cl:ClD dc c) (hk:PySem.W.kitOne X.K t c=some q) (ha:DA X ρ [a,b] [d,dc])
  (he:starEach [a,b] X.env=(false,eval a X.env)::starEach [b] X.env:=by rfl) (hpl:(backTo pos (starEach [b] X.env)).any (·.1)=false:=by rfl):DE X ρ (.Call (.Name "isinstance" p) [a,b] [] pos) (.bl q):=by
 refine cZ (jM (t:=m_) (R:=fun x y H Q=>∃S,Rds X.K H S d x∧Rds X.K H S dc y∧Q (.bl q) H) ?_) (fun vs H S Q rs dm k=>?_) hg hm eD ha (by decide) (by decide) he hpl
 ·intro pins s σ H x y u cv Q I rx ry ⟨S,r1,r2,qq⟩
  obtain ⟨Hh,Z,hh,hx⟩:=sy I r1 rx ty
  rw [cl.val r2 ry]
  exact PySem.W.kia_one Z I.kIn hh hk hx fun tk=>⟨.bl q,H,I.tok tk,rfl,qq⟩
 ·obtain ⟨v,u,rfl,r1,r2⟩:=rs.two
  exact ⟨v,u,rfl,S,r1,r2,k _ H Ext.refl (.bl _)⟩
theorem uD {t:Value} {cs:List Value} {q:Bool} {dcs:List D} (hg:Gl X "isinstance") (hm:X.mg "isinstance"=none) (ty:TyD X.K d t) (cl:iD dcs cs) (hk:PySem.W.kitAny X.K t cs=some q) (ha:DA X ρ [a,b] [d,.tup dcs])
  (he:starEach [a,b] X.env=(false,eval a X.env)::starEach [b] X.env:=by rfl) (hpl:(backTo pos (starEach [b] X.env)).any (·.1)=false:=by rfl):DE X ρ (.Call (.Name "isinstance" p) [a,b] [] pos) (.bl q):=by
 refine cZ (jM (t:=m_) (R:=fun x y H Q=>∃S,Rds X.K H S d x∧Rds X.K H S (.tup dcs) y∧Q (.bl q) H) ?_) (fun vs H S Q rs dm k=>?_) hg hm eD ha (by decide) (by decide) he hpl
 ·intro pins s σ H x y u cv Q I rx ry ⟨S,r1,r2,qq⟩
  obtain ⟨Hh,Z,hh,hx⟩:=sy I r1 rx ty
  obtain ⟨tp,us,rfl,h2,rl⟩:=r2.cg
  cases (show cv=Value.ref tp from ry)
  obtain ⟨its,rv,⟨⟨oc,od,odt,osl⟩,h3,h4,n,h5⟩,_⟩:=I.tuple (.inl (.inl h2))
  simp only at h4 h5
  subst h4 h5
  rw [←cl.vals rl rv] at hk
  exact PySem.W.kia_tup Z I.kIn hh h3 hk hx fun tk=>⟨.bl q,H,I.tok tk,rfl,qq⟩
 ·obtain ⟨v,u,rfl,r1,r2⟩:=rs.two
  exact ⟨v,u,rfl,S,r1,r2,k _ H Ext.refl (.bl _)⟩
mutual
noncomputable def toPy:D->PyData
 |.non=>.none|.bl b=>.bool b|.int i=>.int i|.str x=>.str x
 |.tup xs=>.tuple (dX xs)|.lst xs=>.list (dX xs)
 |.ins _ _=>.none|.ty _=>.none|.cl _=>.none|.exc _ _=>.none|.dct _=>.none|.pdc _=>.none
noncomputable def dX:List D->List PyData
 |[]=>[]
 |x::xs=>toPy x::dX xs
end
mutual
noncomputable def aW:D->Bool
 |.non=>true|.bl _=>true|.int _=>true|.str x=>PyData.strOk x
 |.tup xs=>bW xs|.lst xs=>bW xs
 |.ins _ _=>false|.ty _=>false|.cl _=>false|.exc _ _=>false|.dct _=>false|.pdc _=>false
noncomputable def bW:List D->Bool
 |[]=>true
 |x::xs=>aW x&&bW xs
end
mutual
theorem fh:∀{d:D},aW d=true->(toPy d).canLay0=true
 |.non,_=>rfl
 |.bl _,_=>rfl
 |.int _,_=>rfl
 |.str x,h=>h
 |.tup xs,h=>iq (xs:=xs) h
 |.lst xs,h=>iq (xs:=xs) h
 |.ins _ _,h=>nomatch h
 |.exc _ _,h=>nomatch h
 |.dct _,h=>nomatch h
 |.pdc _,h=>nomatch h
 |.ty _,h=>nomatch h
 |.cl _,h=>nomatch h
theorem iq:∀{xs:List D},bW xs=true->PyData.canLayAll0 (dX xs)=true
 |[],_=>rfl
 |x::xs,h=>by
  have h':aW x=true∧bW xs=true:=by simpa [bW] using h
  show (PyData.canLay0 (toPy x)&&PyData.canLayAll0 (dX xs))=true
  rw [fh h'.1,iq h'.2];rfl
end
section
variable {pins:List (Addr×Obj)} {σ:St} {H:Hp} {s:Shared} {S:Ad}
mutual
theorem eZ (I:Inv X pins σ H s):∀(d:D) {v:V} {u:Value},aW d=true->Rds X.K H S d v->RelV v u->∃as,Reads s.heap u (toPy d) as
 |.non,_,u,_,r,q=>by cases r;cases (show u=Value.none from q);exact ⟨_,.none⟩
 |.bl b,_,u,_,r,q=>by cases r;cases (show u=Value.bool b from q);exact ⟨_,.bool b⟩
 |.int i,_,u,_,r,q=>by cases r;obtain ⟨t,q⟩:=(show ∃t,u=Value.int i t from q);cases q;exact ⟨_,.int i t⟩
 |.str x,_,u,_,r,q=>by cases r;obtain ⟨t,q⟩:=(show ∃t,u=Value.str x t from q);cases q;exact ⟨_,.str x t⟩
 |.tup xs,_,u,hd,r,q=>by
  obtain ⟨a,vs,rfl,h,rl⟩:=r.cg
  cases (show u=Value.ref a from q)
  obtain ⟨its,rv,⟨o,h1,h2,k,h3⟩,_⟩:=I.tuple (.inl (.inl h))
  obtain ⟨as,ra⟩:=g0 I xs hd rl rv
  exact ⟨_,.tuple h1 h2 h3 ra⟩
 |.lst xs,_,u,hd,r,q=>by
  obtain ⟨a,vs,rfl,h,rl⟩:=r.iF
  cases (show u=Value.ref a from q)
  obtain ⟨its,rv,⟨o,k,h1,h2,_,h3⟩,_⟩:=I.list h
  obtain ⟨as,ra⟩:=g0 I xs hd rl rv
  exact ⟨_,.list h1 h2 h3 ra⟩
 |.ins _ _,_,_,h,_,_=>nomatch h
 |.exc _ _,_,_,h,_,_=>nomatch h
 |.dct _,_,_,h,_,_=>nomatch h
 |.pdc _,_,_,h,_,_=>nomatch h
 |.ty _,_,_,h,_,_=>nomatch h
 |.cl _,_,_,h,_,_=>nomatch h
theorem g0 (I:Inv X pins σ H s):∀(ds:List D) {vs:List V} {us:List Value},bW ds=true->af X.K H S ds vs->Vals vs us->∃as,ReadsAll s.heap us (dX ds) as
 |[],_,_,_,r,q=>by cases r;cases q;exact ⟨_,.nil⟩
 |d::ds,_,_,hd,r,q=>by
  cases r with
  |cons r t=>
   cases q with
   |cons q qt=>
    have h':aW d=true∧bW ds=true:=by simpa [bW] using hd
    obtain ⟨as,ra⟩:=eZ I d h'.1 r q
    obtain ⟨bs,rb⟩:=g0 I ds h'.2 t qt
    exact ⟨_,.cons ra rb⟩
end
end
noncomputable def eqD (d d':D):Bool:=PyData.eqv (toPy d) (toPy d')
theorem ot {hu:X.A.units+64<cLine} (h1:aW da=true) (h2:aW db=true) (hd:min (toPy da).depth (toPy db).depth<=64):OpR X (compareOp .Eq) (fun x y H Q=>∃S,Rds X.K H S da x∧Rds X.K H S db y∧Q (.bl (eqD da db)) H):=by
 intro pins s σ H x y v u Q I rx ry ⟨S,r1,r2,q⟩
 obtain ⟨as,ra⟩:=eZ I _ h1 r1 rx
 obtain ⟨bs,rb⟩:=eZ I _ h2 r2 ry
 exact SeqAt.compareEq_reads ra rb (fh h1) (fh h2) (Nat.lt_of_le_of_lt (Nat.add_le_add_left hd _) hu) ⟨.bl _,H,I,rfl,q⟩
theorem pN {hu:X.A.units+64<cLine} (h1:aW da=true) (h2:aW db=true) (hd:min (toPy da).depth (toPy db).depth<=64):OpR X (compareOp .NotEq) (fun x y H Q=>∃S,Rds X.K H S da x∧Rds X.K H S db y∧Q (.bl (!eqD da db)) H):=by
 intro pins s σ H x y v u Q I rx ry ⟨S,r1,r2,q⟩
 obtain ⟨as,ra⟩:=eZ I _ h1 r1 rx
 obtain ⟨bs,rb⟩:=eZ I _ h2 r2 ry
 exact SeqAt.compareNe_reads ra rb (fh h1) (fh h2) (Nat.lt_of_le_of_lt (Nat.add_le_add_left hd _) hu) ⟨.bl _,H,I,rfl,q⟩
theorem yn (hu:X.A.units+64<cLine) (h1:aW da=true) (h2:aW db=true) (hd:min (toPy da).depth (toPy db).depth<=64) (ha:DE X ρ a da) (hb:DE X ρ b db):DE X ρ (.Compare a [.Eq] [b] pos) (.bl (eqD da db)):=
 bQ (ot (hu:=hu) h1 h2 hd) (fun x y H S Q rx ry dm k=>⟨S,rx,ry,k _ H Ext.refl (.bl _)⟩) ha hb (aL _)
theorem xx (hu:X.A.units+64<cLine) (h1:aW da=true) (h2:aW db=true) (hd:min (toPy da).depth (toPy db).depth<=64) (ha:DE X ρ a da) (hb:DE X ρ b db):DE X ρ (.Compare a [.NotEq] [b] pos) (.bl (!eqD da db)):=
 bQ (pN (hu:=hu) h1 h2 hd) (fun x y H S Q rx ry dm k=>⟨S,rx,ry,k _ H Ext.refl (.bl _)⟩) ha hb (aL _)
theorem xF (hu:X.A.units+64<cLine) (h1:aW da=true) (h2:aW db=true) (hd:min (toPy da).depth (toPy db).depth<=64) (ha:DE X ρ a da) (hb:DE X ρ b db):DT X ρ (.Compare a [.Eq] [b] pos) (eqD da db):=
 bP (ot (hu:=hu) h1 h2 hd) (fun x y H S Q rx ry dm k=>⟨S,rx,ry,k _ H Ext.refl (.bl _)⟩) ha hb (aL _)
theorem yH (hu:X.A.units+64<cLine) (h1:aW da=true) (h2:aW db=true) (hd:min (toPy da).depth (toPy db).depth<=64) (ha:DE X ρ a da) (hb:DE X ρ b db):DT X ρ (.Compare a [.NotEq] [b] pos) (!eqD da db):=
 bP (pN (hu:=hu) h1 h2 hd) (fun x y H S Q rx ry dm k=>⟨S,rx,ry,k _ H Ext.refl (.bl _)⟩) ha hb (aL _)
end
end CT
namespace CT
open PySem PySem.Spec L2
open PyProof.Rows hiding St
noncomputable def dh (scope sc:Scope):Scope:={scope with names:=scope.names.map fun (n,k)=>if (k==.free&&sc.kind==.function&&sc.names.lookup n==some .cell) then (n,.cell) else (n,k)}
noncomputable def jt (scope:Scope) (own:List Str) (cap:List (Str×Nat)) (sc:Scope) (N:List Str):Bool:=
 decide (scope.kind=.function)&&decide ((scope.names.map (·.1)).Nodup)&&(scope.names.all fun x=>x.2 !=.free||sc.names.lookup x.1==some .cell||sc.names.lookup x.1==some .free)&&
  (own.all fun x=>scope.names.contains (x,.local)||scope.names.contains (x,.cell))&&(cap.all fun p=>N[p.2]?==some p.1&&scope.names.contains (p.1,.free))&&decide ((own++cap.map (·.1)).Nodup)
theorem CS.of {X:Cx} {scope:Scope} {own:List Str} {cap:List (Str×Nat)} (sc:Scope) (N:List Str) (h1:X.env.scope=sc) (h2:X.N=N) (h:jt scope own cap sc N=true):CS X scope own cap:=by
 unfold jt at h
 simp only [Bool.and_eq_true,decide_eq_true_eq,List.all_eq_true,Bool.or_eq_true,beq_iff_eq,bne_iff_ne,ne_eq,List.contains_iff_mem] at h
 obtain ⟨⟨⟨⟨⟨a1,a2⟩,a3⟩,a4⟩,a5⟩,a6⟩:=h
 subst h2
 refine ⟨a1,a2,fun x hx e=>?_,a4,a5,a6⟩
 show X.env.scope.names.lookup x.1=_∨X.env.scope.names.lookup x.1=_
 rw [h1]
 rcases a3 x hx with (z|z)|z
 ·exact absurd e z
 ·exact .inl z
 ·exact .inr z
theorem j7:∀{ks ns:List Int},bY (ks.map .int) (ns.map .int)=(ks.zip ns).map fun p=>.tup [.int p.1,.int p.2]
 |[],_=>by simp [bY]
 |_::_,[]=>by simp [bY]
 |k::ks,n::ns=>by simp [bY,j7]
noncomputable def ar (n:Int):List Int:=(List.range n.toNat).map fun k:Nat=>(k:Int)
theorem oy (n:Int):iG n.toNat=(ar n).map D.int:=by simp [iG,ar]
theorem ke (n:Nat):(ar n).length=n:=by simp [ar]
theorem eO {n k:Int} (h:k∈ar n):0<=k∧k<n:=by
 obtain ⟨i,hi,rfl⟩:=List.mem_map.mp h
 have:=List.mem_range.mp hi
 omega
theorem oC {X:Cx} {tg a:Expr} {ρ:Rho} {j:Int} {p pos:Pos} (hg:Gl X "range") (hm:X.mg "range"=none) (ha:DA X ρ [a] [.int j]) (h1: -(2^62)<=j) (h2:j<2^62) (hs:starEach [a] X.env=[(false,eval a X.env)]:=by rfl):DI X tg ρ (.Call (.Name "range" p) [a] [] pos) ((ar j).map D.int):=by
 rw [←oy]
 exact rM hg hm ha h1 h2 hs
noncomputable abbrev gN (ns:List Int):List D:=ns.map .int
noncomputable abbrev tupI (ns:List Int):D:=.tup (ns.map .int)
noncomputable def Wk (ρ ρ':Rho):Prop:=ρ'.length=ρ.length∧∀(i:Nat) (x:Sl),ρ'[i]?=some x->x=.any∨ρ[i]?=some x
theorem Fm.wk {K:PySem.W.Frag} {H₀ H:Hp} {S₀ S:Ad} {ρ ρ':Rho} {σ:St} (w:Wk ρ ρ') (f:Fm K H₀ S₀ H S ρ σ):Fm K H₀ S₀ H S ρ' σ:=by
 have go:∀(i:Nat) (x:Sl),ρ'[i]?=some x->x.dj->ρ[i]?=some x:=fun i x h o=>by
  rcases w.2 i x h with z|z
  ·rw [z] at o;exact o.elim
  ·exact z
 refine ⟨⟨w.1.trans f.ve.len,fun i x h=>?_,fun i j x y a hij h1 h2 o1 o2=>f.ve.dist i j x y a hij (go i x h1 o1) (go j y h2 o2) o1 o2,f.ve.dom⟩,f.ext,f.sub,f.new,f.dm,fun i x a h o=>f.own i x a (go i x h o) o⟩
 rcases w.2 i x h with z|z
 ·subst z
  have hi:=(List.getElem?_eq_some_iff.mp h).1
  have hi':i<σ.length:=by rw [←f.ve.len,←w.1];exact hi
  exact ⟨σ[i],by simp [hi'],trivial⟩
 ·exact f.ve.rel i x z
section
variable {X:Cx} {ρ ρ' ρ1:Rho} {sts:List Stmt} {st:Stmt} {o:Out}
theorem jC (w:Wk ρ ρ') (h:DSs X ρ' sts o):DSs X ρ sts o:=PSs.weak h fun E σ H ⟨H₀,S₀,S,f,k⟩=>⟨H₀,S₀,S,f.wk w,k⟩
end
mutual
noncomputable def ai:D->Bool
 |.non=>true|.bl _=>true|.int _=>true|.str _=>true|.ty _=>true|.cl _=>false
 |.tup xs=>aO xs|.lst _=>false|.ins _ fs=>fe fs|.exc _ _=>false|.dct _=>false|.pdc _=>false
noncomputable def aO:List D->Bool
 |[]=>true
 |x::xs=>ai x&&aO xs
noncomputable def fe:List (Str×D)->Bool
 |[]=>true
 |(_,x)::xs=>ai x&&fe xs
end
section
variable {K:PySem.W.Frag} {H:Hp} {S:Ad} {a:Addr} {us:List V} {o:HO}
noncomputable def fD (a:Addr) (o:HO):Prop:=(∃vs,o=.lst vs)∨∃ep kvs,o=PD a ep kvs
theorem fD.tup {b:Addr} {vs:List V} (c:fD a o) (ha:H a=some o) (e:H b=some (.tup vs)):b≠a:=fun q=>by
 rw [q,ha] at e
 rcases c with ⟨_,rfl⟩|⟨_,_,rfl⟩<;>cases e
theorem fD.ins {b C dx:Addr} {gs:List (Str×V)} (c:fD a o) (ha:H a=some o) (e:H b=some (.ins C dx gs)):b≠a:=fun q=>by
 rw [q,ha] at e
 rcases c with ⟨_,rfl⟩|⟨_,_,rfl⟩<;>cases e
mutual
theorem Rds.cF (cc:fD a o) (ha:H a=some o):∀(d:D) {v:V},ai d=true->Rds K H S d v->Rds K H (S.and a) d v
 |.non,_,_,r=>by cases r;exact .non
 |.bl b,_,_,r=>by cases r;exact .bl b
 |.int i,_,_,r=>by cases r;exact .int i
 |.str x,_,_,r=>by cases r;exact .str x
 |.ty n,_,_,r=>by cases r;exact .ty n
 |.cl _,_,h,_=>nomatch h
 |.lst _,_,h,_=>nomatch h
 |.exc _ _,_,h,_=>nomatch h
 |.dct _,_,h,_=>nomatch h
 |.pdc _,_,h,_=>nomatch h
 |.tup xs,_,h,r=>by
  cases r with
  |tup e n r=>exact .tup e (fun z=>z.elim n (cc.tup ha e)) (af.cF cc ha xs h r)
 |.ins C fs,_,h,r=>by
  cases r with
  |ins e n r=>exact .ins e (fun z=>z.elim n (cc.ins ha e)) (aF.cF cc ha fs h r)
theorem af.cF (cc:fD a o) (ha:H a=some o):∀(ds:List D) {vs:List V},aO ds=true->af K H S ds vs->af K H (S.and a) ds vs
 |[],_,_,r=>by cases r;exact .nil
 |d::ds,_,h,r=>by
  have h':ai d=true∧aO ds=true:=by simpa [aO] using h
  cases r with
  |cons r t=>exact .cons (Rds.cF cc ha d h'.1 r) (af.cF cc ha ds h'.2 t)
theorem aF.cF (cc:fD a o) (ha:H a=some o):∀(ds:List (Str×D)) {vs:List (Str×V)},fe ds=true->aF K H S ds vs->aF K H (S.and a) ds vs
 |[],_,_,r=>by cases r;exact .nil
 |(n,d)::ds,_,h,r=>by
  have h':ai d=true∧fe ds=true:=by simpa [fe] using h
  cases r with
  |cons r t=>exact .cons (Rds.cF cc ha d h'.1 r) (aF.cF cc ha ds h'.2 t)
end
end
theorem cf:∀ks:List Int,aO (ks.map .int)=true
 |[]=>rfl
 |k::ks=>by show (true&&aO (ks.map .int))=true;rw [cf ks];rfl
theorem VE.sZ {K:PySem.W.Frag} {H:Hp} {S:Ad} {ρ:Rho} {σ:St} {i:Nat} {c:Ow} (f:VE K H S ρ σ) (hr:ρ[i]?=some (.owx c)):∃S' a o,H a=some o∧fD a o∧(∀b,S b->S' b∨b=a)∧VE K H S' (ρ.set i (.val c.D)) σ:=by
 obtain ⟨v,q1,a,vs,rfl,sa,ha,r⟩:=f.rel i _ hr
 have hi:=(List.getElem?_eq_some_iff.mp hr).1
 have own_ne:∀(m:Nat) (x:Sl) (c:Addr),i≠m->ρ[m]?=some x->x.dj->σ[m]?=some (some (.ref c))->c≠a:=fun m x c hm h ho hs z=>f.dist i m _ x a hm hr h trivial ho q1 (by rw [hs,z])
 refine ⟨fun b=>S b∧b≠a,a,vs,ha,r.sort,fun b h=>(Classical.em (b=a)).elim .inr fun n=>.inl ⟨h,n⟩,⟨by simpa using f.len,fun j x h=>?_,fun j k x y b hjk h1 h2 o1 o2 h3=>?_,fun b h=>f.dom b h.1⟩⟩
 ·by_cases hj:i=j
  ·subst hj
   rw [List.getElem?_set_self hi] at h
   cases h
   exact ⟨_,q1,_,rfl,(r.av fun b h=>.inl h.1).rds ha fun z=>z.2 rfl⟩
  ·rw [List.getElem?_set_ne hj] at h
   obtain ⟨v,h1,h2⟩:=f.rel j x h
   refine ⟨v,h1,?_⟩
   cases x with
   |nil=>exact h2
   |any=>trivial
   |val d=>obtain ⟨u,p,r⟩:=h2;exact ⟨u,p,r.av fun b h=>.inl h.1⟩
   |owx zs=>exact RO.av (x:=.owx zs) (fun b h=>.inl h.1) (fun b z s=>⟨s,own_ne j _ b hj h trivial (by rw [h1,z])⟩) h2
   |new C y dx fs=>exact RO.av (x:=.new C y dx fs) (fun b h=>.inl h.1) (fun b z s=>⟨s,own_ne j _ b hj h trivial (by rw [h1,z])⟩) h2
 ·have n1:i≠j:=fun z=>by
   subst z
   rw [List.getElem?_set_self hi] at h1;cases h1;exact o1
  have n2:i≠k:=fun z=>by
   subst z
   rw [List.getElem?_set_self hi] at h2;cases h2;exact o2
  rw [List.getElem?_set_ne n1] at h1
  rw [List.getElem?_set_ne n2] at h2
  exact f.dist j k x y b hjk h1 h2 o1 o2 h3
theorem sj {X:Cx} {ρ:Rho} {e:Expr} {d:D} {i:Nat} {c:Ow} (hr:ρ[i]?=some (.owx c)) (hf:ai d=true) (h:DE X (ρ.set i (.val c.D)) e d):DE X ρ e d:=PE.weak h fun σ H Q ⟨S,ve,k⟩=>by
 obtain ⟨S',a,us,ha,cc,hS,ve'⟩:=ve.sZ hr
 refine ⟨S',ve',fun v H' ex r=>k v H' ex ?_⟩
 exact (Rds.cF cc (ex _ _ (fun z=>z) ha) d hf r).av fun b h=>.inl (hS b h)
end CT
namespace CT
open PySem PySem.Spec L2
open PyProof.Rows hiding St
theorem gh {α:Type} {a b c d e f x:α} (h:x∈[a,c,d,e,f]):x∈[a,b,c,d,e,f]:=by
 simp only [List.mem_cons,List.not_mem_nil,or_false] at h ⊢
 rcases h with h|h|h|h|h<;>simp [h]
theorem qd {P:Program} {w:World} {K:PySem.W.Frag} {elts:List Expr} {x1} {pos:Pos} {z TI TO i1 i2 i3 a1 a2 a3:Addr} {b1 b2 b3:Bool} (nd:[z,TI,TO,i1,i2,i3].Nodup):
  Turn P w K (.Tuple elts x1 pos) (vS K b1 b2 b3 a1 a2 a3) [z,TI,TO,i1,i2,i3] z
   (fun i h=>IsZip h z TI TO .none∧ak h TI #[.ref i1,.ref i2,.ref i3]∧(∃ts,ak h TO ts∧ts.size=3)∧Sit h b1 i1 a1 i∧Sit h b2 i2 a2 i∧Sit h b3 i3 a3 i) where
 mem:=by simp
 obj:=fun i h ⟨q1,q2,⟨ts,q3,_⟩,q4,q5,q6⟩ b hb=>by
  simp only [List.mem_cons,List.not_mem_nil,or_false] at hb
  rcases hb with rfl|rfl|rfl|rfl|rfl|rfl
  ·exact ⟨_,q1,fun v e=>by have e':Data.fields _=Data.cell v:=e;cases e'⟩
  ·exact ⟨_,q2,fun v e=>by have e':Data.seq _ _=Data.cell v:=e;cases e'⟩
  ·exact ⟨_,q3,fun v e=>by have e':Data.seq _ _=Data.cell v:=e;cases e'⟩
  ·obtain ⟨o,n,vs,e,_,d⟩:=q4.rec
   exact ⟨o,e,fun v e=>by rw [d] at e;cases e⟩
  ·obtain ⟨o,n,vs,e,_,d⟩:=q5.rec
   exact ⟨o,e,fun v e=>by rw [d] at e;cases e⟩
  ·obtain ⟨o,n,vs,e,_,d⟩:=q6.rec
   exact ⟨o,e,fun v e=>by rw [d] at e;cases e⟩
 keep:=fun i h h' ⟨q1,q2,⟨ts,q3,q3'⟩,q4,q5,q6⟩ k=>⟨k z (by simp) _ q1,k TI (by simp) _ q2,⟨ts,k TO (by simp) _ q3,q3'⟩,q4.at fun o e=>k i1 (by simp) o e,q5.at fun o e=>k i2 (by simp) o e,q6.at fun o e=>k i3 (by simp) o e⟩
 item:=by
  intro X hP hw hK hc i pins s σ H E I hf ⟨q1,q2,⟨ts,q3,q3'⟩,q4,q5,q6⟩ hg
  subst hP hw hK
  obtain ⟨xs,ys,us,x,y,u0,hx,hy,hu,ex,ey,eu0⟩:=hg
  obtain ⟨its,r1,p1,_⟩:=CT.Inv.sqb I hx
  obtain ⟨its2,r2,p2,_⟩:=CT.Inv.sqb I hy
  obtain ⟨its3,r3,p3,_⟩:=CT.Inv.sqb I hu
  obtain ⟨u,eu,ru⟩:=jB r1 ex
  obtain ⟨v,ev,rv⟩:=jB r2 ey
  obtain ⟨t,et,rt⟩:=jB r3 eu0
  have n1:a1∉[z,TO,i1,i2,i3]:=fun m=>CT.Inv.dv I hx (hf a1 (gh m)) rfl
  have n2:a2∉[z,TO,i1,i2,i3]:=fun m=>CT.Inv.dv I hy (hf a2 (gh m)) rfl
  have n3:a3∉[z,TO,i1,i2,i3]:=fun m=>CT.Inv.dv I hu (hf a3 (gh m)) rfl
  refine d5 q1 (p0 nd n1 n2 n3 q1 q2 q3 q3' q4 q5 q6 p1 p2 p3 eu ev et fun h' z1 z2 z3 z4 z4' z5 z6 kk=>?_)
  refine ⟨_,rfl,wpAny_letOwnedTupleGo_zip z1 fun h2 z1' sb=>?_⟩
  have nT:∀b∈[z,TI,TO,i1,i2,i3],b≠s.heap.objs.size:=fun b hb=>by
   simp only [List.mem_cons,List.not_mem_nil,or_false] at hb
   rcases hb with rfl|rfl|rfl|rfl|rfl|rfl
   ·exact Nat.ne_of_lt (Heap.lt_size q1)
   ·exact Nat.ne_of_lt (Heap.lt_size q2)
   ·exact Nat.ne_of_lt (Heap.lt_size q3)
   ·obtain ⟨o,n,vs,e,_,d⟩:=q4.rec;exact Nat.ne_of_lt (Heap.lt_size e)
   ·obtain ⟨o,n,vs,e,_,d⟩:=q5.rec;exact Nat.ne_of_lt (Heap.lt_size e)
   ·obtain ⟨o,n,vs,e,_,d⟩:=q6.rec;exact Nat.ne_of_lt (Heap.lt_size e)
  have nd':=nd
  simp only [List.nodup_cons,List.mem_cons,List.not_mem_nil,or_false,not_or,List.nodup_nil,and_true,not_false_eq_true] at nd'
  obtain ⟨⟨zTI,zTO,zi1,zi2,zi3⟩,⟨TITO,TIi1,TIi2,TIi3⟩,⟨TOi1,TOi2,TOi3⟩,⟨i12,i13⟩,i23⟩:=nd'
  have k2:∀c o,c∉[z,TO,i1,i2,i3]->s.heap.get? c=some o->h2.get? c=some o:=fun c o hc e=>sb.extBut c o (fun q=>hc (by simp [q])) (kk c o hc e)
  have I1:Inv X pins σ H {s with heap:=h2}:=CT.Inv.d_ (t':=s.toks) (ch:=[z,TO,i1,i2,i3]) I (fun b hb=>hf b (gh hb)) k2
  have hT:h2.get? s.heap.objs.size=some {cls:=.type "tuple",data:=.seq #[u,v,t]}:=sb.extBut _ _ (Ne.symm (nT z (by simp))) z5
  have I2:Inv X pins σ (upd H s.heap.objs.size (.tup [x,y,u0])) {s with heap:=h2}:=CT.Inv.adopt I1 (I.eg (Nat.le_refl _) (I.hok.fresh (Nat.le_refl _)))
   ⟨by show 3<=sizeLine;decide,[u,v,t],.cons ru (.cons rv (.cons rt .nil)),_,hT,rfl,_,rfl⟩
  refine ⟨.ref s.heap.objs.size,_,I2,rfl,⟨_,x,y,u0,I.hok.fresh (Nat.le_refl _),rfl,rfl,fun xs' h'=>by rw [CT.Inv.d9 I h' hx];exact ex,fun ys' h'=>by rw [CT.Inv.d9 I h' hy];exact ey,fun us' h'=>by rw [CT.Inv.d9 I h' hu];exact eu0⟩,?_,fun b hb=>?_⟩
  ·refine ⟨z1',k2 _ _ (by simp [Ne.symm zTI,TITO,TIi1,TIi2,TIi3]) q2,⟨#[u,v,t],sb.extBut _ _ (Ne.symm zTO) z2,rfl⟩,z3.at fun o e=>sb.extBut _ _ (Ne.symm zi1) e,z4.at fun o e=>sb.extBut _ _ (Ne.symm zi2) e,z4'.at fun o e=>sb.extBut _ _ (Ne.symm zi3) e⟩
  ·rw [aj (nT b hb)];exact (hf b hb).1
 done:=by
  intro X hP hw hK hc i pins s σ H E I hf ⟨q1,q2,⟨ts,q3,q3'⟩,q4,q5,q6⟩ hg
  subst hP hw hK
  obtain ⟨xs,ys,us,hx,hy,hu,he⟩:=hg
  obtain ⟨its,r1,p1,_⟩:=CT.Inv.sqb I hx
  obtain ⟨its2,r2,p2,_⟩:=CT.Inv.sqb I hy
  obtain ⟨its3,r3,p3,_⟩:=CT.Inv.sqb I hu
  have n1:a1∉[z,TO,i1,i2,i3]:=fun m=>CT.Inv.dv I hx (hf a1 (gh m)) rfl
  have n2:a2∉[z,TO,i1,i2,i3]:=fun m=>CT.Inv.dv I hy (hf a2 (gh m)) rfl
  have n3:a3∉[z,TO,i1,i2,i3]:=fun m=>CT.Inv.dv I hu (hf a3 (gh m)) rfl
  refine d5 q1 (qY (I.ok.hd hc) nd n1 n2 n3 q1 q2 q3 q3' q4 q5 q6 p1 p2 p3 (he.imp (jk r1) fun z=>z.imp (jk r2) (jk r3)) fun h' e kk ⟨o,ho,hcls⟩=>⟨e,o,rfl,ho,hcls,rfl,?_⟩)
  exact CT.Inv.d_ (t':=s.toks) (ch:=[z,TO,i1,i2,i3]) I (fun b hb=>hf b (gh hb)) kk
 self:=fun _ _ _ _ _ ⟨q1,_⟩ h=>wpAny_pyIter_zip q1 h
section
variable {X:Cx} {elts:List Expr} {tpos:Pos}
theorem vt {a b c:Expr} {ta:TA} {k} {p pos:Pos} (hg:Gl X "zip") (hm:X.mg "zip"=none) (ha:PA X [a,b,c] ta) (hs:starEach [a,b,c] X.env=[(false,eval a X.env),(false,eval b X.env),(false,eval c X.env)]:=by rfl)
  (hs2:starEach [b,c] X.env=[(false,eval b X.env),(false,eval c X.env)]:=by rfl):PI X (.Tuple elts k tpos) (.Call (.Name "zip" p) [a,b,c] [] pos) (zm X.K ta):=by
 intro pins s σ H R I h
 refine Call_ (dM I hg hm boot_zip (PyProof.Rows.callWith_type1 (thn (ha pos pins s σ H _ I h) fun us s1 ⟨vs,H1,I1,r1,q1⟩=>?_) (by rw [hs,hs2]) (by rw [hs2];rfl)))
 obtain ⟨b1,b2,b3,a1,a2,a3,xs,ys,us',e,hx,hy,hu,q⟩:=q1
 subst e
 cases r1 with
 |cons r rr=>
  cases rr with
  |cons r' rr=>
   cases rr with
   |cons r'' rr=>
    cases rr
    cases r
    cases r'
    cases r''
    obtain ⟨its,rv1,p1,_⟩:=CT.Inv.sqb I1 hx
    obtain ⟨its2,rv2,p2,_⟩:=CT.Inv.sqb I1 hy
    obtain ⟨its3,rv3,p3,_⟩:=CT.Inv.sqb I1 hu
    refine nW p1 p2 p3 fun h' x1 x2 x3 x4 x5 x5' x6 x7=>?_
    refine wpAny_pyIter_zip x3 ?_
    refine ⟨_,_,_,_,H1,rfl,I1.kept (t':=s1.toks) x6,qd (TI:=s1.heap.objs.size+3) (TO:=s1.heap.objs.size+4) (i1:=s1.heap.objs.size) (i2:=s1.heap.objs.size+1) (i3:=s1.heap.objs.size+2) (by simp),⟨x3,x1,⟨_,x2,rfl⟩,x4,x5,x5'⟩,fun b hb=>?_,q⟩
    have hle:s1.heap.objs.size<=b:=by
     simp only [List.mem_cons,List.not_mem_nil,or_false] at hb
     rcases hb with rfl|rfl|rfl|rfl|rfl|rfl<;>omega
    exact I1.eg hle (I1.hok.fresh hle)
end
theorem af.three {K:PySem.W.Frag} {H:Hp} {S:Ad} {d e f:D} {vs:List V} (r:af K H S [d,e,f] vs):∃v u t,vs=[v,u,t]∧Rds K H S d v∧Rds K H S e u∧Rds K H S f t:=by
 cases r with|cons r t=>obtain ⟨u,w,rfl,q1,q2⟩:=t.two;exact ⟨_,_,_,rfl,r,q1,q2⟩
noncomputable def a7:List D->List D->List D->List D
 |x::xs,y::ys,z::zs=>.tup [x,y,z]::a7 xs ys zs
 |_,_,_=>[]
theorem jP:∀{xs ys zs:List D} {i:Nat} {d:D},(a7 xs ys zs)[i]?=some d->∃x y z,xs[i]?=some x∧ys[i]?=some y∧zs[i]?=some z∧d=.tup [x,y,z]
 |x::xs,y::ys,z::zs,0,d,h=>by
  simp [a7] at h
  exact ⟨x,y,z,rfl,rfl,rfl,h.symm⟩
 |x::xs,y::ys,z::zs,i+1,d,h=>by
  simp [a7] at h
  obtain ⟨x',y',z',h1,h2,h3,h4⟩:=jP h
  exact ⟨x',y',z',by simpa using h1,by simpa using h2,by simpa using h3,h4⟩
 |[],_,_,_,_,h=>by simp [a7] at h
 |_::_,[],_,_,_,h=>by simp [a7] at h
 |_::_,_::_,[],_,_,h=>by simp [a7] at h
theorem jZ:∀{xs ys zs:List D},(a7 xs ys zs).length=min xs.length (min ys.length zs.length)
 |x::xs,y::ys,z::zs=>by simp [a7,jZ]
 |[],_,_=>by simp [a7]
 |_::_,[],_=>by simp [a7]
 |_::_,_::_,[]=>by simp [a7]
section
variable {X:Cx} {ρ:Rho} {pos p tpos:Pos} {a b c:Expr}
theorem uq {da db dc:D} {xs ys zs:List D} {elts:List Expr} {k} (hg:Gl X "zip") (hm:X.mg "zip"=none) (qa:Sq da xs) (qb:Sq db ys) (qc:Sq dc zs) (ha:DA X ρ [a,b,c] [da,db,dc])
  (hs:starEach [a,b,c] X.env=[(false,eval a X.env),(false,eval b X.env),(false,eval c X.env)]:=by rfl) (hs2:starEach [b,c] X.env=[(false,eval b X.env),(false,eval c X.env)]:=by rfl):DI X (.Tuple elts k tpos) ρ (.Call (.Name "zip" p) [a,b,c] [] pos) (a7 xs ys zs):=
 PI.weak (vt hg hm ha hs hs2) fun σ H R ⟨S,ve,kk⟩=>⟨S,ve,fun vs H' ex rs=>by
  obtain ⟨v,u,t,rfl,r1,r2,r3⟩:=rs.three
  obtain ⟨b1,a1,vs1,rfl,l1⟩:=qa.later r1
  obtain ⟨b2,a2,vs2,rfl,l2⟩:=qb.later r2
  obtain ⟨b3,a3,vs3,rfl,l3⟩:=qc.later r3
  refine ⟨b1,b2,b3,a1,a2,a3,vs1,vs2,vs3,rfl,(l1 H' S Ext.refl fun a h=>.inl h).1,(l2 H' S Ext.refl fun a h=>.inl h).1,(l3 H' S Ext.refl fun a h=>.inl h).1,kk _ H' ex fun H2 S2 e2 z2 dm i=>?_⟩
  obtain ⟨s1,t1⟩:=l1 H2 S2 e2 z2
  obtain ⟨s2,t2⟩:=l2 H2 S2 e2 z2
  obtain ⟨s3,t3⟩:=l3 H2 S2 e2 z2
  refine ⟨fun d hd=>?_,fun hi=>⟨vs1,vs2,vs3,s1,s2,s3,?_⟩⟩
  ·obtain ⟨x,y,z,hx,hy,hz,rfl⟩:=jP hd
   obtain ⟨x',hx',rx⟩:=t1.get hx
   obtain ⟨y',hy',ry⟩:=t2.get hy
   obtain ⟨z',hz',rz⟩:=t3.get hz
   refine ⟨⟨vs1,vs2,vs3,x',y',z',s1,s2,s3,hx',hy',hz'⟩,fun w H3 yl=>?_⟩
   obtain ⟨T,x2,y2,w2,hT,rfl,rfl,g1,g2,g3⟩:=yl
   have e1:=g1 vs1 s1
   have e2':=g2 vs2 s2
   have e3':=g3 vs3 s3
   rw [hx'] at e1;cases e1
   rw [hy'] at e2';cases e2'
   rw [hz'] at e3';cases e3'
   exact ⟨Ext.new hT,Rds.eJ dm hT (.cons rx (.cons ry (.cons rz .nil)))⟩
  ·have h1:=t1.length
   have h2:=t2.length
   have h3:=t3.length
   rw [jZ] at hi
   omega⟩
end
inductive WhO (X:Cx) (c:Expr) (body:List Stmt):Nat->Rho->Out->Prop
 |stop {n:Nat} {ρ:Rho}:DT X ρ c false->WhO X c body n ρ (.nx ρ)
 |turn {n:Nat} {ρ ρ':Rho} {o:Out}:DT X ρ c true->DSs X ρ body (.nx ρ')->WhO X c body n ρ' o->WhO X c body (n+1) ρ o
 |ret {n:Nat} {ρ:Rho} {o:Out}:DT X ρ c true->DSs X ρ body o->o.ends->WhO X c body n ρ o
theorem q_ {X:Cx} {c:Expr} {body:List Stmt} {n:Nat} {ρ:Rho} {o:Out} {pos:Pos} (hp:PassesOwn (model X.prog X.w) X.A X.env X.xe) (h:WhO X c body n ρ o):DS X ρ (.While c body [] pos) o:=by
 have pc:PT X c (ttA X.K fun ρ b=>DT X ρ c b):=fun pins s σ H Q I ⟨_,_,g,q⟩=>g pins s σ H Q I q
 refine PS.weak (qG hp pc (gO (sts:=body))) ?_
 rintro E σ H ⟨H₀,S₀,S,f,k⟩
 refine ⟨fun m σ' H'=>∃S' ρ',Fm X.K H₀ S₀ H' S' ρ' σ'∧WhO X c body m ρ' o,⟨n,S,ρ,f,h⟩,?_⟩
 rintro m σ' H' ⟨S',ρ',f',hw⟩
 cases hw with
 |stop hc=>exact ⟨ρ',false,hc,S',f'.ve,fun H1 ex=>gk (k σ' H1 S' (f'.grow ex))⟩
 |turn hc hb hr=>
  rename_i n ρ2
  refine ⟨ρ',true,hc,S',f'.ve,fun H1 ex=>fR ⟨fun σ2 H2=>∃S2,Fm X.K H₀ S₀ H2 S2 ρ2 σ2,fun σ2 H2 ⟨S2,f2⟩=>⟨n,Nat.lt_succ_self _,S2,ρ2,f2,hr⟩,ρ',_,hb,H₀,S₀,S',f'.grow ex,fun σ3 H3 S3 f3=>⟨S3,f3⟩⟩⟩
 |ret hc hb hend=>
  refine ⟨ρ',true,hc,S',f'.ve,fun H1 ex=>fR ⟨fun _ _=>False,fun _ _ z=>z.elim,ρ',o,hb,H₀,S₀,S',f'.grow ex,?_⟩⟩
  cases o with
  |nx _=>exact hend.elim
  |rt d=>exact k
  |rfx xs=>exact k
section
variable {X:Cx} {ρ:Rho} {e a b:Expr} {p pos:Pos} {da:D}
theorem n_:bootBuiltins "min"=some (.builtin "min"):=by decide+kernel
theorem uY {i j:Int} (hc:X.calm=true) (hg:Gl X "min") (hm:X.mg "min"=none) (ha:DA X ρ [a,b] [.int i,.int j]) (he:starEach [a,b] X.env=(false,eval a X.env)::starEach [b] X.env:=by rfl) (hpl:(backTo pos (starEach [b] X.env)).any (·.1)=false:=by rfl):
  DE X ρ (.Call (.Name "min" p) [a,b] [] pos) (.int (if j<i then j else i)):=
 cZ (pZ hc) (fun vs H S Q rs dm k=>by
  obtain ⟨v,u,rfl,r1,r2⟩:=rs.two
  exact ⟨i,j,by rw [r1.aS,r2.aS],k _ H Ext.refl (.int _)⟩) hg hm n_ ha (by decide) (by decide) he hpl
noncomputable def iN (i j:Int):List Int:=(List.range (j - i).toNat).map fun k:Nat=>i+(k:Int)
theorem pw {tg:Expr} {i j:Int} (hg:Gl X "range") (hm:X.mg "range"=none) (ha:DA X ρ [a,b] [.int i,.int j]) (hb: -(2^62)<=i∧i<2^62∧ -(2^62)<=j∧j<2^62)
  (hs:starEach [a,b] X.env=[(false,eval a X.env),(false,eval b X.env)]:=by rfl) (hs2:starEach [b] X.env=[(false,eval b X.env)]:=by rfl):DI X tg ρ (.Call (.Name "range" p) [a,b] [] pos) ((iN i j).map D.int):=
 PI.weak (oJ hg hm ha hs hs2) fun σ H R ⟨S,ve,k⟩=>⟨S,ve,fun vs H' ex rs=>by
  obtain ⟨v,u,rfl,r1,r2⟩:=rs.two
  rw [r1.aS,r2.aS]
  refine ⟨i,j,rfl,hb,k _ H' ex fun H2 S2 e z dm m=>?_⟩
  refine ⟨fun d hd=>?_,fun hi=>show _<=m by simpa [iN] using hi⟩
  have hm:m<(j - i).toNat:=by
   have:=(List.getElem?_eq_some_iff.mp hd).1
   simpa [iN] using this
  refine ⟨hm,fun x H3 y=>?_⟩
  obtain ⟨e2,e3⟩:=y
  subst e2 e3
  have hd':d=.int (i+(m:Int)):=by
   rw [iN,List.map_map,List.getElem?_map,List.getElem?_range hm] at hd
   exact (Option.some.inj hd).symm
  subst hd'
  exact ⟨Ext.refl,.int _⟩⟩
end
end CT
namespace CT
open PySem PySem.Spec L2
open PyProof.Rows hiding St
noncomputable def Ite (K:PySem.W.Frag) (a:Addr):It:=
 ⟨fun i H=>∃xs x,SqB K H false a xs∧xs[i]?=some x,
  fun i H v H'=>∃T x,H T=none∧v=.ref T∧H'=upd H T (.tup [.int (i:Int),x])∧∀xs,SqB K H false a xs->xs[i]?=some x,
  fun i H=>∃xs,SqB K H false a xs∧xs.length<=i⟩
theorem qg {P:Program} {w:World} {K:PySem.W.Frag} {elts:List Expr} {x1} {pos:Pos} {e it a:Addr} (hne:e≠it):
  Turn P w K (.Tuple elts x1 pos) (Ite K a) [e,it] e (fun i h=>(∃old,IsEnum h e it i old)∧h.IsListIter it a i) where
 mem:=by simp
 obj:=fun i h ⟨⟨old,q1⟩,q2⟩ b hb=>by
  simp only [List.mem_cons,List.not_mem_nil,or_false] at hb
  rcases hb with rfl|rfl
  ·exact ⟨_,q1,fun v z=>by have z':Data.fields _=Data.cell v:=z;cases z'⟩
  ·obtain ⟨o,ho,_,hd⟩:=q2
   exact ⟨o,ho,fun v z=>by rw [hd] at z;cases z⟩
 keep:=fun i h h' ⟨⟨old,q1⟩,⟨o,ho,r⟩⟩ k=>⟨⟨old,k e (by simp) _ q1⟩,⟨o,k it (by simp) _ ho,r⟩⟩
 item:=by
  intro X hP hw hK hc i pins s σ H E I hf ⟨⟨old,q1⟩,q2⟩ hg
  subst hP hw hK
  obtain ⟨xs,x,hx,ex⟩:=hg
  obtain ⟨its,r1,p1,_⟩:=CT.Inv.sqb I hx
  obtain ⟨u,eu,ru⟩:=jB r1 ex
  have hel:=Heap.lt_size q1
  have hil:it<s.heap.objs.size:=by obtain ⟨o,ho,_⟩:=q2;exact Heap.lt_size ho
  refine wpAny_pyNext_enum_item q1 q2 p1 eu hne fun h' z1 z2 z3 z4 kk=>?_
  refine ⟨_,rfl,wpAny_letOwnedTupleGo_enum (s:={s with heap:=h',toks:=s.toks+1}) z1 fun h2 z1' sb=>?_⟩
  have k2:∀c o,c∉[e,it]->s.heap.get? c=some o->h2.get? c=some o:=fun c o hc q=>sb.extBut c o (fun z=>hc (by simp [z])) (kk c o (fun z=>hc (by simp [z])) (fun z=>hc (by simp [z])) q)
  have I1:Inv X pins σ H {s with heap:=h2,toks:=s.toks+1}:=CT.Inv.d_ (t':=s.toks+1) (ch:=[e,it]) I hf k2
  have hT:h2.get? s.heap.objs.size=some {cls:=.type "tuple",data:=.seq #[.int i s.toks,u]}:=sb.extBut _ _ (Nat.ne_of_gt hel) z3
  have I2:Inv X pins σ (upd H s.heap.objs.size (.tup [.int (i:Int),x])) {s with heap:=h2,toks:=s.toks+1}:=CT.Inv.adopt I1 (I.eg (Nat.le_refl _) (I.hok.fresh (Nat.le_refl _)))
   ⟨by show 2<=sizeLine;decide,[.int i s.toks,u],.cons ⟨_,rfl⟩ (.cons ru .nil),_,hT,rfl,_,rfl⟩
  refine ⟨.ref s.heap.objs.size,_,I2,rfl,⟨_,x,I.hok.fresh (Nat.le_refl _),rfl,rfl,fun xs' h'=>by rw [CT.Inv.d9 I h' hx];exact ex⟩,⟨⟨_,by exact z1'⟩,?_⟩,fun b hb=>?_⟩
  ·obtain ⟨o,ho,r⟩:=z2
   exact ⟨o,sb.extBut _ _ (Ne.symm hne) ho,r⟩
  ·simp only [List.mem_cons,List.not_mem_nil,or_false] at hb
   rcases hb with rfl|rfl
   ·rw [aj (Nat.ne_of_lt hel)];exact (hf _ (by simp)).1
   ·rw [aj (Nat.ne_of_lt hil)];exact (hf _ (by simp)).1
 done:=by
  intro X hP hw hK hc i pins s σ H E I hf ⟨⟨old,q1⟩,q2⟩ hg
  subst hP hw hK
  obtain ⟨xs,hx,he⟩:=hg
  obtain ⟨its,r1,p1,_⟩:=CT.Inv.sqb I hx
  refine wpAny_pyNext_enum_end (I.ok.hd hc) q1 q2 p1 (jk r1 he) fun h' kk=>⟨rfl,?_⟩
  exact CT.Inv.d_ (t':=s.toks) (ch:=[e,it]) I hf fun b o hb q=>kk b o (fun z=>hb (by simp [z])) q
 self:=fun _ _ _ _ _ ⟨⟨old,q1⟩,_⟩ h=>wpAny_pyIter_enum q1 h
theorem boot_enumerate:bootBuiltins "enumerate"=some (.type "enumerate"):=by decide+kernel
noncomputable def y3 (K:PySem.W.Frag) (t:TA):TI:=fun σ H R=>t σ H fun vs H1=>∃a xs,vs=[.ref a]∧SqB K H1 false a xs∧R (Ite K a) H1
theorem ux {X:Cx} {elts:List Expr} {tpos:Pos} {a:Expr} {ta:TA} {k} {p pos:Pos} (hg:Gl X "enumerate") (hm:X.mg "enumerate"=none) (ha:PA X [a] ta) (hs:starEach [a] X.env=[(false,eval a X.env)]:=by rfl):
  PI X (.Tuple elts k tpos) (.Call (.Name "enumerate" p) [a] [] pos) (y3 X.K ta):=by
 intro pins s σ H R I h
 refine Call_ (dM I hg hm boot_enumerate (PyProof.Rows.callWith_type1 (thn (ha pos pins s σ H _ I h) fun us s1 ⟨vs,H1,I1,r1,q1⟩=>?_) (by rw [hs];rfl) rfl))
 obtain ⟨l,xs,rfl,hx,q⟩:=q1
 obtain ⟨its,rv,p1,_⟩:=CT.Inv.sqb I1 hx
 cases r1 with
 |cons r rr=>
  cases rr
  cases r
  refine call_enumerate_list p1 fun h' he hi hz hk=>?_
  refine wpAny_pyIter_enum he ?_
  refine ⟨_,_,_,_,H1,rfl,I1.kept (t':=s1.toks) hk,qg (Nat.succ_ne_self _),⟨⟨_,he⟩,hi⟩,fun b hb=>?_,q⟩
  have hle:s1.heap.objs.size<=b:=by
   simp only [List.mem_cons,List.not_mem_nil,or_false] at hb
   rcases hb with rfl|rfl<;>omega
  exact I1.eg hle (I1.hok.fresh hle)
noncomputable def aT (k:Nat):List D->List D
 |[]=>[]
 |x::xs=>.tup [.int (k:Int),x]::aT (k+1) xs
theorem gj:∀{xs:List D} {k i:Nat} {d:D},(aT k xs)[i]?=some d->∃x,xs[i]?=some x∧d=.tup [.int ((k+i:Nat):Int),x]
 |x::xs,k,0,d,h=>by
  simp [aT] at h
  exact ⟨x,rfl,h.symm⟩
 |x::xs,k,i+1,d,h=>by
  simp [aT] at h
  obtain ⟨x',h1,h2⟩:=gj h
  exact ⟨x',by simpa using h1,by rw [h2,show k+1+i=k+(i+1) by omega]⟩
 |[],_,_,_,h=>by simp [aT] at h
theorem gD:∀{xs:List D} {k:Nat},(aT k xs).length=xs.length
 |[],_=>rfl
 |x::xs,k=>by simp [aT,gD]
theorem u5 {X:Cx} {ρ:Rho} {a:Expr} {xs:List D} {elts:List Expr} {k} {tpos p pos:Pos} (hg:Gl X "enumerate") (hm:X.mg "enumerate"=none) (ha:DA X ρ [a] [.lst xs]) (hs:starEach [a] X.env=[(false,eval a X.env)]:=by rfl):
  DI X (.Tuple elts k tpos) ρ (.Call (.Name "enumerate" p) [a] [] pos) (aT 0 xs):=
 PI.weak (ux hg hm ha hs) fun σ H R ⟨S,ve,kk⟩=>⟨S,ve,fun vs H' ex rs=>by
  obtain ⟨v,rfl,r⟩:=rs.one
  obtain ⟨l,us,rfl,l1⟩:=r.gy
  refine ⟨l,us,rfl,(l1 H' S Ext.refl fun a h=>.inl h).1,kk _ H' ex fun H2 S2 e2 z2 dm i=>?_⟩
  obtain ⟨s1,t1⟩:=l1 H2 S2 e2 z2
  refine ⟨fun d hd=>?_,fun hi=>⟨us,s1,?_⟩⟩
  ·obtain ⟨x,hx,rfl⟩:=gj hd
   obtain ⟨x',hx',rx⟩:=t1.get hx
   refine ⟨⟨us,x',s1,hx'⟩,fun z H3 yl=>?_⟩
   obtain ⟨T,x2,hT,rfl,rfl,g1⟩:=yl
   have e1:=g1 us s1
   rw [hx'] at e1;cases e1
   rw [Nat.zero_add]
   exact ⟨Ext.new hT,Rds.eJ dm hT (.cons (.int _) (.cons rx .nil))⟩
  ·have h1:=t1.length
   rw [gD] at hi
   omega⟩
end CT
namespace CT
open PySem PySem.Spec L2
open PyProof.Rows hiding St
section
variable {X:Cx} {ρ:Rho} {k:Nat} {f C:Addr} {fd:FuncData} {ps:List Str} {x:Str} {p pos:Pos} {e o a b:Expr} {es:List Expr} {ds xs ys:List D} {d:D}
theorem vl:OpR X (binaryOp .Add) (fun x y H Q=>∃a b us vs,x=.ref a∧y=.ref b∧SqL X.K H a us∧SqL X.K H b vs∧us.length+vs.length<=sizeLine∧∀z,H z=none->Q (.ref z) (upd H z (.lst (us++vs)))):=by
 intro pins s σ H x y v u Q I rx ry ⟨a,b,us,vs,ex,ey,h1,h2,hl,q⟩
 subst ex ey
 obtain rfl:v=Value.ref a:=rx
 obtain rfl:u=Value.ref b:=ry
 obtain ⟨i1,r1,p1,_⟩:=I.list h1
 obtain ⟨i2,r2,p2,_⟩:=I.list h2
 obtain ⟨⟨c,dd,dt,sl⟩,ho,hc,n,hd⟩:=p1.isList
 obtain ⟨⟨c2,dd2,dt2,sl2⟩,ho2,hc2,n2,hd2⟩:=p2.isList
 simp only at hc hd hc2 hd2
 subst hc hd hc2 hd2
 have l1:=r1.length
 have l2:=r2.length
 refine concat_meets ⟨_,ho,rfl⟩ ⟨_,ho2,rfl⟩ noFill_list_add seq_list_add PySem.F.slot_list_add PySem.F.entry_list_add (PySem.F.args_list_add_2 _ _) (list_addW a b i1.toArray i2.toArray n n2 dd dd2 sl sl2 (by simp;omega)) ⟨ho,ho2,?_⟩
 have e:i1.toArray++i2.toArray=(i1++i2).toArray:=by simp
 rw [e]
 refine ⟨.ref s.heap.objs.size,_,I.laid (o:=.lst (us++vs)) (t':=s.toks) (fun c w z=>Heap.get?_push_of_some _ z) (Nat.le_refl _) ⟨by rw [List.length_append];exact hl,i1++i2,_,r1.append r2,Heap.get?_push_size _ rfl⟩,rfl,q _ (I.hok.fresh (Nat.le_refl _))⟩
theorem tu (ha:DE X ρ a (.lst xs)) (hb:DE X ρ b (.lst ys)) (hl:xs.length+ys.length<=sizeLine):DE X ρ (.BinOp a .Add b pos) (.lst (xs++ys)):=
 dB vl (fun x y H S Q rx ry dm k=>by
  obtain ⟨p,us,rfl,h1,r1⟩:=rx.iF
  obtain ⟨q,vs,rfl,h2,r2⟩:=ry.iF
  exact ⟨p,q,us,vs,rfl,rfl,h1,h2,by rw [←r1.length,←r2.length];exact hl,fun z hz=>k _ _ (Ext.new hz) (Rds.lF dm hz (r1.app r2))⟩) ha hb
end
end CT
namespace CT
open PySem PySem.Spec L2
open PyProof.Rows hiding St
section
variable {X:Cx} {scope:Scope} {own:List Str} {cap:List (Str×Nat)} {ρ:Rho} {elt iter c:Expr} {pos px py tp:Pos} {α:Type} {l:List α} {g1 g2:α->D} {x y:Str} {k k2:Nat} {sc:Scope} {N:List Str}
theorem gM {g:α->D}:∀(l:List α) (k:Nat),aT k (l.map g)=((l.zipIdx k).map fun a=>.tup [.int (a.2:Int),g a.1])
 |[],_=>rfl
 |a::l,k=>by rw [List.map_cons,List.zipIdx_cons,List.map_cons,aT,gM l (k+1)]
end
end CT
namespace CT
open PySem PySem.Spec L2
open PyProof.Rows hiding St
section
variable {X:Cx} {ρ:Rho} {a b e:Expr} {d:D} {pos:Pos}
theorem intBits_le {k:Int} {n:Nat} (h:k.natAbs<2^n):Builtin.Int.intBits k<=n:=by
 unfold Builtin.Int.intBits
 split
 ·exact Nat.zero_le _
 ·rename_i hk
  have hp:k.natAbs≠0:=fun z=>hk (by simp [Int.natAbs_eq_zero.mp z])
  have:=(Nat.log2_lt hp).mpr h
  omega
noncomputable def iQ (i j:Int):Prop:=i.natAbs<2^100000∧j.natAbs<2^100000
theorem iQ.ok {i j:Int} (h:iQ i j):IntMulOk i j:=by
 have h1:=intBits_le h.1
 have h2:=intBits_le h.2
 have e:Builtin.Int.intTooBig (Builtin.Int.intBits i+Builtin.Int.intBits j)=false:=by
  unfold Builtin.Int.intTooBig bitsLine
  refine decide_eq_false ?_
  have:(2:Nat)^27=134217728:=by decide
  rw [this];omega
 unfold IntMulOk
 rw [e];simp
theorem vO:OpR X (binaryOp .Mult) (rI iQ fun i j=>.int (i*j)):=opI fun _ _ _ _ _ _ _ hc q=>mul_int q hc.ok
theorem uG {i j:Int} (h:iQ i j) (ha:DE X ρ a (.int i)) (hb:DE X ρ b (.int j)):DE X ρ (.BinOp a .Mult b pos) (.int (i*j)):=
 dB vO (fun x y H S Q rx ry dm k=>⟨i,j,rx.aS,ry.aS,h,k _ H Ext.refl (.int _)⟩) ha hb
end
end CT
namespace CT
open PySem PySem.Spec L2
open PyProof.Rows hiding St
noncomputable def tyN:D->Option String
 |.non=>some "NoneType"|.bl _=>some "bool"|.int _=>some "int"|.str _=>some "str"|.tup _=>some "tuple"|.lst _=>some "list"|.dct _=>some "dict"|.pdc _=>some "dict"
 |_=>none
noncomputable def mO (x:D) (c:String):Bool:=match tyN x with
 |some n=>n==c||(n=="bool"&&c=="int")
 |none=>false
section
variable {X:Cx} {ρ:Rho} {a b:Expr} {x:D} {p pos:Pos}
theorem AI {K:PySem.W.Frag} {x:D} (hx:tyN x≠none):∃n,TyD K x (.type n)∧PySem.W.kitAny K (.type n) [.type "list",.type "tuple"]=some (mO x "list"||mO x "tuple"):=by
 cases x with
 |non=>exact ⟨_,.non,rfl⟩
 |bl b=>exact ⟨_,.bl b,rfl⟩
 |int i=>exact ⟨_,.int i,rfl⟩
 |str s=>exact ⟨_,.str s,rfl⟩
 |tup xs=>exact ⟨_,.tup xs,rfl⟩
 |lst xs=>exact ⟨_,.lst xs,rfl⟩
 |dct xs=>exact ⟨_,.dct xs,rfl⟩
 |pdc xs=>exact ⟨_,.pdc xs,rfl⟩
 |ins _ _=>exact absurd rfl hx
 |exc _ _=>exact absurd rfl hx
 |ty _=>exact absurd rfl hx
 |cl _=>exact absurd rfl hx
end
noncomputable def noStar:Expr->Bool
 |.Starred ..=>false
 |_=>true
theorem bB {e:Expr} {es:List Expr} {env:Env} (h:noStar e=true):starEach (e::es) env=(false,eval e env)::starEach es env:=by
 cases e<;>first|rfl|cases h
end CT
namespace CT
open PySem PySem.Spec PySem.W L2
open PyProof.Rows hiding St
section
variable {X:Cx} {ρ:Rho} {a:Expr} {lo hi:Option Expr} {xs:List D} {l u:Option Int} {pos p2:Pos}
noncomputable def DO (X:Cx) (ρ:Rho) (e:Option Expr) (o:Option Int):Prop:=PO X e fun σ H Q=>∃S,VE X.K H S ρ σ∧∀H',aD H H'->Q o H'
theorem uM:DO X ρ none none:=fun pins s σ H Q I ⟨S,ve,k⟩=>uf pins s σ H Q I (k H Ext.refl)
theorem vA {e:Expr} {i:Int} (h:DE X ρ e (.int i)):DO X ρ (some e) (some i):=fun pins s σ H Q I ⟨S,ve,k⟩=>uk h pins s σ H Q I ⟨S,ve,fun v H' e r=>⟨i,r.aS,k H' e⟩⟩
noncomputable def yq (xs:List D) (lo hi:Option Int):List D:=(xs.drop (HT.sIx xs.length 0 lo)).take (HT.sIx xs.length xs.length hi - HT.sIx xs.length 0 lo)
end
end CT
namespace CT
open PySem PySem.Spec L2
open PyProof.Rows hiding St
section
variable {P:Program} {w:World} {K:PySem.W.Frag} {H H':Hp} {h:Heap} {S:Ad}
mutual
theorem key_is (ok:HOk P w H h):∀(k:PK) {v:V} {u:Value},Rds K H S (PK.d k) v->RelV v u->bD h k u
 |.i n,_,u,r,q=>by
  cases (show Rds K H S (.int n) _ from r)
  exact q
 |.t l,_,u,r,q=>by
  obtain ⟨a,vs,rfl,e,rl⟩:=(show Rds K H S (.tup (PK.dL l)) _ from r).cg
  cases (show u=Value.ref a from q)
  obtain ⟨_,its,rv,o,h1,h2,n,h3⟩:=(show aP P w H h a (.tup vs) from ok a _ e)
  exact ⟨a,o,its.toArray,n,rfl,h1,h2,h3,by simpa using lq ok l rl rv⟩
theorem lq (ok:HOk P w H h):∀(l:List PK) {vs:List V} {us:List Value},af K H S (PK.dL l) vs->Vals vs us->a8 h l us
 |[],_,_,r,q=>by
  cases (show af K H S [] _ from r)
  cases q
  rfl
 |k::ks,_,_,r,q=>by
  have r':af K H S (PK.d k::PK.dL ks) _:=r
  cases r' with
  |cons r1 t1=>
   cases q with
   |cons q qt=>exact ⟨_,_,rfl,key_is ok k r1 q,lq ok ks t1 qt⟩
end
theorem Rds.key {k:PK} {b:Addr} (hd:k.dp<=8) (r:Rds K H S (PK.d k) (.ref b)):eA H k b:=⟨hd,fun P w h ok=>key_is ok k r rfl⟩
theorem aq.keys:∀{es:List (PK×D)} {kvs:List (PK×Addr×V)},aq K H S es kvs->ek H kvs
 |_,_,.nil=>fun p hp=>nomatch hp
 |_,_,.cons hd k r t=>fun p hp=>by
  rcases List.mem_cons.mp hp with e|hp
  ·subst e;exact Rds.key hd k
  ·exact aq.keys t p hp
theorem aq.length:∀{es:List (PK×D)} {kvs:List (PK×Addr×V)},aq K H S es kvs->es.length=kvs.length
 |_,_,.nil=>rfl
 |_,_,.cons _ _ _ t=>by rw [List.length_cons,List.length_cons,aq.length t]
theorem aq.names:∀{es:List (PK×D)} {kvs:List (PK×Addr×V)},aq K H S es kvs->kvs.map (·.1)=es.map (·.1)
 |_,_,.nil=>rfl
 |_,_,.cons _ _ _ t=>by rw [List.map_cons,List.map_cons,aq.names t]
theorem aq.get:∀{es:List (PK×D)} {kvs:List (PK×Addr×V)} {i:Nat} {p:PK×D},aq K H S es kvs->es[i]?=some p->∃q,kvs[i]?=some q∧q.1=p.1∧Rds K H S (PK.d p.1) (.ref q.2.1)∧Rds K H S p.2 q.2.2
 |_,_,0,_,.cons _ k r _,e=>by simp at e;subst e;exact ⟨_,rfl,rfl,k,r⟩
 |_,_,i+1,_,.cons _ _ _ t,e=>by
  obtain ⟨q,h1,h2⟩:=aq.get (i:=i) t (by simpa using e)
  exact ⟨q,by simpa using h1,h2⟩
noncomputable def bA (es:List (PK×D)) (k:PK):Option D:=(es.find? fun p=>decide (p.1=k)).map (·.2)
noncomputable def cW (es:List (PK×D)) (k:PK) (d:D):List (PK×D):=if (bA es k).isSome then es.map (fun p=>if p.1=k then (p.1,d) else p) else es++[(k,d)]
theorem aq.look {k:PK}:∀{es:List (PK×D)} {kvs:List (PK×Addr×V)},aq K H S es kvs->(∀d,bA es k=some d->∃v,c7 kvs k=some v∧Rds K H S d v)∧(bA es k=none->c7 kvs k=none)
 |_,_,.nil=>⟨fun d e=>by simp [bA] at e,fun _=>rfl⟩
 |_,_,.cons (k:=k') (ds:=ds) (vs:=vs) _ _ r t=>by
  obtain ⟨i1,i2⟩:=aq.look (k:=k) t
  unfold bA c7 at i1 i2 ⊢
  rw [List.find?_cons,List.find?_cons]
  by_cases e:k'=k
  ·simp only [e,decide_true]
   exact ⟨fun d q=>by cases q;exact ⟨_,rfl,r⟩,fun q=>nomatch q⟩
  ·simp only [e,decide_false]
   exact ⟨i1,i2⟩
theorem aq.gB {k:PK} {d:D} {v:V} (rd:Rds K H S d v):∀{es:List (PK×D)} {kvs:List (PK×Addr×V)},aq K H S es kvs->aq K H S (es.map fun p=>if p.1=k then (p.1,d) else p) (kvs.map fun p=>if p.1=k then (p.1,p.2.1,v) else p)
 |_,_,.nil=>.nil
 |_,_,.cons (k:=k') hd kk r t=>by
  rw [List.map_cons,List.map_cons]
  by_cases e:k'=k
  ·rw [if_pos (show (k',_).1=k from e),if_pos (show (k',_).1=k from e)];exact .cons hd kk rd (aq.gB rd t)
  ·rw [if_neg (show ¬(k',_).1=k from e),if_neg (show ¬(k',_).1=k from e)];exact .cons hd kk r (aq.gB rd t)
theorem aq.snoc {k:PK} {b:Addr} {d:D} {v:V} (hd:k.dp<=8) (kk:Rds K H S (PK.d k) (.ref b)) (rd:Rds K H S d v):∀{es:List (PK×D)} {kvs:List (PK×Addr×V)},aq K H S es kvs->aq K H S (es++[(k,d)]) (kvs++[(k,b,v)])
 |_,_,.nil=>.cons hd kk rd .nil
 |_,_,.cons h1 h2 h3 t=>.cons h1 h2 h3 (aq.snoc hd kk rd t)
theorem aq.put {k:PK} {b:Addr} {d:D} {v:V} {es:List (PK×D)} {kvs:List (PK×Addr×V)} (hd:k.dp<=8) (kk:Rds K H S (PK.d k) (.ref b)) (rd:Rds K H S d v) (r:aq K H S es kvs):aq K H S (cW es k d) (eV kvs k b v):=by
 have e:(bA es k).isSome=(c7 kvs k).isSome:=by
  obtain ⟨i1,i2⟩:=aq.look (k:=k) r
  cases q:bA es k with
  |none=>rw [i2 q];rfl
  |some d=>obtain ⟨v,z,_⟩:=i1 d q;rw [z];rfl
 unfold cW eV
 rw [e]
 split
 ·exact r.gB rd
 ·exact r.snoc hd kk rd
end
section
variable {X:Cx} {ρ:Rho} {o i e value tg:Expr} {pos pos' p ap cp:Pos} {es:List (PK×D)} {l:List PK} {d:D} {x:Str} {n:Nat}
theorem uA (hu:X.A.units+9<cLine) (ho:DE X ρ o (.pdc es)) (hi:DE X ρ i (PK.d (.t l))) (hk:(PK.t l).dp<=8) (hl:bA es (.t l)=some d) (hs:mR i):DE X ρ (.Subscript o i pos) d:=
 PE.weak (tZ hu ho hi hs) fun σ H Q ⟨S,ve,k⟩=>⟨S,ve,fun u H1 e1 r1=>⟨S,ve.ext e1,fun y H2 e2 r2=>by
  have r1':=r1.ext (e2.to S)
  cases r1' with
  |@dP a ep kvs _ ha ns rp=>
   obtain ⟨b,vs,rfl,hb,rl⟩:=(show Rds X.K H2 S (.tup (PK.dL l)) y from r2).cg
   obtain ⟨v,hv,rv⟩:=(aq.look (k:=.t l) rp).1 d hl
   exact ⟨a,b,ep,kvs,.t l,v,rfl,rfl,ha,rp.keys,Rds.key hk r2,hv,k v H2 (e1.trans e2) rv⟩⟩⟩
theorem rh (hu:X.A.units+9<cLine) (ho:DE X ρ o (.pdc es)) (hi:DE X ρ e (PK.d (.t l))) (hk:(PK.t l).dp<=8) (m:M1 X o "get" ap e cp):DE X ρ (.Call (.Attribute o "get" ap) [e] [] cp) ((bA es (.t l)).getD .non):=
 PE.weak (rq hu ho hi m) fun σ H Q ⟨S,ve,k⟩=>⟨S,ve,fun u H1 e1 r1=>by
  cases r1 with
  |@dP a ep kvs _ ha ns rp=>
   refine ⟨a,ep,kvs,rfl,ha,S,ve.ext e1,fun y H2 e2 r2=>?_⟩
   obtain ⟨b,vs,rfl,hb,rl⟩:=(show Rds X.K H2 S (.tup (PK.dL l)) y from r2).cg
   have rp2:=rp.ext (e2.to S)
   refine ⟨b,.t l,rfl,e2 _ _ (fun z=>z) ha,rp2.keys,Rds.key hk r2,k _ H2 (e1.trans e2) ?_⟩
   obtain ⟨i1,i2⟩:=aq.look (k:=.t l) rp2
   cases q:bA es (.t l) with
   |none=>rw [i2 q];exact .non
   |some d=>obtain ⟨v,hv,rv⟩:=i1 d q;rw [hv];exact rv⟩
theorem jf:DFx X ρ (.Dict [] [] pos) (.d []):=PE.weak vo fun σ H Q ⟨S,ve,k⟩ p hp=>k p _ _ (Ext.new hp) hp aH ⟨0,[],rfl,.nil⟩
theorem yE (ho:DE X ρ e (.pdc es)):DI X tg ρ e (es.map fun p=>PK.d p.1):=PI.weak (yA ho) fun σ H R ⟨S,ve,k⟩=>⟨S,ve,fun v H' ex r=>by
 cases r with
 |@dP a ep kvs _ ha ns rp=>
  refine ⟨a,ep,kvs,rfl,ha,k _ H' ex fun H2 S2 e2 z dm i=>?_⟩
  have ha2:H2 a=some (PD a ep kvs):=e2 _ _ ns ha
  have rp2:aq X.K H2 S2 es kvs:=((rp.av (S':=fun a=>S a∨S2 a) fun a q=>q.elim .inl (z a)).ext fun a o n q=>e2 a o (fun y=>n (.inl y)) q).av fun a q=>.inl (.inr q)
  refine ⟨fun d hd=>?_,fun hi=>⟨ha2,by rw [←rp.length];simpa using hi⟩⟩
  rw [List.getElem?_map] at hd
  cases q:es[i]? with
  |none=>rw [q] at hd;cases hd
  |some p=>
   rw [q] at hd
   cases hd
   obtain ⟨kv,h1,_,h3,_⟩:=aq.get rp2 q
   refine ⟨⟨ha2,(List.getElem?_eq_some_iff.mp h1).1⟩,fun x H3 ⟨e3,p',hp',hx⟩=>?_⟩
   subst e3
   rw [h1] at hp'
   cases hp'
   rw [hx]
   exact ⟨Ext.refl,h3⟩⟩
end
end CT
namespace CT
open PySem PySem.Spec L2
open PyProof.Rows hiding St
theorem nH:bootBuiltins "dict"=some (.type "dict"):=by decide+kernel
section
variable {X:Cx} {ρ:Rho} {o i e value tg:Expr} {pos pos' p ap cp:Pos} {es:List (PK×D)} {l:List PK} {d:D} {x:Str} {n:Nat}
theorem mw (hu:X.A.units+9<cLine) (hN:X.N[n]?=some x) (hv:Vis X.env.scope x) (hr:ρ[n]?=some (.odc es)) (hi:DE X ρ i (PK.d (.t l))) (he:DE X ρ value d) (hk:(PK.t l).dp<=8) (hz:es.length<sizeLine)
  (hs:swapsWith value (some (.Subscript (.Name x p) i pos')) pos.line X.env=pure false:=by rfl) (hd:(x==("__debug__":Str))=false:=by decide) (hcd:(x==("__classdict__":Str))=false:=by decide):
  DS X ρ (.Assign [.Subscript (.Name x p) i pos'] value pos) (.nx (ρ.set n (.odc (cW es (.t l) d)))):=
 PS.weak (vM hu (fm hN hv hd hcd) hi he hs) fun E σ H ⟨H₀,S₀,S,f,k⟩=>⟨S,f.ve,fun v H1 ex r=>by
  have f1:=f.grow ex
  obtain ⟨w,h1,a,_,rfl,sa,ha,ep,kvs,rfl,rp⟩:=f1.ve.rel n _ hr
  refine ⟨_,h1,S,f1.ve,fun y H2 e2 r2=>?_⟩
  obtain ⟨b,vs,rfl,hb,rl⟩:=(show Rds X.K H2 S (.tup (PK.dL l)) y from r2).cg
  have rp2:=rp.ext (e2.to S)
  refine ⟨a,b,ep,kvs,.t l,rfl,rfl,e2 _ _ (fun z=>z) ha,rp2.keys,Rds.key hk r2,by rw [←rp2.length];exact hz,fun ep'=>?_⟩
  exact k _ _ S ((f1.grow e2).oS (c':=.d (cW es (.t l) d)) hr h1 ⟨ep',_,rfl,aq.put hk r2 (r.ext (e2.to S)) rp2⟩)⟩
theorem qA (hh:(es.map fun q=>q.1.hs).Nodup) (hg:Gl X "dict") (hm:X.mg "dict"=none) (ha:DA X ρ [e] [.pdc es]) (he:starEach [e] X.env=(false,eval e X.env)::starEach [] X.env:=by rfl) (hpl:(backTo pos (starEach [] X.env)).any (·.1)=false:=by rfl):DFx X ρ (.Call (.Name "dict" p) [e] [] pos) (.d es):=
 PE.weak (kf nK hg hm nH ha (by decide) (by decide) he hpl) fun σ H Q ⟨S,ve,k⟩=>⟨S,ve,fun vs H' ex rs=>by
  obtain ⟨v,rfl,r⟩:=rs.one
  cases r with
  |@dP a ep kvs _ hA ns rp=>
   have e2:(kvs.map fun q=>q.1.hs)=es.map fun q=>q.1.hs:=by
    have:=congrArg (List.map PK.hs) rp.names
    rw [List.map_map,List.map_map] at this
    exact this
   exact ⟨a,ep,kvs,rfl,hA,rp.keys,by rw [e2];exact hh,fun q ep' hq=>k q _ _ (ex.trans (Ext.new hq)) (ex.back hq) aH ⟨ep',kvs,rfl,((rp.av (S':=S.and q) fun b h=>h.imp_right fun z=>by rw [z];exact hq).ext ((Ext.new hq).to _))⟩⟩⟩
noncomputable def cQ:D->Bool
 |.non=>true
 |_=>false
theorem Rds.nF {K:PySem.W.Frag} {H:Hp} {S:Ad} {d:D} {v:V} (r:Rds K H S d v):decide (v=V.non)=cQ d:=by
 cases r<;>first|rfl|exact decide_eq_false (fun z=>nomatch z)
theorem wt {j} {pos':Pos} (ha:DE X ρ e d):DE X ρ (.Compare e [.Is] [.Constant .none j pos'] pos) (.bl (cQ d)):=
 bQ o_ (fun x y H S Q rx ry dm k=>⟨ry.nE,by rw [rx.nF];exact k _ H Ext.refl (.bl _)⟩) ha gL (aL _)
theorem tN {j} {pos':Pos} (ha:DE X ρ e d):DE X ρ (.Compare e [.IsNot] [.Constant .none j pos'] pos) (.bl (!cQ d)):=
 bQ me (fun x y H S Q rx ry dm k=>⟨ry.nE,by rw [rx.nF];exact k _ H Ext.refl (.bl _)⟩) ha gL (aL _)
theorem wx {j} {pos':Pos} (ha:DE X ρ e d):DT X ρ (.Compare e [.Is] [.Constant .none j pos'] pos) (cQ d):=
 bP o_ (fun x y H S Q rx ry dm k=>⟨ry.nE,by rw [rx.nF];exact k _ H Ext.refl (.bl _)⟩) ha gL (aL _)
theorem u3 {j} {pos':Pos} (ha:DE X ρ e d):DT X ρ (.Compare e [.IsNot] [.Constant .none j pos'] pos) (!cQ d):=
 bP me (fun x y H S Q rx ry dm k=>⟨ry.nE,by rw [rx.nF];exact k _ H Ext.refl (.bl _)⟩) ha gL (aL _)
end
end CT
namespace CT
open PySem PySem.Spec L2
open PyProof.Rows hiding St
noncomputable abbrev KVs:=List (PK×Addr×V)
noncomputable def Bd (h:Heap) (a:Addr) (y:Nat×KVs):Prop:=∃xs,KP y.2 xs∧xa h a xs y.1
noncomputable def dQ:AK (Nat×KVs):=⟨Bd,fun ⟨xs,k,o,es,e,r⟩ kp=>⟨xs,k,o,es,kp o e,r⟩,fun ⟨xs,k,o,es,e,x,d,_⟩=>⟨o,e,fun v z=>by rw [d] at z;cases z⟩⟩
noncomputable def fO (kx vx:Expr) (acc:Addr) (env:Env):Sem Unit:=do
 let kv←eval kx env
 let vv←holding [kv] (eval vx env)
 standAt {kx.pos with endLine:=vx.pos.endLine,endCol:=vx.pos.endCol}
 holding [kv,vv] (dictSet acc kv vv)
noncomputable def xm (tk tv:TE):TBg (Nat×KVs):=fun σ H ys Q=>tk σ H fun y H1=>tv σ H1 fun v H2=>∃b k,y=.ref b∧ek H2 ys.2∧eA H2 k b∧ys.2.length<=sizeLine∧∀ep',Q (ep',eV ys.2 k b v) H2
section
variable {Y:Cx} {acc:Addr} {kx vx tg iter:Expr} {scope:Scope} {pos:Pos}
theorem rZ {tk tv:TE} (hu:Y.A.units+9<cLine) (hk:PE Y kx tk) (hv:PE Y vx tv):PBg dQ Y acc (fO kx vx acc Y.env) (xm tk tv):=by
 intro pins s σ H ys Q I hf ha h
 have I1:=I.pinned (fp:=[acc]) (gq hf) (gq (dQ.obj ha))
 obtain ⟨o,eo,_⟩:=dQ.obj ha
 refine wpAny_bind (thn (hk _ s σ H _ I1 h) fun kv s1 ⟨y,H1,I2,ry,q1⟩=>?_)
 refine wpAny_bind (wpAny_holding (thn (hv _ s1 σ H1 _ I2 q1) fun vv s2 ⟨v,H2,I3,rv,b,k,ey,ks,kb,hl,q2⟩=>?_))
 have pin:=I3.pin (acc,o) (List.mem_append_right _ (List.mem_append_right _ (bC (by simp) eo)))
 obtain ⟨xs,rel,dd⟩:=dQ.kept (h':=s2.heap) ha fun o' e'=>by rw [eo] at e';cases e';exact pin.1
 obtain ⟨f0,f1,f2,f3,f4,f5⟩:=hf
 subst ey
 obtain rfl:kv=Value.ref b:=ry
 refine wpAny_bind (wpAny_standAt (wpAny_holding ?_))
 refine wpAny_dictSet_heap (knd:=bH Y.prog Y.w) (hsz:=by rw [←rel.length];exact hl) (show (bH Y.prog Y.w).room Y.A by show Y.A.units+8<cLine;omega) (kb.is I3.hok) (ay.ofH (knd:=bH Y.prog Y.w) dd (rel.is ks I3.hok)) fun h' dd' hs=>?_
 obtain ⟨ep',rw'⟩:=mC dd'
 exact ⟨(ep',eV ys.2 k b v),H2,I3.bN.turned (t':=_) (fun b o hb e=>(hs.2 b hb).trans e) pin.2.1 f1 f3 f4 f5,pin.2.1,⟨_,rel.put k b rv,rw'⟩,q2 ep'⟩
theorem sr {P:Program} {w:World} {gens:List Comprehension} {d:Nat} {it acc:Value} {env:Env}:i8 P w (.DictComp kx vx gens scope pos) d it acc env:=⟨fun _=>rfl,rfl⟩
theorem sG {it:Value} {env:Env}:iU (.DictComp kx vx [⟨tg,iter,[],0⟩] scope pos) 0 tg iter [] it (.ref acc) env (fO kx vx acc env):=by
 unfold iU
 rw [compTurn_dict]
 simp only [List.forIn_nil,pure_bind,if_true]
 rfl
theorem mF {P:Program} {w:World} (H0:Hp) (h:Heap) (a:Addr) (ys:Nat×KVs) (hd:(a==sysModules)=false) (ac:dQ.ac h a ys) (hz:ys.2.length<=sizeLine):aP P w H0 h a (PD a ys.1 ys.2):=by
 obtain ⟨xs,k,r⟩:=ac
 exact iM hz hd k r
end
section
variable {X:Cx} {scope:Scope} {own:List Str} {cap:List (Str×Nat)} {kx vx tg iter:Expr} {pos:Pos} {wi:TI} {g:TG} {tb:TBg (Nat×KVs)}
noncomputable def lL (own:List Str) (cap:List (Str×Nat)) (wi:TI) (g:TG) (tb:TBg (Nat×KVs)):TE:=fun σ H Q=>wi σ H fun J H1=>fZ g kz tb J (cS own cap σ) H1 (0,[]) fun ys H2=>ys.2.length<=sizeLine∧∀a,H2 a=none->Q (.ref a) (upd H2 a (PD a ys.1 ys.2))
theorem pb (h:Heap) (a:Addr) (e:h.get? a=some {cls:=.type "dict",dict:=none,data:=.dict #[]}):dQ.ac h a (0,[]):=
 ⟨[],.nil,_,_,e,⟨rfl,rfl,rfl⟩,rfl,rfl,List.nodup_nil⟩
theorem rF (cs:CS X scope own cap) (hc:X.calm=true) (hi:PI X tg iter wi) (h1:∀pins s₂ H₂ fp,PG (cX X scope own cap pins s₂ H₂ fp) tg g)
  (h3:∀pins s₂ H₂ fp acc,PBg dQ (cX X scope own cap pins s₂ H₂ fp) acc (fO kx vx acc (bE X scope s₂.heap.objs.size)) tb)
  (hs:∀x,foldedSetIterable iter X.env x=pure x:=by intro _;rfl):PE X (.DictComp kx vx [⟨tg,iter,[],0⟩] scope pos) (lL own cap wi g tb):=by
 intro pins s σ H Q I h
 rw [arm_eval_DictComp]
 refine wpAny_comprehension_free (use:=none) rfl hs (cD (cs.jg I.ok)) cs.kind cs.names ?_
 refine thn (hi pins s σ H _ I h) fun x s1 h1'=>thn h1' fun itv s2 h2'=>?_
 obtain ⟨it,fp,tn,J,H2,e,I2,T,st2,f2,lp⟩:=h2'
 subst e
 refine eT (B:=dQ) (fin:=fun ys=>ys.2.length<=sizeLine) (ho:=fun a ys=>PD a ys.1 ys.2) (RR:=fun acc C=>compPost (model X.prog X.w) X.A X.xe none (EP X pins σ Q) acc C) cs wpAny_newObj_type rfl pb mF (fun _ _ _=>sr) (fun it acc env=>sG) codeAny_compStart_dict hc h1 (fun _ _ _ _=>jl) h3 T I2 st2 f2 lp ?_
 intro acc C s' H' m hC I' hn hns q
 exact ⟨m,hns,fun h' hs'=>⟨.ref acc,H',CT.Inv.kB I2 I' hC hn hs',rfl,q⟩⟩
theorem qw {i:Nat} {x:Str} {pos' spos:Pos} (cs:CS X scope own cap) (hc:X.calm=true) (hN:X.N.Nodup) (hix:X.N[i]?=some x) (hx:Loc X.env.scope x) (hi:PI X tg iter wi) (h1:∀pins s₂ H₂ fp,PG (cX X scope own cap pins s₂ H₂ fp) tg g)
  (h3:∀pins s₂ H₂ fp acc,PBg dQ (cX X scope own cap pins s₂ H₂ fp) acc (fO kx vx acc (bE X scope s₂.heap.objs.size)) tb)
  (hsw:swapsWith (.DictComp kx vx [⟨tg,iter,[],0⟩] scope pos) (some (.Name x pos')) spos.line X.env=pure true)
  (hs:∀x,foldedSetIterable iter X.env x=pure x:=by intro _;rfl) (hf:X.fn x=true∨X.env.scope.names.lookup x=some .local:=by first|exact .inl rfl|exact .inr rfl|assumption):
  PS X (.Assign [.Name x pos'] (.DictComp kx vx [⟨tg,iter,[],0⟩] scope pos) spos) (jx (lL own cap wi g tb) (dZ i)):=by
 intro pins s σ H D I h
 rw [exec_Assign_Name_used _ _ _ _ hsw]
 refine wpAny_bind (wpAny_standAt (wpAny_bind ?_))
 show wpAny _ X.A (do let _←comprehension (.DictComp kx vx [⟨tg,iter,[],0⟩] scope pos) scope X.env _ newDict false (eval iter X.env) (some (assign (.Name x pos') X.env))) _ _ s
 refine wpAny_bind (wpAny_mono (wpAny_comprehension_free (use:=some (assign (.Name x pos') X.env)) (Q:=fun _ s'=>SP X pins D .next s') rfl hs (cD (cs.jg I.ok)) cs.kind cs.names ?_) (fun _ s' hq=>wpAny_pure (wpAny_pure hq)) fun _ _ e=>e)
 refine thn (hi pins s σ H _ I h) fun xv s1 h1'=>thn h1' fun itv s2 h2'=>?_
 obtain ⟨it,fp,tn,J,H2,e,I2,T,st2,f2,lp⟩:=h2'
 subst e
 refine eT (B:=dQ) (fin:=fun ys=>ys.2.length<=sizeLine) (ho:=fun a ys=>PD a ys.1 ys.2) (Q:=fun x H1=>dZ i x σ H1 D.nx) (RR:=fun acc C=>compPost (model X.prog X.w) X.A X.xe (some (assign (.Name x pos') X.env)) (fun _ s'=>SP X pins D .next s') acc C) cs wpAny_newObj_type rfl pb mF (fun _ _ _=>sr) (fun it acc env=>sG) codeAny_compStart_dict hc h1 (fun _ _ _ _=>jl) h3 T I2 st2 f2 lp ?_
 intro acc C s' H' m hC I' hn hns q
 show wpAny _ X.A (assign (.Name x pos') X.env (.ref acc)) _ _ _
 refine wpAny_assign_Name (gG I' hN hix hx (v:=.ref acc) rfl (fun s'' I'' ⟨a,sb,ha⟩=>?_) hf)
 have hne:C≠a:=by
  rcases ha with z|z
  ·rw [z];exact Nat.ne_of_gt (Nat.lt_of_lt_of_le I2.lt hC)
  ·obtain ⟨v,hv⟩:=I2.cell x a z
   exact Nat.ne_of_gt (Nat.lt_of_lt_of_le hv.lt hC)
 exact ⟨m,hns.sameBut sb hne,fun h' hs'=>⟨_,H',CT.Inv.kB I2 I'' hC hn hs',q⟩⟩
end
structure DCx (X:Cx) (ρ:Rho) (e:Expr) (c:Ow):Prop where
 pe:DFx X ρ e c
 ps:∀(i:Nat) (x:Str) (pos' spos:Pos),X.N.Nodup->X.N[i]?=some x->Loc X.env.scope x->(X.fn x=true∨X.env.scope.names.lookup x=some .local)->swapsWith e (some (.Name x pos')) spos.line X.env=pure true->
  PS X (.Assign [.Name x pos'] e spos) (jx (lQ X.K ρ c) (dZ i))
section
variable {X:Cx} {ρ:Rho} {e:Expr} {c:Ow} {xs:List D} {i:Nat} {x:Str} {pos pos':Pos}
theorem DC.cx (h:DC X ρ e xs):DCx X ρ e (.l xs):=⟨h.df.x,fun i x pos' spos hN hix hx hf hsw=>PS.weak (h.ps i x pos' spos hN hix hx hf hsw) fun D σ H ⟨S,ve,k⟩=>⟨S,ve,fun a vs H' ex hp r=>
 k a (.lst vs) _ (ex.trans (Ext.new hp)) (ex.back hp) aH ⟨vs,rfl,((r.av (S':=S.and a) fun b h=>h.imp_right fun z=>by rw [z];exact hp).ext ((Ext.new hp).to _))⟩⟩⟩
theorem rW (hN:X.N.Nodup) (hi:X.N[i]?=some x) (hx:Loc X.env.scope x) (he:DCx X ρ e c) (hsw:swapsWith e (some (.Name x pos')) pos.line X.env=pure true) (hf:X.fn x=true∨X.env.scope.names.lookup x=some .local):
  DS X ρ (.Assign [.Name x pos'] e pos) (.nx (ρ.set i (.owx c))):=PS.weak (he.ps i x pos' pos hN hi hx hf hsw) fun E σ H ⟨H₀,S₀,S,f,k⟩=>⟨S,f.ve,fun a vs H' ex hn ha r=>k _ H' _ (f.n9 ex hn ha r)⟩
end
noncomputable def xj (K:PySem.W.Frag) (ρ:Rho) (k:PK) (d:D):TBg (Nat×KVs):=fun σ H ys Q=>∃S es,VE K H S ρ σ∧aq K H S es ys.2∧es.length<=sizeLine∧k.dp<=8∧∀ep' kvs' H',aD H H'->aq K H' S (cW es k d) kvs'->Q (ep',kvs') H'
noncomputable def DBd (Y:Cx) (acc:Addr) (m:Sem Unit) (ρ:Rho) (k:PK) (d:D):Prop:=PBg dQ Y acc m (xj Y.K ρ k d)
section
variable {Y:Cx} {acc:Addr} {ρ:Rho} {d:D} {kx vx:Expr}
theorem qT {l:List PK} (hu:Y.A.units+9<cLine) (hk:DE Y ρ kx (PK.d (.t l))) (hv:DE Y ρ vx d):DBd Y acc (fO kx vx acc Y.env) ρ (.t l) d:=fun pins s σ H ys Q I hf ha ⟨S,es,ve,rp,hl,hd,kk⟩=>
 rZ hu hk hv pins s σ H ys Q I hf ha ⟨S,ve,fun y H1 e1 r1=>⟨S,ve.ext e1,fun v H2 e2 r2=>by
  have r1':=r1.ext (e2.to S)
  obtain ⟨b,vs,rfl,hb,rl⟩:=(show Rds Y.K H2 S (.tup (PK.dL l)) y from r1').cg
  have rp2:=rp.ext ((e1.trans e2).to S)
  exact ⟨b,.t l,rfl,rp2.keys,Rds.key hd r1',by rw [←rp.length];exact hl,fun ep'=>kk ep' _ H2 (e1.trans e2) (aq.put hd r1' r2 rp2)⟩⟩⟩
noncomputable def tbD (K:PySem.W.Frag) (B:Rho->PK->D->Prop):TBg (Nat×KVs):=fun σ H ys Q=>∃ρ k d,B ρ k d∧xj K ρ k d σ H ys Q
theorem tS {K:PySem.W.Frag} {G:Rho->D->Rho->List Nat->Prop} {B:Rho->PK->D->Prop} {ks:List Nat} {J:It} {its:List D} {E:Nat->List (PK×D)} (hks:∀k∈ks,ρ[k]?=some .nil) (E0:E 0=[])
  (ht:∀(i:Nat) d,its[i]?=some d->∃ρ' k v,G ρ d ρ' ks∧B ρ' k v∧E (i+1)=cW (E i) k v∧(E i).length<=sizeLine∧k.dp<=8) {σ:St} {H:Hp} {S:Ad} {Q:Nat×KVs->Hp->Prop} (ve:VE K H S ρ σ) (hJ:sg K S J its H)
  (q:∀ep kvs H',aD H H'->aq K H' S (E its.length) kvs->Q (ep,kvs) H'):fZ (gA K G) kz (tbD K B) J σ H (0,[]) Q:=by
 refine ⟨fun i n ys' H'=>n=its.length - i∧i<=its.length∧aD H H'∧aq K H' S (E i) ys'.2,⟨its.length,by simp,Nat.zero_le _,Ext.refl,by rw [E0];exact .nil⟩,?_⟩
 rintro i n ys' H' ⟨rfl,hi,ex,rv⟩
 have dm:=(ve.ext ex).dom
 obtain ⟨J1,J2⟩:=hJ H' ex dm i
 by_cases hlt:i<its.length
 ·have hd:its[i]?=some its[i]:=by simp [hlt]
  obtain ⟨go,yld⟩:=J1 _ hd
  obtain ⟨ρ',k,v,hg,hb,he,hz,hdp⟩:=ht i _ hd
  refine .inr ⟨go,fun x H1 y=>?_⟩
  obtain ⟨e1,r1⟩:=yld x H1 y
  have ve1:=(ve.ext ex).ext e1
  refine ⟨ρ,its[i],ρ',ks,hg,S,ve1,r1,fun σ2 ve2 c=>⟨c.fgt fun k hk=>ve.unset (hks k hk),by
   unfold kz
   dsimp only
   rw [if_pos rfl]
   exact ⟨ρ',k,v,hb,S,E i,ve2,rv.ext (e1.to S),hz,hdp,fun ep' kvs' H3 e3 ru=>⟨its.length - (i+1),by omega,rfl,hlt,ex.trans (e1.trans e3),by rw [he];exact ru⟩⟩⟩⟩
 ·have e:i=its.length:=by omega
  subst e
  exact .inl ⟨J2 (Nat.le_refl _),q ys'.1 ys'.2 H' ex rv⟩
end
section
variable {X:Cx} {scope:Scope} {own:List Str} {cap:List (Str×Nat)} {ρ:Rho} {kx vx tg iter:Expr} {pos:Pos} {ks:List Nat} {its:List D} {E:Nat->List (PK×D)}
theorem qu (cs:CS X scope own cap) (hc:X.calm=true) (hi:DI0 X tg ρ iter its) (hks:∀k∈ks,(cR own cap ρ)[k]?=some .nil) (E0:E 0=[]) (hz:(E its.length).length<=sizeLine)
  (ht:∀(i:Nat) d,its[i]?=some d->∃ρ' k v,(∀p s h f,DG (cX X scope own cap p s h f) tg (cR own cap ρ) d ρ' ks)∧(∀p s h f acc,DBd (cX X scope own cap p s h f) acc (fO kx vx acc (bE X scope s.heap.objs.size)) ρ' k v)∧E (i+1)=cW (E i) k v∧(E i).length<=sizeLine∧k.dp<=8)
  (hs:∀x,foldedSetIterable iter X.env x=pure x:=by intro _;rfl):DCx X ρ (.DictComp kx vx [⟨tg,iter,[],0⟩] scope pos) (.d (E its.length)):=by
 have rd:∀(σ:St) (H:Hp) (Q:VK),lQ X.K ρ (.d (E its.length)) σ H Q->lL own cap (rS X.K ρ its) (gA X.K _) (tbD X.K _) σ H Q:=fun σ H Q ⟨S,ve,k⟩=>⟨S,ve,fun J H1 e1 hJ=>
  tS (G:=fun ρ d ρ' ks=>∀p s h f,DG (cX X scope own cap p s h f) tg ρ d ρ' ks) (B:=fun ρ k d=>∀p s h f acc,DBd (cX X scope own cap p s h f) acc (fO kx vx acc (bE X scope s.heap.objs.size)) ρ k d) hks E0 ht (ve.ext e1).cap hJ fun ep kvs H2 e2 r=>⟨by rw [←r.length];exact hz,fun a ha=>
   k a (PD a ep kvs) _ ((e1.trans e2).trans (Ext.new ha)) ((e1.trans e2).back ha) aH ⟨ep,kvs,rfl,((r.av (S':=S.and a) fun b h=>h.imp_right fun z=>by rw [z];exact ha).ext ((Ext.new ha).to _))⟩⟩⟩
 have g1:∀p s h f,PG (cX X scope own cap p s h f) tg (gA X.K (fun ρ d ρ' ks=>∀p s h f,DG (cX X scope own cap p s h f) tg ρ d ρ' ks)):=fun p s h f=>nG (Y:=cX X scope own cap p s h f) fun _ _ _ _ g=>g p s h f
 have g3:∀p s h f acc,PBg dQ (cX X scope own cap p s h f) acc (fO kx vx acc (bE X scope s.heap.objs.size)) (tbD X.K (fun ρ k d=>∀p s h f acc,DBd (cX X scope own cap p s h f) acc (fO kx vx acc (bE X scope s.heap.objs.size)) ρ k d)):=
  fun p s h f acc pins s σ H ys Q I fo a ⟨_,_,_,g,q⟩=>g p _ h f acc pins s σ H ys Q I fo a q
 exact ⟨PE.weak (rF cs hc hi g1 g3 hs) rd,fun i x pos' spos hN hix hx hf hsw=>PS.weak (qw cs hc hN hix hx hi g1 g3 hsw hs hf) fun D σ H q=>rd σ H _ q⟩
end
end CT
namespace CT
open PySem PySem.Spec L2
open PyProof.Rows hiding St
open PySem.W (Frag)
noncomputable abbrev CXA (_:Program) (_:World):CXT:=CX0
noncomputable def DEX (_:Cx) (_:Rho) (_:Expr) (_:D):Prop:=True
noncomputable def DSX (_:Cx) (_:Rho) (_:Stmt) (_:Rho) (_:D):Prop:=True
noncomputable def ya (_:Cx) (_:Rho) (_:List Stmt) (_:Rho) (_:D):Prop:=True
inductive nI (X:Cx) (tg:Expr) (body:List Stmt) (ρe:Rho) (de:D):List D->Rho->Prop
 |here {d:D} {ds:List D} {ρ ρ1:Rho} {ks:List Nat}:DG X tg ρ d ρ1 ks->cn ρ ρ1 ks->ya X ρ1 body ρe de->nI X tg body ρe de (d::ds) ρ
 |cons {d:D} {ds:List D} {ρ ρ1 ρ2:Rho} {ks:List Nat}:DG X tg ρ d ρ1 ks->cn ρ ρ1 ks->DSs X ρ1 body (.nx ρ2)->nI X tg body ρe de ds ρ2->nI X tg body ρe de (d::ds) ρ
inductive Res where
 |ok (d:D)|xc (d:D)
inductive mT where
 |ok (fs:List (Str×D))|xc (d:D)
noncomputable def spR (K:Frag) (P:List D->Res->Prop):Sp:=fun vs H Q _=>∃S ds r,Dom H S∧af K H S ds vs∧P ds r∧(∀d,r≠.xc d)∧∀d,r=.ok d->∀v H',aD H H'->Rds K H' S d v->Q v H'
noncomputable def nc (K:Frag) (C:Addr) (P:List D->mT->Prop):Sp:=fun vs H Q _=>∃S x dx us ds r,vs=.ref x::us∧H x=some (.ins C dx [])∧Dom H S∧S x∧af K H S ds us∧P ds r∧(∀d,r≠.xc d)∧
 ∀fs,r=.ok fs->∀H' gs,(∀a o,a≠x->H a=some o->H' a=some o)->H' x=some (.ins C dx gs)->aF K H' S fs gs->Q .non H'
section
variable {P:Program} {w:World} {K:Frag} {mg:Str->Option Value} {base:Heap} {x qual:Str} {st:Stmt} {f C:Addr} {fd:FuncData} {N ps:List Str} {k:Nat}
theorem aC.okD {Pr:List D->Res->Prop} (F:aC P w K mg base CX0 k f fd ps (spR K Pr)):aC P w K mg base CX0 k f fd ps (spD K fun ds d=>Pr ds (.ok d)):=
 F.imp fun vs H Q E ⟨S,ds,d,dm,r,p,kk⟩=>⟨S,ds,.ok d,dm,r,p,(fun _ z=>nomatch z),fun d' e=>by cases e;exact kk⟩
theorem aC.okI {Pr:List D->mT->Prop} (F:aC P w K mg base CX0 k f fd ps (nc K C Pr)):aC P w K mg base CX0 k f fd ps (spI K C fun ds fs=>Pr ds (.ok fs)):=
 F.imp fun vs H Q E ⟨S,x,dx,us,ds,fs,e,hx,dm,sx,r,p,kk⟩=>⟨S,x,dx,us,ds,.ok fs,e,hx,dm,sx,r,p,(fun _ z=>nomatch z),fun d' e=>by cases e;exact kk⟩
theorem AB {Pr:List D->Res->Prop} (F:Fun K x qual st f fd) (S:bJ N ps (ah st)) (len:∀ds r,Pr ds r->ds.length=ps.length)
  (hb:∀(cdv:Value) (A:Around) (outer:List Env) (s:Shared) (H:Hp) (E:XK) (ds:List D) (d:D),aI k (A.deeper (envOfC qual (ah st) s.heap.objs.size f cdv))->Pr ds (.ok d)->
   ∃o,wO o d∧DSs (dU CX0 P w K mg base N qual (ah st) f cdv A outer s H E).nox (aK N ds) (aY st) o):aC P w K mg base CX0 (k+1) f fd ps (spR K Pr):=
 (A6 (Pr:=fun ds d=>Pr ds (.ok d)) F S (fun ds d p=>len ds _ p) hb).imp fun vs H Q E ⟨S,ds,r,dm,rs,p,nx,kk⟩=>by
  cases r with
  |ok d=>exact ⟨S,ds,d,dm,rs,p,kk d rfl⟩
  |xc d=>exact absurd rfl (nx d)
theorem yY {Pr:List D->mT->Prop} (F:Fun K x qual st f fd) (S:bJ N ps (ah st)) (len:∀ds r,Pr ds r->ds.length+1=ps.length)
  (hb:∀(cdv:Value) (A:Around) (outer:List Env) (s:Shared) (H:Hp) (E:XK) (ds:List D) (fs:List (Str×D)) (z dx:Addr),aI k (A.deeper (envOfC qual (ah st) s.heap.objs.size f cdv))->Pr ds (.ok fs)->
   ∃ρ',ρ'[0]?=some (.new C z dx fs)∧DSs (dU CX0 P w K mg base N qual (ah st) f cdv A outer s H E).nox (.new C z dx []::(aK N (.non::ds)).tail) (aY st) (.nx ρ')):aC P w K mg base CX0 (k+1) f fd ps (nc K C Pr):=
 (AD (Pr:=fun ds fs=>Pr ds (.ok fs)) F S (fun ds d p=>len ds _ p) hb).imp fun vs H Q E ⟨S,x,dx,us,ds,r,e,hx,dm,sx,rs,p,nx,kk⟩=>by
  cases r with
  |ok d=>exact ⟨S,x,dx,us,ds,d,e,hx,dm,sx,rs,p,kk d rfl⟩
  |xc d=>exact absurd rfl (nx d)
end
end CT
set_option genInjectivity false
namespace IN
open PySem PySem.Spec L2 CT
open PyProof.Rows hiding St
inductive BO where|add|sub|mul|mod|fdiv|pow|shr
inductive CO where|lt|le|gt|ge|eq|ne|is|isn|inn|nin
inductive BN where|len|sum|all|any|abs|int|str|tuple|list|dict|min|max|isin|range|zip|enum|sorted
inductive Tg where
 |nm (k:Nat)|tp (ts:List Tg)
inductive CE where
 |nop|var (i:Nat)|lit (d:D)|gl (x:Str)
 |bin (o:BO) (a b:CE)|neg (a:CE)|nt (a:CE)|and (a b:CE)|or (a b:CE)
 |cmp (o:CO) (a b:CE)|isN (a:CE)|nD (a:CE)|chn (a b c:CE)|ife (c a b:CE)
 |tup (es:List CE)|lst (es:List CE)|ix (a b:CE)|sl (a lo hi:CE)
 |fld (a:CE) (f:Str)|blt (n:BN) (es:List CE)|fn (x:Str) (es:List CE)|mth (o:CE) (m:Str) (es:List CE)
 |comp (w:Nat) (cap:List Nat) (tg:Tg) (it test body:CE)
 |emit (e:CE)|loop (tg:Tg) (it test body:CE)
 |fK
 |cT (w:Nat) (cap:List Nat) (tg:Tg) (it k v:CE)
inductive CS' where
 |asg (t:Tg) (e:CE) (L:List Nat)|aug (i:Nat) (o:BO) (e:CE) (L:List Nat)
 |par (i j:Nat) (a b:CE) (L:List Nat)
 |put (i:Nat) (k e:CE) (L:List Nat)|jr (f:Str) (e:CE) (L:List Nat)
 |app (i:Nat) (e:CE) (L:List Nat)|clr (i:Nat)
 |exp (e:CE) (L:List Nat)|ret (e:CE) (L:List Nat)|wm
 |ife (c:CE) (L:List Nat) (a b:List CS')|for (t:Tg) (it:CE) (L:List Nat) (b:List CS')|whl (c:CE) (L:List Nat) (b:List CS')
 |rse (x:Str) (es:List CE) (L:List Nat)
 |try (b:List CS') (x:Str) (i:Nat) (h:List CS')
 |pass
 |fgt (L:List Nat)
 |mov (j i:Nat)
structure Def where
 slots:Nat
 aB:Nat
 init:Bool:=false
 body:List CS'
inductive Tag where
 |ty (n:String)|cl (C:Addr)|xc (C:Addr)
 deriving DecidableEq
noncomputable def yj:D->Option Tag
 |.ins C _=>some (.cl C)|.exc C _=>some (.xc C)
 |d=>(tyN d).map .ty
noncomputable def A7:D->Option Tag
 |.ty n=>some (.ty n)|.cl C=>some (.cl C)|_=>none
structure Prg where
 glob:Str->Option D
 fn:Str->Option Str
 ini:Str->Option (Addr×Str)
 exc:Str->Option (Addr×List Str)
 mth:Addr->Str->Option Str
 fok:Addr->Str->Bool
 xok:Addr->Str->Bool
 kit:Tag->Tag->Option Bool
 sub:Addr->Addr->Option Bool
 defs:Str->Option (Option Addr×Def)
inductive Rs where
 |ok (d:D)|fr (c:Ow)|xc (d:D)
inductive Oc where
 |nx (ρ:Rho)|rt (d:D)|fr (c:Ow)|xc (ρ:Rho) (d:D)
mutual
noncomputable def b7:D->Option PK
 |.int n=>some (.i n)
 |.tup xs=>match fH xs with|some l=>some (.t l)|none=>none
 |_=>none
noncomputable def fH:List D->Option (List PK)
 |[]=>some []
 |x::xs=>match b7 x with
  |some k=>match fH xs with
   |some ks=>some (k::ks)
   |none=>none
  |none=>none
end
mutual
noncomputable def PK.beq:PK->PK->Bool
 |.i n,.i m=>n==m
 |.t l,.t r=>PK.gK l r
 |_,_=>false
noncomputable def PK.gK:List PK->List PK->Bool
 |[],[]=>true
 |a::l,b::r=>PK.beq a b&&PK.gK l r
 |_,_=>false
end
noncomputable def look:List (PK×D)->PK->Option D
 |[],_=>none
 |(k,d)::r,q=>if PK.beq k q then some d else look r q
noncomputable def bp (es:List (PK×D)) (q:PK) (v:D):List (PK×D):=
 match look es q with
 |some _=>es.map fun p=>if PK.beq p.1 q then (p.1,v) else p
 |none=>es++[(q,v)]
noncomputable def apart:List Int->Bool
 |[]=>true
 |x::xs=>!xs.contains x&&apart xs
noncomputable def bg (i j:Int):Bool:=decide (i.natAbs<2^64)||decide (j.natAbs<2^64)||(decide (i.natAbs<2^100000)&&decide (j.natAbs<2^100000))
noncomputable def cH:BO->D->D->Option D
 |.add,.int i,.int j=>some (.int (i+j))
 |.add,.tup xs,.tup ys=>if xs.length+ys.length<=sizeLine then some (.tup (xs++ys)) else none
 |.add,.lst xs,.lst ys=>if xs.length+ys.length<=sizeLine then some (.lst (xs++ys)) else none
 |.sub,.int i,.int j=>some (.int (i - j))
 |.mul,.int i,.int j=>if bg i j then some (.int (i*j)) else none
 |.mul,.tup xs,.int k=>match xs with
  |[d]=>if 0<=k∧k.toNat<2^20 then some (.tup (List.replicate k.toNat d)) else none
  |_=>none
 |.mod,.int i,.int j=>if 0<j then some (.int (i%j)) else none
 |.fdiv,.int i,.int j=>if 0<j∧j.toNat<1073741824 then some (.int (i / j)) else none
 |_,_,_=>none
noncomputable def boolsOf:List D->Option (List Bool)
 |[]=>some []
 |.bl b::r=>match boolsOf r with|some l=>some (b::l)|none=>none
 |_=>none
noncomputable def intsOf:List D->Option (List Int)
 |[]=>some []
 |.int b::r=>match intsOf r with|some l=>some (b::l)|none=>none
 |_=>none
noncomputable def gz (x y:D):Bool:=aW x&&aW y&&decide (min (toPy x).depth (toPy y).depth<=64)
noncomputable def bt:CO->D->D->Option Bool
 |.lt,.int i,.int j=>some (decide (i<j))
 |.le,.int i,.int j=>some (decide (i<=j))
 |.gt,.int i,.int j=>some (decide (j<i))
 |.ge,.int i,.int j=>some (decide (j<=i))
 |.eq,.int i,.int j=>some (decide (i=j))
 |.ne,.int i,.int j=>some (!decide (i=j))
 |.is,.bl p,.bl q=>some (p==q)
 |.isn,.bl p,.bl q=>some (p !=q)
 |.eq,x,y=>if gz x y then some (eqD x y) else none
 |.ne,x,y=>if gz x y then some (!eqD x y) else none
 |_,_,_=>none
noncomputable def bq:D->Option (List D)
 |.lst xs=>some xs|.tup xs=>some xs|_=>none
noncomputable def ixD:D->D->Option D
 |.lst xs,.int i=>atI xs i
 |.tup xs,.int i=>atI xs i
 |.pdc es,k=>match b7 k with
  |some (.t l)=>if (PK.t l).dp<=8 then look es (.t l) else none
  |_=>none
 |_,_=>none
noncomputable def slD:D->Option Int->Option Int->Option D
 |.tup xs,l,u=>some (.tup (yq xs l u))
 |.lst xs,l,u=>some (.lst (yq xs l u))
 |_,_,_=>none
noncomputable def b6 (G:Prg) (d:D):D->Option Bool
 |.tup [.ty a,.ty b]=>if a="list"∧b="tuple" then (match tyN d with|some _=>some (mO d "list"||mO d "tuple")|none=>none) else none
 |c=>match yj d,A7 c with
  |some t,some u=>G.kit t u
  |_,_=>none
noncomputable def bj (G:Prg):BN->List D->Option D
 |.len,[d]=>match bq d with|some xs=>some (.int xs.length)|none=>none
 |.sum,[.lst xs]=>match intsOf xs with|some ns=>some (.int ns.sum)|none=>none
 |.all,[d]=>match bq d with|some xs=>(match boolsOf xs with|some bs=>some (.bl (bs.all id))|none=>none)|none=>none
 |.tuple,[d]=>match bq d with|some xs=>some (.tup xs)|none=>none
 |.min,[.int i,.int j]=>some (.int (if j<i then j else i))
 |.isin,[d,c]=>match b6 G d c with|some b=>some (.bl b)|none=>none
 |_,_=>none
noncomputable def itD:D->Option (List D)
 |.lst xs=>some xs|.tup xs=>some xs|.pdc es=>some (es.map fun p=>PK.d p.1)|_=>none
noncomputable def gb (j:Int):Bool:=decide (j.toNat<2^62)&&decide ((-j).toNat<=2^62)
noncomputable def f_:BN->List D->Option (List D)
 |.range,[.int j]=>if gb j then some ((ar j).map D.int) else none
 |.range,[.int i,.int j]=>if gb i&&gb j then some ((iN i j).map D.int) else none
 |.zip,[x,y]=>match bq x,bq y with|some xs,some ys=>some (bY xs ys)|_,_=>none
 |.zip,[x,y,z]=>match bq x,bq y,bq z with|some xs,some ys,some zs=>some (a7 xs ys zs)|_,_,_=>none
 |.enum,[.lst xs]=>some (aT 0 xs)
 |_,_=>none
mutual
noncomputable def ag:Tg->D->Rho->Option Rho
 |.nm k,d,ρ=>if k<ρ.length then some (ρ.set k (.val d)) else none
 |.tp ts,.tup ds,ρ=>aN ts ds ρ
 |_,_,_=>none
noncomputable def aN:List Tg->List D->Rho->Option Rho
 |[],[],ρ=>some ρ
 |t::ts,d::ds,ρ=>match ag t d ρ with|some ρ'=>aN ts ds ρ'|none=>none
 |_,_,_=>none
end
mutual
noncomputable def tks:Tg->List Nat
 |.nm k=>[k]
 |.tp ts=>eh ts
noncomputable def eh:List Tg->List Nat
 |[]=>[]
 |t::ts=>tks t++eh ts
end
noncomputable def isNil:Option Sl->Bool
 |some .nil=>true|_=>false
noncomputable def aA:Option Sl->Option D
 |some (.val d)=>some d|_=>none
noncomputable def ia (f:D->Option (List D)):List D->Option (List D)
 |[]=>some []
 |d::ds=>match f d with
  |some xs=>match ia f ds with
   |some ys=>some (xs++ys)
   |none=>none
  |none=>none
noncomputable def jq (f:D->Option (PK×D)):List D->List (PK×D)->Option (List (PK×D))
 |[],es=>some es
 |d::ds,es=>match f d with
  |some p=>if es.length<sizeLine then jq f ds (bp es p.1 p.2) else none
  |none=>none
noncomputable def rC:Option D->Option D->Option (PK×D)
 |some kd,some v=>match b7 kd with
  |some (.t l)=>if (PK.t l).dp<=8 then some (.t l,v) else none
  |_=>none
 |_,_=>none
noncomputable def cN (w:Nat) (cap:List Nat) (ρ:Rho):Rho:=List.replicate w .nil++cap.map fun i=>bZ ρ[i]?
noncomputable def Rs.val:Rs->Option D
 |.ok d=>some d|.fr c=>some c.D|.xc _=>none
noncomputable def fnR (G:Prg) (cl:Str->List D->Option Rs) (x:Str) (ds:List D):Option Rs:=
 match ds with
 |[]=>none
 |d::r=>match G.fn x with
  |some k=>cl k (d::r)
  |none=>match G.ini x with
   |some (_,k)=>cl k (d::r)
   |none=>none
noncomputable def ba (G:Prg) (cl:Str->List D->Option Rs) (o:D) (m:Str) (ds:List D):Option Rs:=
 match o with
 |.ins C fs=>match fs.lookup m,G.mth C m with
  |none,some k=>cl k (.ins C fs::ds)
  |_,_=>none
 |.pdc es=>if m="get" then (match ds with
  |[k]=>match b7 k with
   |some (.t l)=>if (PK.t l).dp<=8 then some (.ok ((look es (.t l)).getD .non)) else none
   |_=>none
  |_=>none) else none
 |_=>none
noncomputable def cq (G:Prg) (o:D) (f:Str):Option D:=
 match o with
 |.ins C fs=>if G.fok C f then fs.lookup f else none
 |_=>none
noncomputable def asI:CE->Option D->Option (Option Int)
 |.nop,_=>some none
 |_,some (.int i)=>some (some i)
 |_,_=>none
section
variable (G:Prg) (cl:Str->List D->Option Rs)
mutual
noncomputable def ev:CE->Rho->Option D
 |.var i,ρ=>aA ρ[i]?
 |.lit d,_=>some d
 |.gl x,_=>G.glob x
 |.bin o a b,ρ=>match ev a ρ with
  |some x=>match ev b ρ with
   |some y=>cH o x y
   |none=>none
  |none=>none
 |.neg a,ρ=>match ev a ρ with|some (.int i)=>some (.int (-i))|_=>none
 |.nt a,ρ=>match ev a ρ with|some (.bl b)=>some (.bl (!b))|_=>none
 |.and a b,ρ=>match ev a ρ with
  |some (.bl true)=>(match ev b ρ with|some (.bl q)=>some (.bl q)|_=>none)
  |some (.bl false)=>some (.bl false)
  |_=>none
 |.or a b,ρ=>match ev a ρ with
  |some (.bl true)=>some (.bl true)
  |some (.bl false)=>(match ev b ρ with|some (.bl q)=>some (.bl q)|_=>none)
  |_=>none
 |.cmp o a b,ρ=>match ev a ρ with
  |some x=>match ev b ρ with
   |some y=>match bt o x y with|some q=>some (.bl q)|none=>none
   |none=>none
  |none=>none
 |.isN a,ρ=>match ev a ρ with|some x=>some (.bl (cQ x))|none=>none
 |.nD a,ρ=>match ev a ρ with|some x=>some (.bl (!cQ x))|none=>none
 |.chn a b c,ρ=>match ev a ρ with
  |some (.int i)=>match ev b ρ with
   |some (.int j)=>match ev c ρ with
    |some (.int k)=>some (.bl (decide (i<=j)&&decide (j<k)))
    |_=>none
   |_=>none
  |_=>none
 |.ife _ _ _,_=>none
 |.tup es,ρ=>match evA es ρ with
  |some ds=>if ds.length<=sizeLine then some (.tup ds) else none
  |none=>none
 |.lst es,ρ=>match evA es ρ with
  |some ds=>if ds.length<=sizeLine then some (.lst ds) else none
  |none=>none
 |.ix a b,ρ=>match ev a ρ with
  |some x=>match ev b ρ with
   |some y=>ixD x y
   |none=>none
  |none=>none
 |.sl _ _ _,_=>none
 |.fld a f,ρ=>match ev a ρ with|some x=>cq G x f|none=>none
 |.blt n es,ρ=>match evA es ρ with
  |some ds=>match n with
   |.list=>none
   |.dict=>(match ds with|[.pdc es]=>if apart (es.map fun q=>q.1.hs) then some (.pdc es) else none|_=>none)
   |_=>bj G n ds
  |none=>none
 |.fn x es,ρ=>match evA es ρ with
  |some ds=>match fnR G cl x ds with|some r=>r.val|none=>none
  |none=>none
 |.mth o m es,ρ=>match ev o ρ with
  |some x=>match evA es ρ with
   |some ds=>match ba G cl x m ds with|some r=>r.val|none=>none
   |none=>none
  |none=>none
 |.comp w cap tg it test body,ρ=>match evI it ρ with
  |some its=>if (tks tg).all (fun k=>k<w) then
    match ia (fun d=>match ag tg d (cN w cap ρ) with
     |some ρ'=>match evT test ρ' with
      |some true=>evB w body ρ'
      |some false=>some []
      |none=>none
     |none=>none) its with
    |some out=>if out.length<=sizeLine then some (.lst out) else none
    |none=>none
   else none
  |none=>none
 |.fK,_=>some (.pdc [])
 |.cT w cap tg it k v,ρ=>match evI it ρ with
  |some its=>if (tks tg).all (fun k=>k<w) then
    match jq (fun d=>match ag tg d (cN w cap ρ) with
     |some ρ'=>rC (ev k ρ') (ev v ρ')
     |none=>none) its [] with
    |some es=>some (.pdc es)
    |none=>none
   else none
  |none=>none
 |.nop,_=>none
 |.emit _,_=>none
 |.loop _ _ _ _,_=>none
noncomputable def evT:CE->Rho->Option Bool
 |.nt a,ρ=>match evT a ρ with|some b=>some (!b)|none=>none
 |.and a b,ρ=>match evT a ρ with
  |some true=>evT b ρ
  |some false=>some false
  |none=>none
 |.or a b,ρ=>match evT a ρ with
  |some true=>some true
  |some false=>evT b ρ
  |none=>none
 |.cmp o a b,ρ=>match ev a ρ with
  |some x=>match ev b ρ with
   |some y=>bt o x y
   |none=>none
  |none=>none
 |.isN a,ρ=>match ev a ρ with|some x=>some (cQ x)|none=>none
 |.nD a,ρ=>match ev a ρ with|some x=>some (!cQ x)|none=>none
 |.var i,ρ=>match aA ρ[i]? with|some (.bl b)=>some b|_=>none
 |.lit (.bl b),_=>some b
 |.blt n es,ρ=>match evA es ρ with
  |some ds=>match bj G n ds with|some (.bl b)=>some b|_=>none
  |none=>none
 |.fn x es,ρ=>match evA es ρ with
  |some ds=>match fnR G cl x ds with|some (.ok (.bl b))=>some b|_=>none
  |none=>none
 |.mth o m es,ρ=>match ev o ρ with
  |some x=>match evA es ρ with
   |some ds=>match ba G cl x m ds with|some (.ok (.bl b))=>some b|_=>none
   |none=>none
  |none=>none
 |_,_=>none
noncomputable def evA:List CE->Rho->Option (List D)
 |[],_=>some []
 |e::es,ρ=>match ev e ρ with
  |some d=>match evA es ρ with
   |some ds=>some (d::ds)
   |none=>none
  |none=>none
noncomputable def evI:CE->Rho->Option (List D)
 |.blt n es,ρ=>match evA es ρ with
  |some ds=>match f_ n ds with
   |some its=>some its
   |none=>none
  |none=>none
 |.var i,ρ=>match aA ρ[i]? with|some d=>itD d|none=>none
 |.fld a f,ρ=>match ev a ρ with|some x=>(match cq G x f with|some d=>itD d|none=>none)|none=>none
 |.tup es,ρ=>match evA es ρ with|some ds=>if ds.length<=sizeLine then some ds else none|none=>none
 |.lst es,ρ=>match evA es ρ with|some ds=>if ds.length<=sizeLine then some ds else none|none=>none
 |.ix a b,ρ=>match ev a ρ with
  |some x=>match ev b ρ with
   |some y=>(match ixD x y with|some d=>itD d|none=>none)
   |none=>none
  |none=>none
 |.fn x es,ρ=>match evA es ρ with
  |some ds=>match fnR G cl x ds with|some r=>(match r.val with|some d=>itD d|none=>none)|none=>none
  |none=>none
 |.mth o m es,ρ=>match ev o ρ with
  |some x=>match evA es ρ with
   |some ds=>match ba G cl x m ds with|some r=>(match r.val with|some d=>itD d|none=>none)|none=>none
   |none=>none
  |none=>none
 |_,_=>none
noncomputable def evB (w:Nat):CE->Rho->Option (List D)
 |.emit e,ρ=>match ev e ρ with|some d=>some [d]|none=>none
 |.loop tg it test body,ρ=>match evI it ρ with
  |some its=>if (tks tg).all (fun k=>k<w&&isNil ρ[k]?) then
    ia (fun d=>match ag tg d ρ with
     |some ρ'=>match evT test ρ' with
      |some true=>evB w body ρ'
      |some false=>some []
      |none=>none
     |none=>none) its
   else none
  |none=>none
 |_,_=>none
end
end
end IN
namespace IN
open PySem PySem.Spec L2 CT
open PyProof.Rows hiding St
noncomputable def au:Sl->Sl
 |.owx c=>.val c.D
 |s=>s
noncomputable def ae:List Nat->Rho->Rho
 |[],ρ=>ρ
 |i::L,ρ=>ae L (ρ.modify i au)
noncomputable def a9:Ow->Bool
 |.l xs=>aO xs
 |.d es=>es.all fun p=>ai p.2
noncomputable def kp (b:Bool) (ρ ρg:Rho):Rho:=if b then ρ else ρg
section
variable (G:Prg) (cl:Str->List D->Option Rs)
noncomputable def evV (e:CE) (ρ:Rho):Option Rs:=
 match e with
 |.fn x es=>match evA G cl es ρ with|some ds=>fnR G cl x ds|none=>none
 |.mth o m es=>match ev G cl o ρ with
  |some x=>match evA G cl es ρ with
   |some ds=>ba G cl x m ds
   |none=>none
  |none=>none
 |.lst es=>match evA G cl es ρ with
  |some ds=>if ds.length<=sizeLine then some (.fr (.l ds)) else none
  |none=>none
 |.comp w cap tg it test body=>match ev G cl (.comp w cap tg it test body) ρ with
  |some (.lst xs)=>some (.fr (.l xs))
  |_=>none
 |.blt .list es=>match ev G cl (.blt .list es) ρ with
  |some (.lst xs)=>some (.fr (.l xs))
  |_=>none
 |.blt .dict es=>match ev G cl (.blt .dict es) ρ with
  |some (.pdc xs)=>some (.fr (.d xs))
  |_=>none
 |.fK=>some (.fr (.d []))
 |.cT w cap tg it k v=>match ev G cl (.cT w cap tg it k v) ρ with
  |some (.pdc es)=>some (.fr (.d es))
  |_=>none
 |e=>match ev G cl e ρ with|some d=>some (.ok d)|none=>none
noncomputable def forL (tg:Tg) (b:Rho->Option Oc):List D->Rho->Option Oc
 |[],ρ=>some (.nx ρ)
 |d::ds,ρ=>match ag tg d ρ with
  |some ρ1=>match b ρ1 with
   |some (.nx ρ2)=>forL tg b ds ρ2
   |o=>o
  |none=>none
noncomputable def hZ (c:Rho->Option Bool) (b:Rho->Option Oc):Nat->Rho->Option Oc
 |0,_=>none
 |n+1,ρ=>match c ρ with
  |some true=>(match b ρ with
   |some (.nx ρ2)=>hZ c b n ρ2
   |some (.xc _ _)=>none
   |o=>o)
  |some false=>some (.nx ρ)
  |none=>none
noncomputable def ik:List Nat->Rho->Rho
 |[],ρ=>ρ
 |i::L,ρ=>ik L (ρ.set i .any)
noncomputable def qo:Sl->Nat
 |.val (.int i)=>i.natAbs
 |_=>0
noncomputable def turns (ρ:Rho):Nat:=(ρ.map qo).sum+1000000
mutual
noncomputable def ab:CS'->Rho->Option Oc
 |.asg t e L,ρ=>match evV G cl e (ae L ρ) with
  |some (.ok d)=>(match ag t d (kp (ai d) ρ (ae L ρ)) with|some ρ'=>some (.nx ρ')|none=>none)
  |some (.fr c)=>(match t with
   |.nm k=>if k<ρ.length then some (.nx ((kp (a9 c) ρ (ae L ρ)).set k (.owx c))) else none
   |t=>none)
  |some (.xc d)=>some (.xc (ae L ρ) d)
  |none=>none
 |.aug _ .add _ _,_=>none
 |.aug _ _ _ _,_=>none
 |.par i j a b L,ρ=>match ev G cl a (ae L ρ) with
  |some x=>match ev G cl b (ae L ρ) with
   |some y=>if i≠j∧i<ρ.length∧j<ρ.length then some (.nx (((kp (ai x&&ai y) ρ (ae L ρ)).set i (.val x)).set j (.val y))) else none
   |none=>none
  |none=>none
 |.put i k e L,ρ=>match ev G cl e (ae L ρ) with
  |some v=>match ev G cl k (ae L ρ) with
   |some kd=>match (kp (ai v) ρ (ae L ρ))[i]?,b7 kd with
    |some (.owx (.d es)),some (.t l)=>if (PK.t l).dp<=8∧es.length<sizeLine then some (.nx ((kp (ai v) ρ (ae L ρ)).set i (.owx (.d (bp es (.t l) v))))) else none
    |_,_=>none
   |none=>none
  |none=>none
 |.jr f e L,ρ=>match ev G cl e (ae L ρ) with
  |some d=>match (ρ[(0:Nat)]?:Option Sl) with
   |some (.new C a dx fs)=>if fs.length<1000∧G.fok C f then some (.nx ((kp (ai d) ρ (ae L ρ)).set 0 (.new C a dx (putD f d fs)))) else none
   |_=>none
  |none=>none
 |.app i e L,ρ=>match ev G cl e (ae L ρ) with
  |some v=>match (kp (ai v) ρ (ae L ρ))[i]? with
   |some (.owx (.l xs))=>if xs.length<sizeLine then some (.nx ((kp (ai v) ρ (ae L ρ)).set i (.owx (.l (xs++[v]))))) else none
   |_=>none
  |none=>none
 |.clr _,_=>none
 |.exp e L,ρ=>match evV G cl e (ae L ρ) with
  |some (.ok d)=>some (.nx (kp (ai d) ρ (ae L ρ)))
  |some (.fr c)=>some (.nx (kp (a9 c) ρ (ae L ρ)))
  |some (.xc d)=>some (.xc (ae L ρ) d)
  |none=>none
 |.ret e L,ρ=>match (match e with|.var i=>(match ρ[i]? with|some (.owx c)=>some c|_=>none)|_=>none) with
  |some c=>some (.fr c)
  |none=>match evV G cl e (ae L ρ) with
   |some (.ok d)=>some (.rt d)
   |some (.fr c)=>some (.fr c)
   |some (.xc d)=>some (.xc (ae L ρ) d)
   |none=>none
 |.wm,_=>some (.rt .non)
 |.ife c L a b,ρ=>match evT G cl c (ae L ρ) with
  |some true=>run a ρ
  |some false=>run b ρ
  |none=>none
 |.for t it L b,ρ=>match evI G cl it (ae L ρ) with
  |some its=>forL t (run b) its (ae L ρ)
  |none=>none
 |.whl c L b,ρ=>hZ (fun ρ=>evT G cl c (ae L ρ)) (run b) (turns ρ) ρ
 |.rse x es L,ρ=>match evA G cl es (ae L ρ) with
  |some ds=>match G.exc x with
   |some (C,fs)=>if ds.length=fs.length∧ds.length<=1000 then some (.xc (ae L ρ) (.exc C (fs.zip ds))) else none
   |none=>none
  |none=>none
 |.try _ _ _ _,_=>none
 |.pass,ρ=>some (.nx ρ)
 |.fgt L,ρ=>some (.nx (ik L ρ))
 |.mov j i,ρ=>match ρ[i]? with
  |some (.owx c)=>if i≠j∧j<ρ.length then some (.nx ((ρ.set i .any).set j (.owx c))) else none
  |some (.val d)=>if j<ρ.length then some (.nx (ρ.set j (.val d))) else none
  |_=>none
noncomputable def run:List CS'->Rho->Option Oc
 |[],ρ=>some (.nx ρ)
 |s::r,ρ=>match ab s ρ with
  |some (.nx ρ')=>run r ρ'
  |o=>o
end
noncomputable def dG (C:Option Addr) (d:Def) (ds:List D):Option Rs:=
 match C with
 |none=>if ds.length=d.aB∧d.init=false then
   match run G cl d.body (ds.map .val++List.replicate (d.slots - ds.length) .nil) with
   |some (.nx _)=>some (.ok .non)
   |some (.rt x)=>some (.ok x)
   |some (.fr c)=>some (.fr c)
   |some (.xc _ x)=>some (.xc x)
   |none=>none
  else none
 |some C=>if ds.length+1=d.aB∧d.init=true then
   match run G cl d.body (.new C 0 0 []::(ds.map .val++List.replicate (d.slots - (ds.length+1)) .nil)) with
   |some (.nx ρ)=>(match (ρ[(0:Nat)]?:Option Sl) with|some (.new C' _ _ fs)=>if C'=C then some (.ok (.ins C fs)) else none|_=>none)
   |some (.xc _ x)=>some (.xc x)
   |_=>none
  else none
end
noncomputable def kal (G:Prg):Nat->Str->List D->Option Rs
 |0,_,_=>none
 |n+1,k,ds=>match G.defs k with
  |some (C,d)=>dG G (kal G n) C d ds
  |none=>none
end IN
namespace IN
open PySem PySem.Spec L2 CT
open PyProof.Rows hiding St
mutual
noncomputable def fvE:CE->List Nat
 |.var i=>[i]
 |.bin _ a b=>fvE a++fvE b|.neg a=>fvE a|.nt a=>fvE a|.and a b=>fvE a++fvE b|.or a b=>fvE a++fvE b
 |.cmp _ a b=>fvE a++fvE b|.isN a=>fvE a|.nD a=>fvE a|.chn a b c=>fvE a++fvE b++fvE c|.ife a b c=>fvE a++fvE b++fvE c
 |.tup es=>fvA es|.lst es=>fvA es|.ix a b=>fvE a++fvE b|.sl a b c=>fvE a++fvE b++fvE c
 |.fld a _=>fvE a|.blt _ es=>fvA es|.fn _ es=>fvA es|.mth o _ es=>fvE o++fvA es
 |.comp _ cap _ it _ _=>cap++fvE it
 |.emit e=>fvE e|.loop _ _ _ _=>[]|.nop=>[]|.lit _=>[]|.gl _=>[]|.fK=>[]
 |.cT _ cap _ it _ _=>cap++fvE it
noncomputable def fvA:List CE->List Nat
 |[]=>[]
 |e::es=>fvE e++fvA es
end
noncomputable def uniq:List Nat->List Nat
 |[]=>[]
 |x::xs=>if xs.contains x then uniq xs else x::uniq xs
noncomputable def fvU (e:CE):List Nat:=uniq (fvE e)
noncomputable def idx (N:List Str) (x:Str):Option Nat:=N.findIdx? (·==x)
noncomputable def hV (sc:Scope) (x:Str):Bool:=match sc.names.lookup x with
 |some .local=>true|some .cell=>true|some .free=>true|_=>false
noncomputable def mX (sc:Scope) (x:Str):Bool:=match sc.names.lookup x with
 |some .local=>true|some .cell=>true|_=>false
noncomputable def glB (sc:Scope) (x:Str):Bool:=match sc.names.lookup x with
 |some .globalImplicit=>true|_=>false
noncomputable def cj (x:Str):Bool:=!(x==("__debug__":Str))&&!(x==("__classdict__":Str))&&!(x==("__name__":Str))
noncomputable def m9 (sc:Scope) (N:List Str) (x:Str):Option CE:=
 if cj x then
  match idx N x with
  |some i=>if hV sc x then some (.var i) else none
  |none=>if glB sc x then some (.gl x) else none
 else none
noncomputable def opC:Operator->Option BO
 |.Add=>some .add|.Sub=>some .sub|.Mult=>some .mul|.Mod=>some .mod|.FloorDiv=>some .fdiv|.Pow=>some .pow|_=>none
noncomputable def coC:CmpOp->Option CO
 |.Lt=>some .lt|.LtE=>some .le|.Gt=>some .gt|.GtE=>some .ge|.Eq=>some .eq|.NotEq=>some .ne|.Is=>some .is|.IsNot=>some .isn|.In=>some .inn|.NotIn=>some .nin
noncomputable def bnC (x:Str):Option BN:=
 if x="len" then some .len else if x="sum" then some .sum else if x="all" then some .all else if x="any" then some .any
 else if x="abs" then some .abs else if x="int" then some .int else if x="tuple" then some .tuple
 else if x="list" then some .list else if x="dict" then some .dict else if x="min" then some .min else if x="max" then some .max
 else if x="isinstance" then some .isin else if x="range" then some .range else if x="zip" then some .zip else if x="enumerate" then some .enum
 else none
noncomputable def gm:Expr->Bool
 |.Call (.Name _ _) [] [] _=>false
 |_=>true
noncomputable def br:Expr->Bool
 |.Starred _ _=>false
 |_=>true
noncomputable def nC:Expr->Bool
 |.Slice _ _ _ _=>false
 |_=>true
noncomputable def fM:Expr->Bool
 |.Set _ _ _=>false
 |_=>true
noncomputable def eE (tg:Expr):Expr->Bool
 |.Set _ _ _=>false
 |.Call (.Name x _) _ _ _=>(!(x==("zip":Str))&&!(x==("enumerate":Str)))||(match tg with|.Tuple _ _ _=>true|_=>false)
 |_=>true
noncomputable def gP (sc:Scope):Expr->Expr->Bool
 |.Tuple ts _ _,.Tuple vs _ _=>(ts.filterMap fun
  |.Name id pos=>if sc.names.lookup id==some .local&&pos.line==(ts.head?.map (·.pos.line)).getD 0 then some id else none
  |_=>none).length !=ts.length&&(ts.length==2||ts.length==3)&&vs.length==ts.length&&!(vs.any fun|.Starred ..=>true|_=>false)
 |.Tuple _ _ _,_=>true
 |.Name _ _,_=>true
 |_,_=>false
noncomputable def oZ:Expr->Bool
 |.Tuple _ _ _=>true
 |_=>false
noncomputable def pS:Const->Option CE
 |.int i=>some (.lit (.int i))|.bool b=>some (.lit (.bl b))|.none=>some (.lit .non)|.str s=>some (.lit (.str s))|_=>none
noncomputable def ownOf (scope:Scope):List Str:=(scope.names.filter fun p=>(p.2==.local||p.2==.cell)&&!(p.1==(".0":Str))).map (·.1)
noncomputable def aM (scope:Scope) (N:List Str):List (Str×Nat):=scope.names.filterMap fun p=>if p.2==.free then (idx N p.1).map fun i=>(p.1,i) else none
mutual
noncomputable def cTg (sc:Scope) (N:List Str):Nat->Expr->Option Tg
 |0,_=>none
 |n+1,e=>match e with
  |.Name x _=>if cj x&&mX sc x then (idx N x).map .nm else none
  |.Tuple es _ _=>if es.all br then (eC sc N n es).map .tp else none
  |_=>none
noncomputable def eC (sc:Scope) (N:List Str):Nat->List Expr->Option (List Tg)
 |0,_=>none
 |n+1,es=>match es with
  |[]=>some []
  |e::r=>match cTg sc N n e,eC sc N n r with
   |some t,some ts=>some (t::ts)
   |_,_=>none
end
mutual
noncomputable def cE:Nat->Scope->List Str->Expr->Option CE
 |0,_,_,_=>none
 |n+1,sc,N,e=>match e with
  |.Constant c _ _=>pS c
  |.Name x _=>m9 sc N x
  |.BinOp a op b _=>match opC op,cE n sc N a,cE n sc N b with
   |some o,some x,some y=>some (.bin o x y)
   |_,_,_=>none
  |.UnaryOp .USub a _=>(cE n sc N a).map .neg
  |.UnaryOp .Not a _=>(cE n sc N a).map .nt
  |.BoolOp op (a::b::r) _=>cB n sc N op (a::b::r)
  |.Compare a [op] [b] _=>match op,b with
   |.Is,.Constant .none _ _=>(cE n sc N a).map .isN
   |.IsNot,.Constant .none _ _=>(cE n sc N a).map .nD
   |_,_=>match coC op,cE n sc N a,cE n sc N b with
    |some o,some x,some y=>if fM b then some (.cmp o x y) else none
    |_,_,_=>none
  |.Compare a [.LtE,.Lt] [b,c] _=>match cE n sc N a,cE n sc N b,cE n sc N c with
   |some x,some y,some z=>if fM b&&fM c then some (.chn x y z) else none
   |_,_,_=>none
  |.Tuple es _ _=>(cA n sc N es).map .tup
  |.List es _=>(cA n sc N es).map .lst
  |.Dict [] [] _=>some .fK
  |.Subscript a (.Slice lo hi none _) _=>match cE n sc N a,cO n sc N lo,cO n sc N hi with
   |some x,some y,some z=>some (.sl x y z)
   |_,_,_=>none
  |.Subscript a b _=>match cE n sc N a,cE n sc N b with
   |some x,some y=>if nC b then some (.ix x y) else none
   |_,_=>none
  |.Attribute a f _=>if gm a then (cE n sc N a).map fun x=>.fld x f else none
  |.Call (.Name x _) args [] _=>if cj x&&glB sc x&&(idx N x).isNone then
    match cA n sc N args with
    |some es=>match bnC x with
     |some b=>some (.blt b es)
     |none=>some (.fn x es)
    |none=>none
   else none
  |.Call (.Attribute o m ap) args [] cp=>if gm o&&decide (args.length<30)&&(ap.endLine==cp.line) then
    match cE n sc N o,cA n sc N args with
    |some x,some es=>some (.mth x m es)
    |_,_=>none
   else none
  |.ListComp elt (⟨tg,it,ifs,0⟩::gens) scope _=>
   if jt scope (ownOf scope) (aM scope N) sc N&&eE tg it then
    match cTg (dh scope sc) (ownOf scope++(aM scope N).map (·.1)) n tg,cE n sc N it,cIf n (dh scope sc) (ownOf scope++(aM scope N).map (·.1)) ifs,cG n (dh scope sc) (ownOf scope++(aM scope N).map (·.1)) gens elt with
    |some t,some i,some c,some b=>some (.comp (ownOf scope).length ((aM scope N).map (·.2)) t i c b)
    |_,_,_,_=>none
   else none
  |.DictComp kx vx [⟨tg,it,[],0⟩] scope _=>
   if jt scope (ownOf scope) (aM scope N) sc N&&eE tg it then
    match cTg (dh scope sc) (ownOf scope++(aM scope N).map (·.1)) n tg,cE n sc N it,cE n (dh scope sc) (ownOf scope++(aM scope N).map (·.1)) kx,cE n (dh scope sc) (ownOf scope++(aM scope N).map (·.1)) vx with
    |some t,some i,some k,some v=>some (.cT (ownOf scope).length ((aM scope N).map (·.2)) t i k v)
    |_,_,_,_=>none
   else none
  |_=>none
noncomputable def cA:Nat->Scope->List Str->List Expr->Option (List CE)
 |0,_,_,_=>none
 |n+1,sc,N,es=>match es with
  |[]=>some []
  |e::r=>match cE n sc N e,cA n sc N r with
   |some x,some xs=>some (x::xs)
   |_,_=>none
noncomputable def cB:Nat->Scope->List Str->BoolOp->List Expr->Option CE
 |0,_,_,_,_=>none
 |n+1,sc,N,op,es=>match es with
  |[]=>none
  |[e]=>cE n sc N e
  |e::f::r=>match op,cE n sc N e,cB n sc N op (f::r) with
   |.And,some x,some y=>some (.and x y)
   |.Or,some x,some y=>some (.or x y)
   |_,_,_=>none
noncomputable def cO:Nat->Scope->List Str->Option Expr->Option CE
 |0,_,_,_=>none
 |n+1,sc,N,e=>match e with
  |none=>some .nop
  |some e=>cE n sc N e
noncomputable def cIf:Nat->Scope->List Str->List Expr->Option CE
 |0,_,_,_=>none
 |n+1,sc,N,es=>match es with
  |[]=>some (.lit (.bl true))
  |[e]=>cE n sc N e
  |_=>none
noncomputable def cG:Nat->Scope->List Str->List Comprehension->Expr->Option CE
 |0,_,_,_,_=>none
 |n+1,sc,N,gens,elt=>match gens with
  |[]=>(cE n sc N elt).map .emit
  |⟨tg,it,ifs,0⟩::r=>if eE tg it then
    match cTg sc N n tg,cE n sc N it,cIf n sc N ifs,cG n sc N r elt with
    |some t,some i,some c,some b=>some (.loop t i c b)
    |_,_,_,_=>none
   else none
  |_=>none
end
mutual
noncomputable def er1:CS'->CS'
 |.ife c L a b=>.ife c L (erL a) (erL b)
 |.for t it L b=>.for t it L (erL b)
 |.whl c L b=>.whl c L (erL b)
 |.try b x i h=>.try (erL b) x i (erL h)
 |.mov j i=>.asg (.nm j) (.var i) [i]
 |s=>s
noncomputable def erL:List CS'->List CS'
 |[]=>[]
 |s::r=>match s with
  |.fgt _=>erL r
  |s=>er1 s::erL r
end
noncomputable def bU:Expr->Bool
 |.ListComp _ _ _ _=>true|.SetComp _ _ _ _=>true|.DictComp _ _ _ _ _=>true
 |_=>false
noncomputable def wK (n:Nat) (sc:Scope) (N:List Str):List Expr->Expr->Option CS'
 |[.Tuple [.Name x px,.Name y py] _ _],.Tuple [a,b] _ _=>match idx N x,idx N y,cE n sc N a,cE n sc N b with
   |some i,some j,some ca,some cb=>if cj x&&cj y&&(sc.names.lookup x==some .local)&&(sc.names.lookup y==some .local)&&(px.line==py.line)&&!([a,b].all (foldedForSure 8))&&!([a,b].all (constantsAlone 8))
     then some (.par i j ca cb (uniq (fvE ca++fvE cb))) else none
   |_,_,_,_=>none
 |[.Subscript (.Name x _) k _],e=>match idx N x,cE n sc N k,cE n sc N e with
   |some i,some ck,some ce=>if cj x&&hV sc x&&!bU e then some (.put i ck ce (uniq (fvE ck++fvE ce))) else none
   |_,_,_=>none
 |[.Attribute (.Name x _) f _],e=>match idx N x,cE n sc N e with
   |some 0,some ce=>if cj x&&hV sc x&&!bU e then some (.jr f ce (fvU ce)) else none
   |_,_=>none
 |[tg],e=>match cTg sc N n tg,cE n sc N e with
   |some t,some ce=>if gP sc tg e&&(!bU e||!oZ tg) then some (.asg t ce (fvU ce)) else none
   |_,_=>none
 |_,_=>none
noncomputable def cExp (n:Nat) (sc:Scope) (N:List Str):Expr->Option CS'
 |.Constant (.str _) _ _=>some .pass
 |.Call (.Attribute (.Name x xp) m ap) args [] cp=>
   if m="append" then match idx N x,args with
    |some i,[a]=>if cj x&&hV sc x&&(ap.endLine==cp.line) then (cE n sc N a).map fun ca=>.app i ca (fvU ca) else none
    |_,_=>none
   else if m="clear" then match idx N x,args with
    |some i,[]=>if cj x&&hV sc x&&(ap.endLine==cp.line) then some (.clr i) else none
    |_,_=>none
   else (cE n sc N (.Call (.Attribute (.Name x xp) m ap) args [] cp)).map fun x=>.exp x (fvU x)
 |e=>if !bU e then (cE n sc N e).map fun x=>.exp x (fvU x) else none
mutual
noncomputable def cS1:Nat->Scope->List Str->Stmt->Option CS'
 |0,_,_,_=>none
 |n+1,sc,N,s=>match s with
  |.Pass _=>some .pass
  |.Return none _=>some .wm
  |.Return (some e) _=>(cE n sc N e).map fun x=>.ret x (fvU x)
  |.Assign ts e _=>wK n sc N ts e
  |.Expr e _=>cExp n sc N e
  |.If c a b _=>match cE n sc N c,cS n sc N a,cS n sc N b with
   |some x,some y,some z=>some (.ife x (fvU x) y z)
   |_,_,_=>none
  |.For tg it b [] _=>if eE tg it then match cTg sc N n tg,cE n sc N it,cS n sc N b with
   |some t,some x,some y=>some (.for t x (fvU x) y)
   |_,_,_=>none
   else none
  |.While c b [] _=>match cE n sc N c,cS n sc N b with
   |some x,some y=>some (.whl x (fvU x) y)
   |_,_=>none
  |.Raise (some (.Call (.Name x _) args [] _)) none _=>if cj x&&glB sc x&&(idx N x).isNone then (cA n sc N args).map fun es=>.rse x es (uniq (fvA es)) else none
  |_=>none
noncomputable def cS:Nat->Scope->List Str->List Stmt->Option (List CS')
 |0,_,_,_=>none
 |n+1,sc,N,ss=>match ss with
  |[]=>some []
  |s::r=>match cS1 n sc N s,cS n sc N r with
   |some x,some xs=>some (x::xs)
   |_,_=>none
end
end IN
namespace IN
open PySem PySem.Spec PySem.W L2 CT
open PyProof.Rows hiding St
mutual
theorem beq_eq:∀{a b:PK},PK.beq a b=true->a=b
 |.i n,.i m,h=>by simp [PK.beq] at h;rw [h]
 |.t l,.t r,h=>by simp [PK.beq] at h;rw [mK h]
 |.i _,.t _,h=>by simp [PK.beq] at h
 |.t _,.i _,h=>by simp [PK.beq] at h
theorem mK:∀{a b:List PK},PK.gK a b=true->a=b
 |[],[],_=>rfl
 |x::l,y::r,h=>by simp [PK.gK] at h;rw [beq_eq h.1,mK h.2]
 |[],_::_,h=>by simp [PK.gK] at h
 |_::_,[],h=>by simp [PK.gK] at h
end
mutual
theorem beq_refl:∀(a:PK),PK.beq a a=true
 |.i n=>by simp [PK.beq]
 |.t l=>by simp [PK.beq,j0 l]
theorem j0:∀(a:List PK),PK.gK a a=true
 |[]=>rfl
 |x::l=>by simp [PK.gK,beq_refl x,j0 l]
end
theorem beq_iff {a b:PK}:PK.beq a b=true↔a=b:=⟨beq_eq,fun h=>h▸beq_refl a⟩
theorem fj:∀(es:List (PK×D)) (k:PK),look es k=bA es k
 |[],_=>rfl
 |(q,d)::r,k=>by
  unfold look bA
  rw [List.find?_cons]
  by_cases h:q=k
  ·rw [if_pos (beq_iff.mpr h)];simp [h]
  ·rw [if_neg (fun z=>h (beq_iff.mp z))];simp only [h,decide_false]
   exact fj r k
theorem fq (es:List (PK×D)) (k:PK) (v:D):bp es k v=cW es k v:=by
 unfold bp cW
 rw [fj]
 cases bA es k with
 |none=>rfl
 |some d=>
  show List.map _ es=List.map _ es
  refine List.map_congr_left fun p _=>?_
  by_cases h:p.1=k
  ·rw [if_pos (beq_iff.mpr h),if_pos h]
  ·rw [if_neg (fun z=>h (beq_iff.mp z)),if_neg h]
theorem lH:∀{l:List Int},apart l=true->l.Nodup
 |[],_=>List.nodup_nil
 |x::xs,h=>by
  have h':xs.contains x=false∧apart xs=true:=by simpa [apart] using h
  rw [List.nodup_cons]
  refine ⟨fun z=>?_,lH h'.2⟩
  have:=List.contains_iff_mem.mpr z
  rw [h'.1] at this;cases this
mutual
theorem eB:∀{d:D} {k:PK},b7 d=some k->PK.d k=d
 |.int n,k,h=>by cases h;rfl
 |.tup xs,k,h=>by
  unfold b7 at h
  split at h
  ·rename_i l e
   cases h
   show D.tup (PK.dL l)=_
   rw [mG e]
  ·cases h
 |.non,_,h=>by cases h
 |.bl _,_,h=>by cases h
 |.str _,_,h=>by cases h
 |.lst _,_,h=>by cases h
 |.ins _ _,_,h=>by cases h
 |.exc _ _,_,h=>by cases h
 |.ty _,_,h=>by cases h
 |.cl _,_,h=>by cases h
 |.dct _,_,h=>by cases h
 |.pdc _,_,h=>by cases h
theorem mG:∀{ds:List D} {l:List PK},fH ds=some l->PK.dL l=ds
 |[],l,h=>by cases h;rfl
 |d::ds,l,h=>by
  unfold fH at h
  split at h
  ·rename_i k e
   split at h
   ·rename_i ks e2
    cases h
    show PK.d k::PK.dL ks=_
    rw [eB e,mG e2]
   ·cases h
  ·cases h
end
theorem i7:∀{xs:List D} {bs:List Bool},boolsOf xs=some bs->xs=bs.map .bl
 |[],bs,h=>by cases h;rfl
 |.bl b::r,bs,h=>by
  unfold boolsOf at h
  split at h
  ·rename_i l e;cases h;rw [i7 e];rfl
  ·cases h
 |.int _::_,_,h=>by cases h
 |.non::_,_,h=>by cases h
 |.str _::_,_,h=>by cases h
 |.tup _::_,_,h=>by cases h
 |.lst _::_,_,h=>by cases h
 |.ins _ _::_,_,h=>by cases h
 |.exc _ _::_,_,h=>by cases h
 |.ty _::_,_,h=>by cases h
 |.cl _::_,_,h=>by cases h
 |.dct _::_,_,h=>by cases h
 |.pdc _::_,_,h=>by cases h
theorem ka:∀{xs:List D} {bs:List Int},intsOf xs=some bs->xs=bs.map .int
 |[],bs,h=>by cases h;rfl
 |.int b::r,bs,h=>by
  unfold intsOf at h
  split at h
  ·rename_i l e;cases h;rw [ka e];rfl
  ·cases h
 |.bl _::_,_,h=>by cases h
 |.non::_,_,h=>by cases h
 |.str _::_,_,h=>by cases h
 |.tup _::_,_,h=>by cases h
 |.lst _::_,_,h=>by cases h
 |.ins _ _::_,_,h=>by cases h
 |.exc _ _::_,_,h=>by cases h
 |.ty _::_,_,h=>by cases h
 |.cl _::_,_,h=>by cases h
 |.dct _::_,_,h=>by cases h
 |.pdc _::_,_,h=>by cases h
theorem cJ {d:D} {xs:List D} (h:bq d=some xs):Sq d xs:=by
 cases d<;>first|(cases h;done)|(cases h;constructor)
theorem uu {i j:Int} (h:bg i j=true):ic i j∨iQ i j:=by
 unfold bg at h
 simp only [Bool.or_eq_true,Bool.and_eq_true,decide_eq_true_eq] at h
 rcases h with (h|h)|h
 ·exact .inl (.inl ⟨by omega,by omega⟩)
 ·exact .inl (.inr ⟨by omega,by omega⟩)
 ·exact .inr h
theorem gQ {j:Int} (h:gb j=true): -(2^62)<=j∧j<2^62:=by
 unfold gb at h
 simp only [Bool.and_eq_true,decide_eq_true_eq] at h
 omega
theorem gH {f:D->Option (List D)}:∀{its out:List D},ia f its=some out->∃outs:List (List D),its.length=outs.length∧out=outs.flatten∧∀(i:Nat) d o,its[i]?=some d->outs[i]?=some o->f d=some o
 |[],out,h=>by cases h;exact ⟨[],rfl,rfl,fun i d o h=>by simp at h⟩
 |x::xs,out,h=>by
  unfold ia at h
  split at h
  ·rename_i o1 e1
   split at h
   ·rename_i ys e2
    cases h
    obtain ⟨outs,h1,h2,h3⟩:=gH e2
    refine ⟨o1::outs,by simp [h1],by rw [h2];rfl,fun i d o hd ho=>?_⟩
    cases i with
    |zero=>simp at hd ho;subst hd ho;exact e1
    |succ i=>exact h3 i d o (by simpa using hd) (by simpa using ho)
   ·cases h
  ·cases h
structure Le (ρ ρ':Rho):Prop where
 len:ρ.length=ρ'.length
 val:∀(i:Nat) (d:D),ρ[i]?=some (.val d)->ρ'[i]?=some (.val d)
 nil:∀(i:Nat),ρ[i]?=some .nil->ρ'[i]?=some .nil
theorem Le.set {ρ ρ':Rho} (l:Le ρ ρ') (k:Nat) (s:Sl):Le (ρ.set k s) (ρ'.set k s):=by
 have key:∀(i:Nat) (y:Sl),(ρ[i]?=some y->ρ'[i]?=some y)->(ρ.set k s)[i]?=some y->(ρ'.set k s)[i]?=some y:=fun i y hy h=>by
  by_cases e:k=i
  ·subst e
   have hi:k<ρ.length:=by have:=(List.getElem?_eq_some_iff.mp h).1;simpa using this
   rw [List.getElem?_set_self hi] at h
   rw [List.getElem?_set_self (l.len▸hi)];exact h
  ·rw [List.getElem?_set_ne e] at h ⊢;exact hy h
 exact ⟨by simpa using l.len,fun i d h=>key i _ (l.val i d) h,fun i h=>key i _ (l.nil i) h⟩
theorem rR {o:Option Sl} {d:D} (h:aA o=some d):o=some (.val d):=by
 cases o with
 |none=>cases h
 |some s=>cases s<;>first|(cases h;done)|(cases h;rfl)
theorem pq {o:Option Sl} (h:isNil o=true):o=some .nil:=by
 cases o with
 |none=>cases h
 |some s=>cases s<;>first|(cases h;done)|rfl
theorem qC {ρ ρ':Rho} (l:Le ρ ρ') {i:Nat} {d:D} (h:bZ ρ[i]?=.val d):bZ ρ'[i]?=.val d:=by
 cases q:ρ[i]? with
 |none=>rw [q] at h;cases h
 |some s=>
  rw [q] at h
  cases s with
  |val d'=>cases h;rw [l.val i d q];rfl
  |nil=>cases h
  |any=>cases h
  |owx c=>cases h
  |new C x dx fs=>cases h
theorem rK {ρ ρ':Rho} (l:Le ρ ρ') {i:Nat} (h:bZ ρ[i]?=.nil):bZ ρ'[i]?=.nil:=by
 cases q:ρ[i]? with
 |none=>rw [q] at h;cases h
 |some s=>
  rw [q] at h
  cases s with
  |val d'=>cases h
  |nil=>rw [l.nil i q];rfl
  |any=>cases h
  |owx c=>cases h
  |new C x dx fs=>cases h
theorem Le.cap {ρ ρ':Rho} (l:Le ρ ρ') (own:List Str) (cap:List (Str×Nat)):Le (cN own.length (cap.map (·.2)) ρ) (cR own cap ρ'):=by
 have e1:cN own.length (cap.map (·.2)) ρ=own.map (fun _=>Sl.nil)++cap.map fun p=>bZ ρ[p.2]?:=by
  unfold cN
  rw [List.map_map,←List.map_const' (l:=own) (b:=Sl.nil)]
  rfl
 rw [e1]
 have go:∀(i:Nat) (y:Sl),(∀j,bZ ρ[j]?=y->bZ ρ'[j]?=y)->(own.map (fun _=>Sl.nil)++cap.map fun p=>bZ ρ[p.2]?)[i]?=some y->(cR own cap ρ')[i]?=some y:=fun i y hy h=>by
  unfold cR
  by_cases hi:i<own.length
  ·rw [List.getElem?_append_left (by simpa using hi)] at h ⊢;exact h
  ·have hi':own.length<=i:=Nat.le_of_not_lt hi
   rw [List.getElem?_append_right (by simpa using hi'),List.getElem?_map,List.length_map] at h ⊢
   cases q:cap[i - own.length]? with
   |none=>rw [q] at h;cases h
   |some p=>
    rw [q] at h
    exact congrArg some (hy p.2 (Option.some.inj h))
 exact ⟨by simp [cR],fun i d h=>go i _ (fun j=>qC l) h,fun i h=>go i _ (fun j=>rK l) h⟩
theorem aG {e:Expr} (h:br e=true):noStar e=true:=by cases e<;>first|rfl|cases h
theorem fC {tg it:Expr} (h:eE tg it=true) (env:Env) (x:Value):foldedSetIterable it env x=pure x:=by
 cases it<;>first|rfl|cases h
theorem jv {o:Expr} {f:Str} {env:Env} {m:Sem Value} (h:gm o=true):attributeBase o f env m=m:=by
 unfold attributeBase
 cases o with
 |Call fn args kws pos=>
  cases fn with
  |Name x p=>
   cases args with
   |nil=>cases kws with
    |nil=>cases h
    |cons=>rfl
   |cons=>rfl
  |_=>rfl
 |_=>rfl
theorem jA {b:Expr} (h:nC b=true):mR b:=by
 intro o i
 cases b<;>first|rfl|cases h
theorem ua {op:CmpOp} {b:Expr} (h:fM b=true):behindInMarks op b=false:=by
 cases b<;>first|rfl|cases h
theorem rP {op1 op2:CmpOp} {b c:Expr} (h:fM c=true):lastMarks [op1,op2] [b,c]=false:=by
 show behindInMarks op2 c=false
 exact ua h
theorem dI {es:List Expr} {env:Env} {pos:Pos} (h:∀e∈es,br e=true):(backTo pos (starEach es env)).any (·.1)=false:=by
 have go:∀es:List Expr,(∀e∈es,br e=true)->∀p∈starEach es env,p.1=false:=by
  intro es
  induction es with
  |nil=>intro _ p hp;cases hp
  |cons e es ih=>
   intro h p hp
   rw [bB (aG (h e List.mem_cons_self))] at hp
   rcases List.mem_cons.mp hp with z|z
   ·rw [z]
   ·exact ih (fun e he=>h e (List.mem_cons_of_mem _ he)) p z
 rw [List.any_eq_false]
 intro p hp
 unfold backTo at hp
 obtain ⟨q,hq,rfl⟩:=List.mem_map.mp hp
 have:=go es h q hq
 simp [this]
theorem gi {es:List Expr} {env:Env} {pos:Pos} (h:∀e∈es,br e=true):(backTo pos (starEach es env)).all (fun x=>!x.1)=true:=by
 have:=dI (env:=env) (pos:=pos) h
 rw [List.all_eq_true]
 intro p hp
 rw [List.any_eq_false] at this
 have:=this p hp
 simpa using this
theorem qk {o:Expr} {m:Str} {args:List Expr} {ap cp:Pos} {env:Env} (hb:gm o=true) (hs:∀e∈args,br e=true) (hl:args.length<30) (hp:(ap.endLine==cp.line)=true):
  eval (.Call (.Attribute o m ap) args [] cp) env=(do
   let ov←eval o env
   standAt ap.atName
   let (f,first)←holding [ov] (getMethod ov m (do return (←importBound o env).getD true))
   callWith cp f first (backTo cp (starEach args env)) (backToKw cp (keywordEach [] env))):=by
 have few:methodCallForm (args.length+([]:List Keyword).length) (backTo cp (starEach args env)) (backToKw cp (keywordEach [] env))=true:=by
  unfold methodCallForm
  rw [gi hs]
  simp [keywordEach,backToKw,hl]
 rw [arm_eval_Call]
 rw [jv hb]
 unfold methodCall
 rw [few]
 unfold calleeOf methodCallPos
 simp only [if_true,hp,Bool.not_true,Bool.false_or]
 rfl
end IN
namespace IN
open PySem PySem.Spec PySem.W L2 CT
open PyProof.Rows hiding St
noncomputable def tv:Tag->Value
 |.ty n=>.type n|.cl C=>.ref C|.xc C=>.ref C
structure Lk (K:Frag) (G:Prg) (key:Str) (C:Option Addr) (d:Def) (f:Addr) (fd:FuncData) (ps:List Str):Prop where
 df:G.defs key=some (C,d)
 bind:Binds K fd ps []
 kp:keepIn K (.ref f)=true
 ex:∃x qual st N,Fun K x qual st f fd∧bJ N ps (ah st)∧cS 60 (ah st) N (aY st)=some (erL d.body)∧d.slots=N.length∧d.aB=ps.length
 ini:d.init=C.isSome
structure Row (P:Program) (w:World) (K:Frag) (mg:Str->Option Value) (base:Heap) (G:Prg):Prop where
 blt:∀x b,bnC x=some b->mg x=none
 glob:∀(X:Cx),X.K=K->X.mg=mg->∀x d,G.glob x=some d->cj x=true->Gl X x->∀ρ pos,DE X ρ (.Name x pos) d
 zZ:∀x C,G.glob x=some (.cl C)->mg x=some (.ref C)
 kit:∀t u q,G.kit t u=some q->kitOne K (tv t) (tv u)=some q∧(∀C,t=.cl C->Isi K C)∧(∀C,t=.xc C->nX K C)
 fn:∀x key,G.fn x=some key->∃d f fd ps,mg x=some (.ref f)∧Lk K G key none d f fd ps
 ini:∀x C key,G.ini x=some (C,key)->∃d f fd ps,mg x=some (.ref C)∧Mk K C f∧Lk K G key (some C) d f fd ps
 mth:∀C m key,G.mth C m=some key->∃d f fd ps,Meth K C m f∧Cls K C∧Lk K G key none d f fd ps
 fok:∀C f,G.fok C f=true->Cls K C∧cz K C f
noncomputable def prR (cl:Str->List D->Option Rs) (key:Str) (ds:List D):Res->Prop
 |.ok d=>∃r,cl key ds=some r∧r.val=some d
 |.xc d=>cl key ds=some (.xc d)
noncomputable def prF (cl:Str->List D->Option Rs) (key:Str) (ds:List D) (c:Ow):Prop:=cl key ds=some (.fr c)
noncomputable def prI (cl:Str->List D->Option Rs) (C:Addr) (key:Str) (ds:List D):mT->Prop
 |.ok fs=>cl key ds=some (.ok (.ins C fs))
 |.xc d=>cl key ds=some (.xc d)
structure Calls (P:Program) (w:World) (K:Frag) (mg:Str->Option Value) (base:Heap) (G:Prg) (k:Nat) (cl:Str->List D->Option Rs):Prop where
 fn:∀key d f fd ps,Lk K G key none d f fd ps->aC P w K mg base (CXA P w) k f fd ps (spR K (prR cl key))
 fr:∀key d f fd ps,Lk K G key none d f fd ps->aC P w K mg base CX0 k f fd ps (js K (prF cl key))
 ini:∀key C d f fd ps,Lk K G key (some C) d f fd ps->aC P w K mg base (CXA P w) k f fd ps (nc K C (prI cl C key))
 insI:∀key C d f fd ps,Lk K G key (some C) d f fd ps->∀ds r,cl key ds=some r->(∃fs,r=.ok (.ins C fs))∨∃d,r=.xc d
structure XE (ca:Bool) (P:Program) (wd:World) (K:Frag) (mg:Str->Option Value) (base:Heap) (X:Cx) (sc:Scope) (N:List Str) (w k:Nat):Prop where
 p_:X.prog=P
 w_:X.w=wd
 K_:X.K=K
 mg_:X.mg=mg
 iY:X.base=base
 sc_:X.env.scope=sc
 N_:X.N=N
 nd:N.Nodup
 kF:ca=true->X.calm=true
 kD:ca=true->aI k X.A
 units:X.A.units+64<cLine
 nox:∀e s,¬X.xe e s
 fn:∀(i:Nat) (x:Str),i<w->N[i]?=some x->X.fn x=true
section
variable {ca:Bool} {P:Program} {wd:World} {K:Frag} {mg:Str->Option Value} {base:Heap} {X:Cx} {sc:Scope} {N:List Str} {w k:Nat} {G:Prg} {cl:Str->List D->Option Rs} {ρ:Rho} {e:Expr} {ce:CE} {d:D}
theorem XE.calm (x:XE true P wd K mg base X sc N w k):X.calm=true:=x.kF rfl
theorem XE.room (x:XE true P wd K mg base X sc N w k):aI k X.A:=x.kD rfl
theorem XE.gl (x:XE ca P wd K mg base X sc N w k) {n:Str} (h:glB sc n=true):Gl X n:=by
 show X.env.scope.names.lookup n=_
 rw [x.sc_]
 unfold glB at h
 split at h
 ·assumption
 ·cases h
theorem XE.vis (x:XE ca P wd K mg base X sc N w k) {n:Str} (h:hV sc n=true):Vis X.env.scope n:=by
 rw [x.sc_]
 unfold hV at h
 split at h
 ·exact .inl (by assumption)
 ·exact .inr (.inl (by assumption))
 ·exact .inr (.inr (by assumption))
 ·cases h
theorem XE.loc (x:XE ca P wd K mg base X sc N w k) {n:Str} (h:mX sc n=true):L2.Loc X.env.scope n:=by
 rw [x.sc_]
 unfold mX at h
 split at h
 ·exact .inl (by assumption)
 ·exact .inr (by assumption)
 ·cases h
theorem XE.at (x:XE ca P wd K mg base X sc N w k) {n:Str} {i:Nat} (h:idx N n=some i):X.N[i]?=some n:=by
 rw [x.N_]
 unfold idx at h
 obtain ⟨hi,h1,_⟩:=List.findIdx?_eq_some_iff_getElem.mp h
 rw [List.getElem?_eq_getElem hi]
 exact congrArg some (by simpa using h1)
theorem eH {n:Str} (h:cj n=true):(n==("__debug__":Str))=false∧(n==("__classdict__":Str))=false∧n≠"__name__":=by
 unfold cj at h
 simp only [Bool.and_eq_true,Bool.not_eq_true'] at h
 exact ⟨h.1.1,h.1.2,fun z=>by rw [z] at h;exact absurd h.2 (by decide)⟩
structure OkE (G:Prg) (cl:Str->List D->Option Rs) (X:Cx) (e:Expr) (ce:CE):Prop where
 v:∀{ρ ρ' d},Le ρ ρ'->ev G cl ce ρ=some d->DE X ρ' e d
 t:∀{ρ ρ' b},Le ρ ρ'->evT G cl ce ρ=some b->DT X ρ' e b
 i:∀{ρ ρ' its tg},Le ρ ρ'->eE tg e=true->evI G cl ce ρ=some its->DI X tg ρ' e its
 c:∀{ρ ρ' r},bU e=true->Le ρ ρ'->evV G cl ce ρ=some r->∃c,r=.fr c∧DCx X ρ' e c
 vr:∀i,ce=.var i->∃y q,e=.Name y q∧X.N[i]?=some y∧Vis X.env.scope y∧(y==("__debug__":Str))=false∧(y==("__classdict__":Str))=false
 ro:∀i,ce=.var i->∀ρ c pos,ρ[i]?=some (.owx c)->DS X ρ (.Return (some e) pos) (.rfx c)
 w:∀{ρ ρ' r},Le ρ ρ'->evV G cl ce ρ=some r->(∀d,r.val=some d->DE X ρ' e d)∧(∀c,r=.fr c->DFx X ρ' e c)∧(∀d,r=.xc d->DEX X ρ' e d)
theorem OkE.of (hv:∀{ρ ρ' d},Le ρ ρ'->ev G cl ce ρ=some d->DE X ρ' e d) (ht:∀{ρ ρ' b},Le ρ ρ'->evT G cl ce ρ=some b->DT X ρ' e b)
  (hi:∀{ρ ρ' its tg},Le ρ ρ'->eE tg e=true->evI G cl ce ρ=some its->DI X tg ρ' e its) (hc:bU e=false)
  (hw:∀ρ,evV G cl ce ρ=match ev G cl ce ρ with|some d=>some (.ok d)|none=>none) (hro:∀i,ce=.var i->∀ρ c pos,ρ[i]?=some (.owx c)->DS X ρ (.Return (some e) pos) (.rfx c):=by intro i z;cases z) (hvr:∀i,ce=.var i->∃y q,e=.Name y q∧X.N[i]?=some y∧Vis X.env.scope y∧(y==("__debug__":Str))=false∧(y==("__classdict__":Str))=false:=by intro i z;cases z):OkE G cl X e ce:=by
 refine ⟨hv,ht,hi,fun z=>(by rw [hc] at z;cases z),hvr,hro,fun {ρ ρ' r} le h=>?_⟩
 rw [hw] at h
 split at h
 ·rename_i d0 q
  cases h
  exact ⟨fun d hd=>by cases hd;exact hv le q,(by intro c z;cases z),by intro d z;cases z⟩
 ·cases h
theorem i0 {d:D} {its:List D} {tg:Expr} (h:DE X ρ e d) (hi:itD d=some its):DI X tg ρ e its:=by
 cases d<;>first|(cases hi;done)|(cases hi;exact pR h)|(cases hi;exact oh h)|(cases hi;exact yE h)
theorem vU {a b:Expr} {x y:D} {op:Operator} {o:BO} {pos:Pos} (ho:opC op=some o) (ha:DE X ρ a x) (hb:DE X ρ b y) (h:cH o x y=some d):DE X ρ (.BinOp a op b pos) d:=by
 unfold cH at h
 split at h
 ·cases h;cases op<;>first|(cases ho;done)|(cases ho;exact yG ha hb)
 ·split at h
  ·cases h;cases op<;>first|(cases ho;done)|(cases ho;exact ui ha hb (by assumption))
  ·cases h
 ·split at h
  ·cases h;cases op<;>first|(cases ho;done)|(cases ho;exact tu ha hb (by assumption))
  ·cases h
 ·cases h;cases op<;>first|(cases ho;done)|(cases ho;exact wy ha hb)
 ·split at h
  ·rename_i hm
   cases h
   cases op<;>first|(cases ho;done)|(cases ho;exact (uu hm).elim (fun z=>xM z ha hb) fun z=>uG z ha hb)
  ·cases h
 ·split at h
  ·split at h
   ·rename_i hz
    cases h
    cases op<;>first|(cases ho;done)|(cases ho;exact uU ha hb hz.1 (by omega))
   ·cases h
  ·cases h
 ·split at h
  ·cases h;cases op<;>first|(cases ho;done)|(cases ho;exact xU (by assumption) ha hb)
  ·cases h
 ·split at h
  ·cases h;cases op<;>first|(cases ho;done)|(cases ho;exact tL (show 0<_∧_<_ by omega) ha hb)
  ·cases h
 ·cases h
theorem i9 {x y:D} (h:gz x y=true):aW x=true∧aW y=true∧min (toPy x).depth (toPy y).depth<=64:=by
 unfold gz at h
 simp only [Bool.and_eq_true,decide_eq_true_eq] at h
 exact ⟨h.1.1,h.1.2,h.2⟩
theorem wD {a b:Expr} {x y:D} {op:CmpOp} {o:CO} {pos:Pos} {q:Bool} (hns:fM b=true) (hr:X.A.units+64<cLine) (ho:coC op=some o) (ha:DE X ρ a x) (hb:DE X ρ b y) (h:bt o x y=some q):DE X ρ (.Compare a [op] [b] pos) (.bl q):=by
 unfold bt at h
 split at h
 ·cases h;cases op<;>first|(cases ho;done)|(cases ho;exact zU ha hb)
 ·cases h;cases op<;>first|(cases ho;done)|(cases ho;exact zv ha hb)
 ·cases h;cases op<;>first|(cases ho;done)|(cases ho;exact zo ha hb)
 ·cases h;cases op<;>first|(cases ho;done)|(cases ho;exact Ap ha hb)
 ·cases h;cases op<;>first|(cases ho;done)|(cases ho;exact wH ha hb)
 ·cases h;cases op<;>first|(cases ho;done)|(cases ho;exact vV ha hb)
 ·cases h;cases op<;>first|(cases ho;done)|(cases ho;exact yx ha hb)
 ·cases h;cases op<;>first|(cases ho;done)|(cases ho;exact o5 ha hb)
 ·split at h
  ·rename_i hq
   obtain ⟨h1,h2,h3⟩:=i9 hq
   cases h;cases op<;>first|(cases ho;done)|(cases ho;exact yn hr h1 h2 h3 ha hb)
  ·cases h
 ·split at h
  ·rename_i hq
   obtain ⟨h1,h2,h3⟩:=i9 hq
   cases h;cases op<;>first|(cases ho;done)|(cases ho;exact xx hr h1 h2 h3 ha hb)
  ·cases h
 ·cases h
theorem tw {a b:Expr} {x y:D} {op:CmpOp} {o:CO} {pos:Pos} {q:Bool} (hns:fM b=true) (hr:X.A.units+64<cLine) (ho:coC op=some o) (ha:DE X ρ a x) (hb:DE X ρ b y) (h:bt o x y=some q):DT X ρ (.Compare a [op] [b] pos) q:=by
 unfold bt at h
 split at h
 ·cases h;cases op<;>first|(cases ho;done)|(cases ho;exact zX ha hb)
 ·cases h;cases op<;>first|(cases ho;done)|(cases ho;exact y9 ha hb)
 ·cases h;cases op<;>first|(cases ho;done)|(cases ho;exact zN ha hb)
 ·cases h;cases op<;>first|(cases ho;done)|(cases ho;exact zD ha hb)
 ·cases h;cases op<;>first|(cases ho;done)|(cases ho;exact yK ha hb)
 ·cases h;cases op<;>first|(cases ho;done)|(cases ho;exact yw ha hb)
 ·cases h;cases op<;>first|(cases ho;done)|(cases ho;exact yO ha hb)
 ·cases h;cases op<;>first|(cases ho;done)|(cases ho;exact pF ha hb)
 ·split at h
  ·rename_i hq
   obtain ⟨h1,h2,h3⟩:=i9 hq
   cases h;cases op<;>first|(cases ho;done)|(cases ho;exact xF hr h1 h2 h3 ha hb)
  ·cases h
 ·split at h
  ·rename_i hq
   obtain ⟨h1,h2,h3⟩:=i9 hq
   cases h;cases op<;>first|(cases ho;done)|(cases ho;exact yH hr h1 h2 h3 ha hb)
  ·cases h
 ·cases h
theorem zC {a b:Expr} {x y:D} {pos:Pos} (hr:X.A.units+64<cLine) (hs:nC b=true) (ha:DE X ρ a x) (hb:DE X ρ b y) (h:ixD x y=some d):DE X ρ (.Subscript a b pos) d:=by
 unfold ixD at h
 split at h
 ·exact yV ha hb h (jA hs)
 ·exact yC ha hb h (jA hs)
 ·split at h
  ·rename_i l e
   split at h
   ·rename_i hd
    rw [fj] at h
    exact uA (by omega) ha (by rw [eB e];exact hb) hd h (jA hs)
   ·cases h
  ·cases h
 ·cases h
theorem y1 (R:Row P wd K mg base G) {t u:Tag} {q:Bool} (hd:yj d=some t) (hq:G.kit t u=some q):TyD K d (tv t):=by
 obtain ⟨_,h1,h2⟩:=R.kit t u q hq
 cases d with
 |ins C fs=>cases hd;exact .ins fs (h1 C rfl)
 |exc C fs=>cases hd;exact .exc fs (h2 C rfl)
 |non=>cases hd;exact .non
 |bl b=>cases hd;exact .bl b
 |int i=>cases hd;exact .int i
 |str x=>cases hd;exact .str x
 |tup xs=>cases hd;exact .tup xs
 |lst xs=>cases hd;exact .lst xs
 |dct kvs=>cases hd;exact .dct kvs
 |pdc es=>cases hd;exact .pdc es
 |ty n=>cases hd
 |cl C=>cases hd
theorem yi (R:Row P wd X.K mg base G) {a b:Expr} {p pos:Pos} {c:D} {q:Bool} (hg:Gl X "isinstance") (hm:X.mg "isinstance"=none) (ha:DA X ρ [a,b] [d,c]) (n1:br a=true) (n2:br b=true) (h:b6 G d c=some q):DE X ρ (.Call (.Name "isinstance" p) [a,b] [] pos) (.bl q):=by
 have he:=bB (es:=[b]) (env:=X.env) (aG n1)
 have hpl:=dI (es:=[b]) (env:=X.env) (pos:=pos) (fun e he=>by rw [List.mem_singleton.mp he];exact n2)
 unfold b6 at h
 split at h
 ·split at h
  ·rename_i hab
   obtain ⟨rfl,rfl⟩:=hab
   split at h
   ·rename_i n hn
    cases h
    obtain ⟨n',t1,t2⟩:=AI (K:=X.K) (x:=d) (by rw [hn];exact fun z=>nomatch z)
    exact uD hg hm t1 (.cons (.ty _) (.cons (.ty _) .nil)) t2 ha he hpl
   ·cases h
  ·cases h
 ·split at h
  ·rename_i t u ht hu
   have hk:=(R.kit t u q h).1
   have cl:ClD c (tv u):=by
    cases c<;>first|(cases hu;done)|(cases hu;constructor)
   exact xP hg hm (y1 R ht h) cl hk ha he hpl
  ·cases h
end
end IN
namespace IN
open PySem PySem.Spec PySem.W L2 CT
open PyProof.Rows hiding St
section
variable {X:Cx} {ρ:Rho} {k:Nat} {f C:Addr} {fd:FuncData} {ps:List Str} {x m:Str} {p pos apos:Pos} {e o:Expr} {es:List Expr} {ds:List D} {d:D}
theorem qD {Pr:List D->Ow->Prop} {cw:Ow} {fs:List (Str×D)} {pl:Sem Bool} (ho:DE X ρ o (.ins C fs)) (hl:fs.lookup m=none) (c:Cls X.K C) (hm:Meth X.K C m f) (F:aC X.prog X.w X.K X.mg X.base CX0 k f fd ps (js X.K Pr)) (hr:aI k X.A) (hb:Binds X.K fd ps [])
  (ha:DA X ρ (e::es) ds) (hp:Pr (.ins C fs::ds) cw) (hst:starEach (e::es) X.env=(false,eval e X.env)::starEach es X.env) (hpl:(backTo pos (starEach es X.env)).any (·.1)=false)
  (ht:eval (.Call (.Attribute o m apos) (e::es) [] pos) X.env=(do
   let ov←eval o X.env
   standAt apos.atName
   let (f,first)←holding [ov] (getMethod ov m pl)
   callWith pos f first (backTo pos (starEach (e::es) X.env)) (backToKw pos (keywordEach [] X.env)))):
  DFx X ρ (.Call (.Attribute o m apos) (e::es) [] pos) cw:=PE.weak (mH ho c hm F hr hb .nil fW ha hst hpl ht) fun σ H Q ⟨S,ve,kk⟩=>⟨S,ve,fun v H1 ex1 r1=>by
   obtain ⟨a,dx,gs,rfl,hh,rf⟩:=r1.jD
   exact ⟨a,dx,gs,rfl,hh,rf.none hl,S,ve.ext ex1,fun vs H' ex r=>⟨S,_,cw,((ve.ext ex1).ext ex).dom,.cons (r1.ext (ex.to S)) (fk r),hp,fun a o H'' ex' hn ha r'=>kk a o H'' (ex1.trans (ex.trans ex')) (ex1.back (ex.back hn)) ha r'⟩⟩⟩
theorem qh {Pr:List D->Ow->Prop} {cw:Ow} {fs:List (Str×D)} {pl:Sem Bool} (ho:DE X ρ o (.ins C fs)) (hl:fs.lookup m=none) (c:Cls X.K C) (hm:Meth X.K C m f) (F:aC X.prog X.w X.K X.mg X.base CX0 k f fd ps (js X.K Pr)) (hr:aI k X.A) (hb:Binds X.K fd ps [])
  (hp:Pr [.ins C fs] cw)
  (ht:eval (.Call (.Attribute o m apos) [] [] pos) X.env=(do
   let ov←eval o X.env
   standAt apos.atName
   let (f,first)←holding [ov] (getMethod ov m pl)
   callWith pos f first (backTo pos (starEach [] X.env)) (backToKw pos (keywordEach [] X.env)))):
  DFx X ρ (.Call (.Attribute o m apos) [] [] pos) cw:=PE.weak (kO ho c hm F hr hb .nil fW ht) fun σ H Q ⟨S,ve,kk⟩=>⟨S,ve,fun v H1 ex1 r1=>by
   obtain ⟨a,dx,gs,rfl,hh,rf⟩:=r1.jD
   exact ⟨a,dx,gs,rfl,hh,rf.none hl,S,_,cw,(ve.ext ex1).dom,.cons r1 .nil,hp,fun a us H'' ex' hn ha r'=>kk a us H'' (ex1.trans ex') (ex1.back hn) ha r'⟩⟩
end
noncomputable def nmB:BN->Str
 |.len=>"len"|.sum=>"sum"|.all=>"all"|.any=>"any"|.abs=>"abs"|.int=>"int"|.tuple=>"tuple"|.list=>"list"|.dict=>"dict"|.min=>"min"|.max=>"max"|.isin=>"isinstance"|.range=>"range"|.zip=>"zip"|.enum=>"enumerate"|.str=>"str"|.sorted=>"sorted"
theorem sd {c:Prop} [Decidable c] {α:Type} {a b:α} {o:Option α} (h:(if c then some a else o)=some b):(c∧a=b)∨o=some b:=by
 by_cases hc:c
 ·rw [if_pos hc] at h;exact .inl ⟨hc,Option.some.inj h⟩
 ·rw [if_neg hc] at h;exact .inr h
theorem hU {x:Str} {b:BN} (h:bnC x=some b):x=nmB b:=by
 unfold bnC at h
 repeat (rcases sd h with ⟨hx,hb⟩|h;(subst hb;exact hx))
 cases h
section
variable {P:Program} {wd:World} {K:Frag} {mg:Str->Option Value} {base:Heap} {X:Cx} {sc:Scope} {N:List Str} {w k kc:Nat} {G:Prg} {cl:Str->List D->Option Rs} {ρ:Rho} {e:Expr} {ce:CE} {d:D} {args:List Expr} {ds:List D} {p pos:Pos} {x:Str} {b:BN}
theorem pI (R:Row P wd K mg base G) (xe:XE true P wd K mg base X sc N w k) (hx:bnC x=some b) (hg:glB sc x=true) (ha:DA X ρ args ds) (hl:args.length=ds.length) (hs:∀e∈args,br e=true) (h:bj G b ds=some d):DE X ρ (.Call (.Name x p) args [] pos) d:=by
 have hm:=R.blt x b hx
 rw [←xe.mg_] at hm
 have g:=xe.gl hg
 have hn:=hU hx
 have hK:=xe.K_
 subst hK
 have one:∀{e:Expr},args=[e]->starEach [e] X.env=(false,eval e X.env)::starEach [] X.env:=fun {e} q=>bB (aG (hs e (by rw [q];simp)))
 cases b with
 |len=>
  dsimp only [nmB] at hn
  subst hn
  match ds,args,hl,h with
  |[d0],[e0],_,h=>
   unfold bj at h
   dsimp only at h
   split at h
   ·rename_i xs hq;cases h;exact yk (cJ hq) g hm ha (one rfl) rfl
   ·cases h
  |[],_,_,h=>cases h
  |_::_::_,_,_,h=>cases h
 |sum=>
  dsimp only [nmB] at hn
  subst hn
  match ds,args,hl,h with
  |[.lst xs],[e0],_,h=>
   unfold bj at h
   dsimp only at h
   split at h
   ·rename_i ns hq;cases h;rw [ka hq] at ha;exact xZ xe.calm g hm ha (one rfl) rfl
   ·cases h
 |all=>
  dsimp only [nmB] at hn
  subst hn
  match ds,args,hl,h with
  |[d0],[e0],_,h=>
   unfold bj at h
   dsimp only at h
   split at h
   ·rename_i xs hq
    split at h
    ·rename_i bs hb;cases h;exact wJ xe.calm (by rw [←i7 hb];exact cJ hq) g hm ha (one rfl) rfl
    ·cases h
   ·cases h
  |[],_,_,h=>cases h
  |_::_::_,_,_,h=>cases h
 |any=>cases h
 |abs=>cases h
 |int=>cases h
 |tuple=>
  dsimp only [nmB] at hn
  subst hn
  match ds,args,hl,h with
  |[d0],[e0],_,h=>
   unfold bj at h
   dsimp only at h
   split at h
   ·rename_i xs hq;cases h;exact sf (cJ hq) g hm ha (one rfl) rfl
   ·cases h
  |[],_,_,h=>cases h
  |_::_::_,_,_,h=>cases h
 |min=>
  dsimp only [nmB] at hn
  subst hn
  match ds,args,hl,h with
  |[.int i,.int j],[e0,e1],_,h=>cases h;exact uY xe.calm g hm ha (bB (aG (hs e0 (by simp)))) (dI fun e he=>hs e (List.mem_cons_of_mem _ he))
 |max=>cases h
 |isin=>
  dsimp only [nmB] at hn
  subst hn
  match ds,args,hl,h with
  |[d0,c0],[e0,e1],_,h=>
   unfold bj at h
   dsimp only at h
   split at h
   ·rename_i q hq;cases h;exact yi R g hm ha (hs e0 (by simp)) (hs e1 (by simp)) hq
   ·cases h
  |[],_,_,h=>cases h
  |[_],_,_,h=>cases h
  |_::_::_::_,_,_,h=>cases h
 |list=>cases h
 |dict=>cases h
 |range=>cases h
 |zip=>cases h
 |enum=>cases h
 |str=>cases h
 |sorted=>cases h
theorem mz (R:Row P wd K mg base G) (xe:XE true P wd K mg base X sc N w k) (hx:bnC x=some .dict) (hg:glB sc x=true) {e0:Expr} {es:List (CT.PK×D)} (ha:DA X ρ [e0] [.pdc es]) (hs:br e0=true) (h:apart (es.map fun q=>q.1.hs)=true):DFx X ρ (.Call (.Name x p) [e0] [] pos) (.d es):=by
 have hm:=R.blt x _ hx
 rw [←xe.mg_] at hm
 have hn:=hU hx
 dsimp only [nmB] at hn
 subst hn
 exact qA (lH h) (xe.gl hg) hm ha (bB (aG hs)) rfl
theorem xJ (R:Row P wd K mg base G) (xe:XE true P wd K mg base X sc N w k) {its:List D} {tg:Expr} (ht:eE tg (.Call (.Name x p) args [] pos)=true) (hx:bnC x=some b) (hg:glB sc x=true) (ha:DA X ρ args ds) (hl:args.length=ds.length) (hs:∀e∈args,br e=true) (h:f_ b ds=some its):
  DI X tg ρ (.Call (.Name x p) args [] pos) its:=by
 have hm:=R.blt x b hx
 rw [←xe.mg_] at hm
 have g:=xe.gl hg
 have hn:=hU hx
 have s1:∀{e:Expr},e∈args->starEach [e] X.env=[(false,eval e X.env)]:=fun {e} q=>bB (es:=[]) (aG (hs e q))
 have s2:∀{e f:Expr},e∈args->f∈args->starEach [e,f] X.env=[(false,eval e X.env),(false,eval f X.env)]:=fun {e f} q r=>by rw [bB (aG (hs e q)),s1 r]
 have s3:∀{e f g:Expr},e∈args->f∈args->g∈args->starEach [e,f,g] X.env=[(false,eval e X.env),(false,eval f X.env),(false,eval g X.env)]:=fun {e f g} q r t=>by rw [bB (aG (hs e q)),s2 r t]
 have tup:(x="zip"∨x="enumerate")->∃elts j tp,tg=.Tuple elts j tp:=fun z=>by
  unfold eE at ht
  dsimp only at ht
  have:(!(x==("zip":Str))&&!(x==("enumerate":Str)))=false:=by rcases z with z|z<;>(subst z;decide)
  rw [this,Bool.false_or] at ht
  cases tg<;>first|(cases ht;done)|exact ⟨_,_,_,rfl⟩
 unfold f_ at h
 split at h
 ·dsimp only [nmB] at hn
  subst hn
  split at h
  ·rename_i hj
   cases h
   match args,hl with
   |[e0],_=>exact oC g hm ha (gQ hj).1 (gQ hj).2 (s1 (by simp))
  ·cases h
 ·dsimp only [nmB] at hn
  subst hn
  split at h
  ·rename_i hj
   cases h
   match args,hl with
   |[e0,e1],_=>exact pw g hm ha ⟨(gQ (Bool.and_eq_true_iff.mp hj).1).1,(gQ (Bool.and_eq_true_iff.mp hj).1).2,(gQ (Bool.and_eq_true_iff.mp hj).2).1,(gQ (Bool.and_eq_true_iff.mp hj).2).2⟩ (s2 (by simp) (by simp)) (s1 (by simp))
  ·cases h
 ·dsimp only [nmB] at hn
  subst hn
  obtain ⟨elts,j,tp,rfl⟩:=tup (.inl rfl)
  split at h
  ·rename_i xs ys h1 h2
   cases h
   match args,hl with
   |[e0,e1],_=>exact tO g hm (cJ h1) (cJ h2) ha (s2 (by simp) (by simp)) (s1 (by simp))
  ·cases h
 ·dsimp only [nmB] at hn
  subst hn
  obtain ⟨elts,j,tp,rfl⟩:=tup (.inl rfl)
  split at h
  ·rename_i xs ys zs h1 h2 h3
   cases h
   match args,hl with
   |[e0,e1,e2],_=>exact uq g hm (cJ h1) (cJ h2) (cJ h3) ha (s3 (by simp) (by simp) (by simp)) (s2 (by simp) (by simp))
  ·cases h
 ·dsimp only [nmB] at hn
  subst hn
  obtain ⟨elts,j,tp,rfl⟩:=tup (.inr rfl)
  cases h
  match args,hl with
  |[e0],_=>exact u5 g hm ha (s1 (by simp))
 ·cases h
theorem Ao (R:Row P wd K mg base G) (C:Calls P wd K mg base G kc cl) (hk:kc+2<=k) (xe:XE true P wd K mg base X sc N w k) (hn:cj x=true) (hg:glB sc x=true) (ha:DA X ρ args ds) (hl:args.length=ds.length) (hs:∀e∈args,br e=true) {r:Rs} (h:fnR G cl x ds=some r):
  (∀d,r.val=some d->DE X ρ (.Call (.Name x p) args [] pos) d)∧(∀c,r=.fr c->DFx X ρ (.Call (.Name x p) args [] pos) c)∧(∀d,r=.xc d->DEX X ρ (.Call (.Name x p) args [] pos) d):=by
 obtain ⟨hd1,hd2,hd3⟩:=eH hn
 have g:=xe.gl hg
 obtain ⟨rfl,rfl,rfl,rfl,rfl⟩:=And.intro xe.p_ (And.intro xe.w_ (And.intro xe.K_ (And.intro xe.mg_ xe.iY)))
 unfold fnR at h
 match ds,args,hl with
 |[],[],_=>
  cases h
 |d0::dr,e0::er,hl=>
  have he:=bB (es:=er) (env:=X.env) (aG (hs e0 (by simp)))
  have hpl:=dI (es:=er) (env:=X.env) (pos:=pos) fun e he=>hs e (List.mem_cons_of_mem _ he)
  dsimp only at h
  split at h
  ·rename_i key hq
   obtain ⟨df,f,fd,ps,hm,L⟩:=R.fn x key hq
   have F:=C.fn key df f fd ps L
   have rm:=xe.room.mono (show kc<=k by omega)
   refine ⟨fun d hd=>?_,fun c hc=>?_,fun d hd=>?_⟩
   ·exact vG (CT.aC.okD F) rm g hm L.kp L.bind ha ⟨r,h,hd⟩ hd1 he hpl
   ·subst hc
    exact q9 (C.fr key df f fd ps L) rm g hm L.kp L.bind ha h hd1 he hpl
   ·subst hd
    exact trivial
  ·split at h
   ·rename_i C0 key hq
    obtain ⟨df,f,fd,ps,hm,M,L⟩:=R.ini x C0 key hq
    have F:=C.ini key C0 df f fd ps L
    have rm:=xe.room.mono (show kc+1<=k by omega)
    rcases C.insI key C0 df f fd ps L _ r h with ⟨fs,rfl⟩|⟨dx,rfl⟩
    ·refine ⟨fun d hd=>?_,(by intro c hc;cases hc),(by intro d hd;cases hd)⟩
     cases hd
     exact uy M (CT.aC.okI F) rm g hm L.bind ha h hd1 he hpl
    ·refine ⟨(by intro d hd;cases hd),(by intro c hc;cases hc),fun d hd=>?_⟩
     cases hd
     exact trivial
   ·cases h
theorem wN (R:Row P wd K mg base G) (C:Calls P wd K mg base G kc cl) (hk:kc+2<=k) (xe:XE true P wd K mg base X sc N w k) {o:Expr} {m:Str} {ap:Pos} (hb:gm o=true) (h30:args.length<30) (hp:(ap.endLine==pos.line)=true) {od:D} (ho:DE X ρ o od) (ha:DA X ρ args ds) (hone:∀e0 d0,args=[e0]->ds=[d0]->DE X ρ e0 d0) (hl:args.length=ds.length)
  (hs:∀e∈args,br e=true) {r:Rs} (h:ba G cl od m ds=some r):
  (∀d,r.val=some d->DE X ρ (.Call (.Attribute o m ap) args [] pos) d)∧(∀c,r=.fr c->DFx X ρ (.Call (.Attribute o m ap) args [] pos) c)∧(∀d,r=.xc d->DEX X ρ (.Call (.Attribute o m ap) args [] pos) d):=by
 have ht:=qk (o:=o) (m:=m) (args:=args) (ap:=ap) (cp:=pos) (env:=X.env) hb hs h30 hp
 obtain ⟨rfl,rfl,rfl,rfl,rfl⟩:=And.intro xe.p_ (And.intro xe.w_ (And.intro xe.K_ (And.intro xe.mg_ xe.iY)))
 have rm:=xe.room.mono (show kc<=k by omega)
 unfold ba at h
 split at h
 ·rename_i C0 fs
  split at h
  ·rename_i key h1 h2
   obtain ⟨df,f,fd,ps,M,c,L⟩:=R.mth C0 m key h2
   have F:=C.fn key df f fd ps L
   match ds,args,hl with
   |[],[],_=>
    refine ⟨fun d hd=>?_,fun c hc=>?_,fun d hd=>?_⟩
    ·exact se ho h1 c M (CT.aC.okD F) rm L.bind ⟨r,h,hd⟩ ht
    ·subst hc;exact qh ho h1 (by assumption) M (C.fr key df f fd ps L) rm L.bind h ht
    ·subst hd;exact trivial
   |d0::dr,e0::er,hl=>
    have he:=bB (es:=er) (env:=X.env) (aG (hs e0 (by simp)))
    have hpl:=dI (es:=er) (env:=X.env) (pos:=pos) fun e he=>hs e (List.mem_cons_of_mem _ he)
    refine ⟨fun d hd=>?_,fun c hc=>?_,fun d hd=>?_⟩
    ·exact vn ho h1 c M (CT.aC.okD F) rm L.bind ha ⟨r,h,hd⟩ he hpl ht
    ·subst hc;exact qD ho h1 (by assumption) M (C.fr key df f fd ps L) rm L.bind ha h he hpl ht
    ·subst hd;exact trivial
  ·cases h
 ·split at h
  ·rename_i hm
   subst hm
   split at h
   ·rename_i kd
    split at h
    ·rename_i l e
     split at h
     ·rename_i hdp
      cases h
      match args,hl with
      |[e0],_=>
       refine ⟨fun d hd=>?_,(by intro c hc;cases hc),(by intro d hd;cases hd)⟩
       cases hd
       have s0:starEach [e0] X.env=[(false,eval e0 X.env)]:=bB (es:=[]) (aG (hs e0 (by simp)))
       rw [fj]
       refine rh (by have:=xe.room.units;omega) ho (by rw [eB e];exact hone e0 kd rfl rfl) hdp ⟨jv hb,?_,hp,?_⟩
       ·rw [gi hs];rfl
       ·rw [s0];rfl
     ·cases h
    ·cases h
   ·cases h
  ·cases h
 ·cases h
end
end IN
namespace IN
open PySem PySem.Spec PySem.W L2 CT
open PyProof.Rows hiding St
mutual
theorem fE:∀{t:Tg} {d:D} {ρ ρ' ρ1:Rho},Le ρ ρ'->ag t d ρ=some ρ1->∃ρ1',ag t d ρ'=some ρ1'∧Le ρ1 ρ1'
 |.nm k,d,ρ,ρ',ρ1,le,h=>by
  unfold ag at h ⊢
  split at h
  ·rename_i hk
   cases h
   rw [if_pos (by rw [←le.len];exact hk)]
   exact ⟨_,rfl,le.set k _⟩
  ·cases h
 |.tp ts,.tup ds,ρ,ρ',ρ1,le,h=>by
  unfold ag at h ⊢
  exact jV le h
 |.tp _,.non,_,_,_,_,h=>by unfold ag at h;cases h
 |.tp _,.bl _,_,_,_,_,h=>by unfold ag at h;cases h
 |.tp _,.int _,_,_,_,_,h=>by unfold ag at h;cases h
 |.tp _,.str _,_,_,_,_,h=>by unfold ag at h;cases h
 |.tp _,.lst _,_,_,_,_,h=>by unfold ag at h;cases h
 |.tp _,.ins _ _,_,_,_,_,h=>by unfold ag at h;cases h
 |.tp _,.exc _ _,_,_,_,_,h=>by unfold ag at h;cases h
 |.tp _,.ty _,_,_,_,_,h=>by unfold ag at h;cases h
 |.tp _,.cl _,_,_,_,_,h=>by unfold ag at h;cases h
 |.tp _,.dct _,_,_,_,_,h=>by unfold ag at h;cases h
 |.tp _,.pdc _,_,_,_,_,h=>by unfold ag at h;cases h
theorem jV:∀{ts:List Tg} {ds:List D} {ρ ρ' ρ1:Rho},Le ρ ρ'->aN ts ds ρ=some ρ1->∃ρ1',aN ts ds ρ'=some ρ1'∧Le ρ1 ρ1'
 |[],[],ρ,ρ',ρ1,le,h=>by unfold aN at h ⊢;cases h;exact ⟨_,rfl,le⟩
 |t::ts,d::ds,ρ,ρ',ρ1,le,h=>by
  unfold aN at h ⊢
  split at h
  ·rename_i ρ2 h2
   obtain ⟨ρ2',e2,le2⟩:=fE le h2
   rw [e2]
   exact jV le2 h
  ·cases h
 |[],_::_,_,_,_,_,h=>by unfold aN at h;cases h
 |_::_,[],_,_,_,_,h=>by unfold aN at h;cases h
end
theorem vJ {es:List Expr} {env:Env}:(assignEach es env).length=es.length:=by
 induction es with
 |nil=>rfl
 |cons e es ih=>cases e<;>(simp only [assignEach,List.length_cons];rw [ih])
theorem hX {e:Expr} {es:List Expr} {env:Env} (h:br e=true):assignEach (e::es) env=(false,assign e env)::assignEach es env:=by
 cases e<;>first|rfl|cases h
theorem qE {es:List Expr} {env:Env} (h:∀e∈es,br e=true):(assignEach es env).findIdx? (·.1)=none:=by
 rw [List.findIdx?_eq_none_iff]
 induction es with
 |nil=>intro x hx;cases hx
 |cons e es ih=>
  intro x hx
  rw [hX (h e List.mem_cons_self)] at hx
  rcases List.mem_cons.mp hx with z|z
  ·rw [z]
  ·exact ih (fun e he=>h e (List.mem_cons_of_mem _ he)) x z
section
variable {P:Program} {wd:World} {K:Frag} {mg:Str->Option Value} {base:Heap} {X:Cx} {sc:Scope} {N:List Str} {w k kc:Nat} {G:Prg} {cl:Str->List D->Option Rs}
theorem iI (xe:XE true P wd K mg base X sc N w k):∀n,(∀tg t,cTg sc N n tg=some t->br tg=true∧∀ρ d ρ1,ag t d ρ=some ρ1->(∀k∈tks t,k<w)->DG X tg ρ d ρ1 (tks t)∧cn ρ ρ1 (tks t))∧
  (∀tgs ts,eC sc N n tgs=some ts->(∀e∈tgs,br e=true)∧∀ρ ds ρ1,aN ts ds ρ=some ρ1->(∀k∈eh ts,k<w)->DGs X tgs ρ ds ρ1 (eh ts)∧cn ρ ρ1 (eh ts)∧ds.length=tgs.length):=by
 intro n
 induction n with
 |zero=>exact ⟨fun tg t h=>(by unfold cTg at h;cases h),fun tg t h=>(by unfold eC at h;cases h)⟩
 |succ n ih=>
  refine ⟨fun tg t h=>?_,fun tgs ts h=>?_⟩
  ·unfold cTg at h
   split at h
   ·rename_i x p
    split at h
    ·rename_i hx
     simp only [Bool.and_eq_true] at hx
     cases hi:idx N x with
     |none=>rw [hi] at h;cases h
     |some i=>
      rw [hi] at h
      cases h
      refine ⟨rfl,fun ρ d ρ1 hb hw=>?_⟩
      unfold ag at hb
      split at hb
      ·cases hb
       have hat:=xe.at hi
       have hN:X.N.Nodup:=by rw [xe.N_];exact xe.nd
       refine ⟨ub hN hat (xe.loc hx.2) (.inl (xe.fn i x (hw i (by simp [tks])) (by rw [←xe.N_];exact hat))),wu⟩
      ·cases hb
    ·cases h
   ·rename_i es j p
    split at h
    ·rename_i hst
     cases hts:eC sc N n es with
     |none=>rw [hts] at h;cases h
     |some ts=>
      rw [hts] at h
      cases h
      obtain ⟨hs,ht⟩:=ih.2 es ts hts
      refine ⟨rfl,fun ρ d ρ1 hb hw=>?_⟩
      cases d with
      |tup ds=>
       unfold ag at hb
       obtain ⟨h1,h2,h3⟩:=ht ρ ds ρ1 hb (fun k hk=>hw k hk)
       exact ⟨wV xe.calm h1 h3 (by rw [vJ]) (qE hs),h2⟩
      |_=>unfold ag at hb;cases hb
    ·cases h
   ·cases h
  ·unfold eC at h
   split at h
   ·cases h
    refine ⟨fun e he=>(nomatch he),fun ρ ds ρ1 hb hw=>?_⟩
    cases ds with
    |nil=>unfold aN at hb;cases hb;exact ⟨tJ,yP,rfl⟩
    |cons=>unfold aN at hb;cases hb
   ·rename_i e r
    split at h
    ·rename_i t ts h1 h2
     cases h
     obtain ⟨s1,g1⟩:=ih.1 e t h1
     obtain ⟨s2,g2⟩:=ih.2 r ts h2
     refine ⟨fun e' he=>?_,fun ρ ds ρ1 hb hw=>?_⟩
     ·rcases List.mem_cons.mp he with z|z
      ·rw [z];exact s1
      ·exact s2 e' z
     ·cases ds with
      |nil=>unfold aN at hb;cases hb
      |cons d ds=>
       unfold aN at hb
       split at hb
       ·rename_i ρ2 hb1
        obtain ⟨a1,a2⟩:=g1 ρ d ρ2 hb1 fun k hk=>hw k (by show k∈tks t++eh ts;exact List.mem_append_left _ hk)
        obtain ⟨b1,b2,b3⟩:=g2 ρ2 ds ρ1 hb fun k hk=>hw k (by show k∈tks t++eh ts;exact List.mem_append_right _ hk)
        exact ⟨qB a1 b1 (by rw [hX s1];rfl),a2.trans b2,by simp [b3]⟩
       ·cases hb
    ·cases h
theorem XE.cX (xe:XE true P wd K mg base X sc N w k) {scope:Scope} {own:List Str} {cap:List (Str×Nat)} (cs:CS X scope own cap) {p:List (Addr×Obj)} {s:Shared} {h:Hp} {fp:List Addr}:
  XE true P wd K mg base (CT.cX X scope own cap p s h fp) (dh scope sc) (own++cap.map (·.1)) own.length k where
 p_:=xe.p_
 w_:=xe.w_
 K_:=xe.K_
 mg_:=xe.mg_
 iY:=xe.iY
 sc_:=by rw [←xe.sc_];rfl
 N_:=rfl
 nd:=cs.nN
 kF:=xe.kF
 kD:=xe.kD
 units:=xe.units
 nox:=fun _ _ z=>z
 fn:=fun i x hi hx=>by
  show decide (x∈own)=true
  rw [List.getElem?_append_left hi] at hx
  exact decide_eq_true (List.mem_of_getElem? hx)
theorem lW {w:Nat} {cap:List Nat} {ρ:Rho} {i:Nat} (h:i<w):(cN w cap ρ)[i]?=some .nil:=by
 unfold cN
 rw [List.getElem?_append_left (by simpa using h),List.getElem?_replicate,if_pos h]
end
end IN
namespace IN
open PySem PySem.Spec PySem.W L2 CT
open PyProof.Rows hiding St
structure All (P:Program) (wd:World) (K:Frag) (mg:Str->Option Value) (base:Heap) (G:Prg) (cl:Str->List D->Option Rs) (k n:Nat):Prop where
 e:∀X sc N w,XE true P wd K mg base X sc N w k->∀e ce,cE n sc N e=some ce->br e=true∧ce≠.nop∧OkE G cl X e ce
 a:∀X sc N w,XE true P wd K mg base X sc N w k->∀es ces,cA n sc N es=some ces->(∀e∈es,br e=true)∧∀ρ ρ' ds,Le ρ ρ'->evA G cl ces ρ=some ds->DA X ρ' es ds∧es.length=ds.length∧(∀e0 d0,es=[e0]->ds=[d0]->DE X ρ' e0 d0)
 b:∀X sc N w,XE true P wd K mg base X sc N w k->∀op es ce,cB n sc N op es=some ce->(∀ρ ρ' d pos,Le ρ ρ'->ev G cl ce ρ=some d->DE X ρ' (.BoolOp op es pos) d)∧∀ρ ρ' b pos,Le ρ ρ'->evT G cl ce ρ=some b->DW X ρ' (.BoolOp op es pos) b
 o:∀X sc N w,XE true P wd K mg base X sc N w k->∀oe ce,cO n sc N oe=some ce->∀ρ ρ' l,Le ρ ρ'->asI ce (ev G cl ce ρ)=some l->DO X ρ' oe l
 f:∀X sc N w,XE true P wd K mg base X sc N w k->∀ifs ce,cIf n sc N ifs=some ce->∀ρ ρ' b,Le ρ ρ'->evT G cl ce ρ=some b->DTs X ρ' ifs b
 g:∀X sc N w,XE true P wd K mg base X sc N w k->∀gens elt ce,cG n sc N gens elt=some ce->∀(full:List Comprehension) (m:Nat),full.drop (m+1)=gens->∀scope pos ρ ρ' out acc,Le ρ ρ'->evB G cl w ce ρ=some out->DB X acc (aR elt full scope pos m (.ref acc) X.env) ρ' out
section
variable {P:Program} {wd:World} {K:Frag} {mg:Str->Option Value} {base:Heap} {G:Prg} {cl:Str->List D->Option Rs} {k kc n:Nat} {X:Cx} {sc:Scope} {N:List Str} {w:Nat}
theorem zk (ih:All P wd K mg base G cl k n) (xe:XE true P wd K mg base X sc N w k) {es:List Expr} {ces:List CE} (h:cA (n+1) sc N es=some ces):
  (∀e∈es,br e=true)∧∀ρ ρ' ds,Le ρ ρ'->evA G cl ces ρ=some ds->DA X ρ' es ds∧es.length=ds.length∧(∀e0 d0,es=[e0]->ds=[d0]->DE X ρ' e0 d0):=by
 unfold cA at h
 split at h
 ·cases h
  refine ⟨fun e he=>(nomatch he),fun ρ ρ' ds le h=>?_⟩
  unfold evA at h
  cases h
  exact ⟨kN,rfl,fun e0 d0 z=>nomatch z⟩
 ·rename_i e r
  split at h
  ·rename_i x xs h1 h2
   cases h
   obtain ⟨s1,_,o1⟩:=ih.e X sc N w xe e x h1
   obtain ⟨s2,o2⟩:=ih.a X sc N w xe r xs h2
   refine ⟨fun e' he=>?_,fun ρ ρ' ds le h=>?_⟩
   ·rcases List.mem_cons.mp he with z|z
    ·rw [z];exact s1
    ·exact s2 e' z
   ·unfold evA at h
    split at h
    ·rename_i d hd
     split at h
     ·rename_i ds' hds
      cases h
      obtain ⟨a1,a2,_⟩:=o2 ρ ρ' ds' le hds
      refine ⟨fb (o1.v le hd) a1 (bB (aG s1)),by simp [a2],fun e0 d0 z1 z2=>?_⟩
      cases z1;cases z2
      exact o1.v le hd
     ·cases h
    ·cases h
  ·cases h
theorem zw (ih:All P wd K mg base G cl k n) (xe:XE true P wd K mg base X sc N w k) {op:BoolOp} {es:List Expr} {ce:CE} (h:cB (n+1) sc N op es=some ce):
  (∀ρ ρ' d pos,Le ρ ρ'->ev G cl ce ρ=some d->DE X ρ' (.BoolOp op es pos) d)∧∀ρ ρ' b pos,Le ρ ρ'->evT G cl ce ρ=some b->DW X ρ' (.BoolOp op es pos) b:=by
 unfold cB at h
 split at h
 ·cases h
 ·rename_i e
  obtain ⟨_,_,o1⟩:=ih.e X sc N w xe e ce h
  refine ⟨fun ρ ρ' d pos le h=>xK (o1.v le h),fun ρ ρ' b pos le h=>?_⟩
  cases op with
  |And=>exact uF (o1.t le h)
  |Or=>exact wg (o1.t le h)
 ·rename_i e f r
  split at h
  ·rename_i x y h1 h2
   cases h
   obtain ⟨_,_,o1⟩:=ih.e X sc N w xe e x h1
   obtain ⟨o2,o3⟩:=ih.b X sc N w xe .And (f::r) y h2
   refine ⟨fun ρ ρ' d pos le h=>?_,fun ρ ρ' b pos le h=>?_⟩
   ·unfold ev at h
    split at h
    ·rename_i hx
     split at h
     ·rename_i q hq
      cases h
      have:=om (pos:=pos) (o1.v le hx) fun _=>o2 ρ ρ' _ pos le hq
      rw [Bool.true_and] at this;exact this
     ·cases h
    ·rename_i hx
     cases h
     exact om (q:=false) (o1.v le hx) fun z=>nomatch z
    ·cases h
   ·unfold evT at h
    split at h
    ·rename_i hx
     have:=oV (pos:=pos) (o1.t le hx) fun _=>o3 ρ ρ' _ pos le h
     rw [Bool.true_and] at this;exact this
    ·rename_i hx
     cases h
     exact oV (q:=false) (o1.t le hx) fun z=>nomatch z
    ·cases h
  ·rename_i x y h1 h2
   cases h
   obtain ⟨_,_,o1⟩:=ih.e X sc N w xe e x h1
   obtain ⟨o2,o3⟩:=ih.b X sc N w xe .Or (f::r) y h2
   refine ⟨fun ρ ρ' d pos le h=>?_,fun ρ ρ' b pos le h=>?_⟩
   ·unfold ev at h
    split at h
    ·rename_i hx
     cases h
     exact sL (q:=false) (o1.v le hx) fun z=>nomatch z
    ·rename_i hx
     split at h
     ·rename_i q hq
      cases h
      have:=sL (pos:=pos) (o1.v le hx) fun _=>o2 ρ ρ' _ pos le hq
      rw [Bool.false_or] at this;exact this
     ·cases h
    ·cases h
   ·unfold evT at h
    split at h
    ·rename_i hx
     cases h
     exact sS (q:=false) (o1.t le hx) fun z=>nomatch z
    ·rename_i hx
     have:=sS (pos:=pos) (o1.t le hx) fun _=>o3 ρ ρ' _ pos le h
     rw [Bool.false_or] at this;exact this
    ·cases h
  ·cases h
theorem zy (ih:All P wd K mg base G cl k n) (xe:XE true P wd K mg base X sc N w k) {oe:Option Expr} {ce:CE} (h:cO (n+1) sc N oe=some ce) {ρ ρ':Rho} {l:Option Int} (le:Le ρ ρ') (hl:asI ce (ev G cl ce ρ)=some l):DO X ρ' oe l:=by
 unfold cO at h
 split at h
 ·cases h
  cases hl
  exact uM
 ·rename_i e
  obtain ⟨_,hn,o1⟩:=ih.e X sc N w xe e ce h
  unfold asI at hl
  split at hl
  ·exact absurd rfl hn
  ·rename_i i hv
   cases hl
   exact vA (o1.v le hv)
  ·cases hl
theorem zL (ih:All P wd K mg base G cl k n) (xe:XE true P wd K mg base X sc N w k) {ifs:List Expr} {ce:CE} (h:cIf (n+1) sc N ifs=some ce) {ρ ρ':Rho} {b:Bool} (le:Le ρ ρ') (hl:evT G cl ce ρ=some b):DTs X ρ' ifs b:=by
 unfold cIf at h
 split at h
 ·cases h
  unfold evT at hl
  cases hl
  exact uV
 ·rename_i e
  obtain ⟨_,hn,o1⟩:=ih.e X sc N w xe e ce h
  exact vk (o1.t le hl)
 ·cases h
theorem mq {tgt:Tg} {test body:CE} {d:D} {ρ:Rho} {out:List D} {wb:Nat}
  (h:(match ag tgt d ρ with
     |some ρ'=>match evT G cl test ρ' with
      |some true=>evB G cl wb body ρ'
      |some false=>some []
      |none=>none
     |none=>none)=some out):∃ρ1 b,ag tgt d ρ=some ρ1∧evT G cl test ρ1=some b∧(b=true->evB G cl wb body ρ1=some out)∧(b=false->out=[]):=by
 split at h
 ·rename_i ρ1 h1
  split at h
  ·rename_i h2;exact ⟨ρ1,true,h1,h2,fun _=>h,fun z=>nomatch z⟩
  ·rename_i h2;cases h;exact ⟨ρ1,false,h1,h2,(fun z=>nomatch z),fun _=>rfl⟩
  ·cases h
 ·cases h
theorem z9 (ih:All P wd K mg base G cl k n) (xe:XE true P wd K mg base X sc N w k) {gens:List Comprehension} {elt:Expr} {ce:CE} (h:cG (n+1) sc N gens elt=some ce) {full:List Comprehension} {m:Nat} (hf:full.drop (m+1)=gens)
  {scope:Scope} {pos:Pos} {ρ ρ':Rho} {out:List D} {acc:Addr} (le:Le ρ ρ') (ho:evB G cl w ce ρ=some out):DB X acc (aR elt full scope pos m (.ref acc) X.env) ρ' out:=by
 unfold cG at h
 split at h
 ·cases hq:cE n sc N elt with
  |none=>rw [hq] at h;cases h
  |some x=>
   rw [hq] at h
   cases h
   obtain ⟨_,_,o1⟩:=ih.e X sc N w xe elt x hq
   unfold evB at ho
   split at ho
   ·rename_i d hd
    cases ho
    have hn:full[m+1]?=none:=by
     have z:(full.drop (m+1))[0]?=full[m+1]?:=by rw [List.getElem?_drop]
     rw [←z,hf];rfl
    unfold aR
    rw [hn]
    exact tI (o1.v le hd)
   ·cases ho
 ·rename_i tg it ifs r
  split at h
  ·rename_i hit
   split at h
   ·rename_i t i c b h1 h2 h3 h4
    cases h
    have hg:full[m+1]?=some ⟨tg,it,ifs,0⟩:=by
     have z:(full.drop (m+1))[0]?=full[m+1]?:=by rw [List.getElem?_drop]
     rw [←z,hf];rfl
    have hf2:full.drop (m+1+1)=r:=by
     have:full.drop (m+1+1)=(full.drop (m+1)).drop 1:=by rw [List.drop_drop]
     rw [this,hf];rfl
    obtain ⟨_,_,oi⟩:=ih.e X sc N w xe it i h2
    unfold evB at ho
    split at ho
    ·rename_i its hi
     split at ho
     ·rename_i hk
      obtain ⟨outs,l1,l2,l3⟩:=gH ho
      subst l2
      rw [List.all_eq_true] at hk
      have hk':∀j∈tks t,j<w∧ρ[j]?=some .nil:=fun j hj=>by
       have:=hk j hj
       simp only [Bool.and_eq_true,decide_eq_true_eq] at this
       exact ⟨this.1,pq this.2⟩
      refine vq (ks:=tks t) hg xe.calm (fun e s z=>xe.nox e s z) (oi.i le hit hi).dI0 (fun j hj=>le.nil j (hk' j hj).2) l1 (fun q d o hd ho'=>?_) (fC hit _)
      obtain ⟨ρ1,bb,z1,z2,z3,z4⟩:=mq (l3 q d o hd ho')
      obtain ⟨ρ1',e1,le1⟩:=fE le z1
      obtain ⟨_,tg1⟩:=(iI xe n).1 tg t h1
      obtain ⟨dg,_⟩:=tg1 ρ' d ρ1' e1 fun j hj=>(hk' j hj).1
      exact ⟨ρ1',bb,dg,ih.f X sc N w xe ifs c h3 ρ1 ρ1' bb le1 z2,fun hb=>ih.g X sc N w xe r elt b h4 full (m+1) hf2 scope pos ρ1 ρ1' o acc le1 (z3 hb),z4⟩
     ·cases ho
    ·cases ho
   ·cases h
  ·cases h
 ·cases h
theorem tP (ih:All P wd K mg base G cl k n) (xe:XE true P wd K mg base X sc N w k) {elt tg it:Expr} {ifs:List Expr} {gens:List Comprehension} {scope:Scope} {pos:Pos} {t:Tg} {i c b:CE}
  (hcs:jt scope (ownOf scope) (aM scope N) sc N=true) (hit:eE tg it=true)
  (h1:cTg (dh scope sc) (ownOf scope++(aM scope N).map (·.1)) n tg=some t) (h2:cE n sc N it=some i) (h3:cIf n (dh scope sc) (ownOf scope++(aM scope N).map (·.1)) ifs=some c)
  (h4:cG n (dh scope sc) (ownOf scope++(aM scope N).map (·.1)) gens elt=some b) {ρ ρ':Rho} {d:D} (le:Le ρ ρ') (h:ev G cl (.comp (ownOf scope).length ((aM scope N).map (·.2)) t i c b) ρ=some d):
  ∃xs,d=.lst xs∧DC X ρ' (.ListComp elt (⟨tg,it,ifs,0⟩::gens) scope pos) xs:=by
 have cs:CS X scope (ownOf scope) (aM scope N):=CS.of sc N xe.sc_ xe.N_ hcs
 obtain ⟨_,_,oi⟩:=ih.e X sc N w xe it i h2
 unfold ev at h
 split at h
 ·rename_i its hi
  split at h
  ·rename_i hk
   split at h
   ·rename_i out hc
    split at h
    ·rename_i hz
     cases h
     obtain ⟨outs,l1,l2,l3⟩:=gH hc
     subst l2
     rw [List.all_eq_true] at hk
     have hk':∀j∈tks t,j<(ownOf scope).length:=fun j hj=>by simpa using hk j hj
     have lec:=le.cap (ownOf scope) (aM scope N)
     refine ⟨_,rfl,um (ks:=tks t) cs xe.calm (oi.i le hit hi).dI0 (fun j hj=>lec.nil j (lW (hk' j hj))) l1 hz (fun q dd o hd ho'=>?_) (fC hit _)⟩
     obtain ⟨ρ1,bb,z1,z2,z3,z4⟩:=mq (l3 q dd o hd ho')
     obtain ⟨ρ1',e1,le1⟩:=fE lec z1
     refine ⟨ρ1',bb,fun p s H f=>?_,fun p s H f=>?_,fun hb p s H f acc=>?_,z4⟩
     ·obtain ⟨_,tg1⟩:=(iI (xe.cX cs (p:=p) (s:=s) (h:=H) (fp:=f)) n).1 tg t h1
      exact (tg1 _ dd ρ1' e1 hk').1
     ·exact ih.f _ _ _ _ (xe.cX cs) ifs c h3 ρ1 ρ1' bb le1 z2
     ·exact ih.g _ _ _ _ (xe.cX cs) gens elt b h4 (⟨tg,it,ifs,0⟩::gens) 0 rfl scope pos ρ1 ρ1' o acc le1 (z3 hb)
    ·cases h
   ·cases h
  ·cases h
 ·cases h
theorem jc {f:D->Option (CT.PK×D)}:∀{its:List D} {es0 es:List (CT.PK×D)},jq f its es0=some es->∃E:Nat->List (CT.PK×D),E 0=es0∧E its.length=es∧∀(i:Nat) d,its[i]?=some d->∃p,f d=some p∧(E i).length<sizeLine∧E (i+1)=bp (E i) p.1 p.2
 |[],es0,es,h=>by cases h;exact ⟨fun _=>es0,rfl,rfl,fun i d h=>by simp at h⟩
 |x::xs,es0,es,h=>by
  unfold jq at h
  split at h
  ·rename_i p hp
   split at h
   ·rename_i hl
    obtain ⟨E,e0,e1,e2⟩:=jc h
    refine ⟨fun i=>match i with|0=>es0|i+1=>E i,rfl,e1,fun i d hd=>?_⟩
    cases i with
    |zero=>simp at hd;subst hd;exact ⟨p,hp,hl,e0⟩
    |succ i=>exact e2 i d (by simpa using hd)
   ·cases h
  ·cases h
theorem rQ (ih:All P wd K mg base G cl k n) (xe:XE true P wd K mg base X sc N w k) {kx vx tg it:Expr} {scope:Scope} {pos:Pos} {t:Tg} {i kk vv:CE}
  (hcs:jt scope (ownOf scope) (aM scope N) sc N=true) (hit:eE tg it=true)
  (h1:cTg (dh scope sc) (ownOf scope++(aM scope N).map (·.1)) n tg=some t) (h2:cE n sc N it=some i) (h3:cE n (dh scope sc) (ownOf scope++(aM scope N).map (·.1)) kx=some kk)
  (h4:cE n (dh scope sc) (ownOf scope++(aM scope N).map (·.1)) vx=some vv) {ρ ρ':Rho} {d:D} (le:Le ρ ρ') (h:ev G cl (.cT (ownOf scope).length ((aM scope N).map (·.2)) t i kk vv) ρ=some d):
  ∃es,d=.pdc es∧DCx X ρ' (.DictComp kx vx [⟨tg,it,[],0⟩] scope pos) (.d es):=by
 have cs:CS X scope (ownOf scope) (aM scope N):=CS.of sc N xe.sc_ xe.N_ hcs
 obtain ⟨_,_,oi⟩:=ih.e X sc N w xe it i h2
 unfold ev at h
 split at h
 ·rename_i its hi
  split at h
  ·rename_i hk
   split at h
   ·rename_i es hc
    cases h
    obtain ⟨E,e0,e1,e2⟩:=jc hc
    rw [List.all_eq_true] at hk
    have hk':∀j∈tks t,j<(ownOf scope).length:=fun j hj=>by simpa using hk j hj
    have lec:=le.cap (ownOf scope) (aM scope N)
    have hz:(E its.length).length<=sizeLine:=by
     cases hl:its.length with
     |zero=>rw [e0];exact Nat.zero_le _
     |succ m=>
      obtain ⟨p,_,a,b⟩:=e2 m its[m] (by simp [hl])
      rw [b,bp]
      split
      ·rw [List.length_map];omega
      ·rw [List.length_append];exact a
    subst e1
    refine ⟨_,rfl,qu (ks:=tks t) cs xe.calm (oi.i le hit hi).dI0 (fun j hj=>lec.nil j (lW (hk' j hj))) e0 hz (fun q dd hd=>?_) (fC hit _)⟩
    obtain ⟨p,hp,hl,hE⟩:=e2 q dd hd
    split at hp
    ·rename_i ρ1 z1
     obtain ⟨ρ1',e1',le1⟩:=fE lec z1
     unfold rC at hp
     split at hp
     ·rename_i kd v hkd hvd
      split at hp
      ·rename_i l hpk
       split at hp
       ·rename_i hdp
        cases hp
        refine ⟨ρ1',.t l,v,fun p s H f=>?_,fun p s H f acc=>?_,by rw [hE,fq],Nat.le_of_lt hl,hdp⟩
        ·obtain ⟨_,tg1⟩:=(iI (xe.cX cs (p:=p) (s:=s) (h:=H) (fp:=f)) n).1 tg t h1
         exact (tg1 _ dd ρ1' e1' hk').1
        ·have xc:=xe.cX cs (p:=p) (s:=s) (h:=H) (fp:=f)
         have ok1:=(ih.e _ _ _ _ xc kx kk h3).2.2.v le1 hkd
         rw [←eB hpk] at ok1
         exact qT (Y:=cX X scope (ownOf scope) (aM scope N) p s H f) (by have:=xe.units;show X.A.units+9<cLine;omega) ok1 ((ih.e _ _ _ _ xc vx vv h4).2.2.v le1 hvd)
       ·cases hp
      ·cases hp
     ·cases hp
    ·cases hp
   ·cases h
  ·cases h
 ·cases h
end
end IN
namespace IN
open PySem PySem.Spec PySem.W L2 CT
open PyProof.Rows hiding St
section
variable {P:Program} {wd:World} {K:Frag} {mg:Str->Option Value} {base:Heap} {G:Prg} {cl:Str->List D->Option Rs} {k kc n:Nat} {X:Cx} {sc:Scope} {N:List Str} {w:Nat} {ce:CE} {pos:Pos}
theorem vf {c:Const} {j:Nat} (h:pS c=some ce):ce≠.nop∧OkE G cl X (.Constant c j pos) ce:=by
 cases c with
 |int i=>
  cases h
  refine ⟨(fun z=>nomatch z),OkE.of (fun le h=>by unfold ev at h;cases h;exact yp) (fun le h=>by unfold evT at h;cases h) (fun le _ h=>by unfold evI at h;cases h) rfl fun ρ=>rfl⟩
 |bool b=>
  cases h
  refine ⟨(fun z=>nomatch z),OkE.of (fun le h=>by unfold ev at h;cases h;exact sY) (fun le h=>by unfold evT at h;cases h;exact gC sY) (fun le _ h=>by unfold evI at h;cases h) rfl fun ρ=>rfl⟩
 |none=>
  cases h
  refine ⟨(fun z=>nomatch z),OkE.of (fun le h=>by unfold ev at h;cases h;exact gL) (fun le h=>by unfold evT at h;cases h) (fun le _ h=>by unfold evI at h;cases h) rfl fun ρ=>rfl⟩
 |str s=>
  cases h
  refine ⟨(fun z=>nomatch z),OkE.of (fun le h=>by unfold ev at h;cases h;exact wW) (fun le h=>by unfold evT at h;cases h) (fun le _ h=>by unfold evI at h;cases h) rfl fun ρ=>rfl⟩
 |float _=>cases h
 |complex _ _=>cases h
 |bytes _=>cases h
 |ellipsis=>cases h
theorem we {ca:Bool} (R:Row P wd K mg base G) (xe:XE ca P wd K mg base X sc N w k) {x:Str} (h:m9 sc N x=some ce):ce≠.nop∧OkE G cl X (.Name x pos) ce:=by
 unfold m9 at h
 split at h
 ·rename_i hn
  obtain ⟨h1,h2,_⟩:=eH hn
  split at h
  ·rename_i i hi
   split at h
   ·rename_i hv
    cases h
    have go:∀{ρ ρ':Rho} {d:D},Le ρ ρ'->aA ρ[i]?=some d->DE X ρ' (.Name x pos) d:=fun le hq=>pA (xe.at hi) (xe.vis hv) (le.val i _ (rR hq)) h1 h2
    refine ⟨(fun z=>nomatch z),OkE.of (fun le h=>by unfold ev at h;exact go le h) (fun le h=>?_) (fun le _ h=>?_) rfl (fun ρ=>rfl) (fun i' z ρ c pos hr=>(by cases z;exact tH (xe.at hi) (xe.vis hv) hr h1 h2)) fun i' z=>(by cases z;exact ⟨x,pos,rfl,xe.at hi,xe.vis hv,h1,h2⟩)⟩
    ·unfold evT at h
     split at h
     ·rename_i b hb;cases h;exact gC (go le hb)
     ·cases h
    ·unfold evI at h
     split at h
     ·rename_i d hd;exact i0 (go le hd) h
     ·cases h
   ·cases h
  ·split at h
   ·rename_i hg
    cases h
    refine ⟨(fun z=>nomatch z),OkE.of (fun le h=>by unfold ev at h;exact R.glob X xe.K_ xe.mg_ x _ h hn (xe.gl hg) _ _) (fun le h=>by unfold evT at h;cases h) (fun le _ h=>by unfold evI at h;cases h) rfl fun ρ=>rfl⟩
   ·cases h
 ·cases h
theorem z7 (R:Row P wd K mg base G) (C:Calls P wd K mg base G kc cl) (hk:kc+2<=k) (ih:All P wd K mg base G cl k n) (xe:XE true P wd K mg base X sc N w k) {e:Expr} (h:cE (n+1) sc N e=some ce):br e=true∧ce≠.nop∧OkE G cl X e ce:=by
 unfold cE at h
 split at h
 ·
  exact ⟨rfl,vf h⟩
 ·
  exact ⟨rfl,we R xe h⟩
 ·
  rename_i a op b _
  split at h
  ·rename_i o x y h0 h1 h2
   cases h
   obtain ⟨_,_,oa⟩:=ih.e X sc N w xe a x h1
   obtain ⟨_,_,ob⟩:=ih.e X sc N w xe b y h2
   refine ⟨rfl,(fun z=>nomatch z),OkE.of (fun le h=>?_) (fun le h=>by unfold evT at h;cases h) (fun le _ h=>by unfold evI at h;cases h) rfl fun ρ=>rfl⟩
   unfold ev at h
   split at h
   ·rename_i u hu
    split at h
    ·rename_i v hv;exact vU h0 (oa.v le hu) (ob.v le hv) h
    ·cases h
   ·cases h
  ·cases h
 ·
  rename_i a _
  cases hq:cE n sc N a with
  |none=>rw [hq] at h;cases h
  |some x=>
   rw [hq] at h;cases h
   obtain ⟨_,_,oa⟩:=ih.e X sc N w xe a x hq
   refine ⟨rfl,(fun z=>nomatch z),OkE.of (fun le h=>?_) (fun le h=>by unfold evT at h;cases h) (fun le _ h=>by unfold evI at h;cases h) rfl fun ρ=>rfl⟩
   unfold ev at h
   split at h
   ·rename_i i hi;cases h;exact yS (oa.v le hi)
   ·cases h
 ·
  rename_i a _
  cases hq:cE n sc N a with
  |none=>rw [hq] at h;cases h
  |some x=>
   rw [hq] at h;cases h
   obtain ⟨_,_,oa⟩:=ih.e X sc N w xe a x hq
   refine ⟨rfl,(fun z=>nomatch z),OkE.of (fun le h=>?_) (fun le h=>?_) (fun le _ h=>by unfold evI at h;cases h) rfl fun ρ=>rfl⟩
   ·unfold ev at h
    split at h
    ·rename_i i hi;cases h;exact xg (oa.v le hi)
    ·cases h
   ·unfold evT at h
    split at h
    ·rename_i i hi;cases h;exact yW (oa.t le hi)
    ·cases h
 ·
  rename_i op a b r _
  obtain ⟨b1,b2⟩:=ih.b X sc N w xe op (a::b::r) ce h
  have hce:(∃x y,ce=.and x y)∨∃x y,ce=.or x y:=by
   cases n with
   |zero=>unfold cB at h;cases h
   |succ n=>
    unfold cB at h
    dsimp only at h
    split at h
    ·cases h;exact .inl ⟨_,_,rfl⟩
    ·cases h;exact .inr ⟨_,_,rfl⟩
    ·cases h
  refine ⟨rfl,?_,OkE.of (fun le h=>b1 _ _ _ _ le h) (fun le h=>(b2 _ _ _ _ le h).dt) ?_ rfl ?_ ?_ ?_⟩
  ·rcases hce with ⟨_,_,rfl⟩|⟨_,_,rfl⟩<;>exact fun z=>nomatch z
  ·intro ρ ρ' its tg le _ h
   rcases hce with ⟨_,_,rfl⟩|⟨_,_,rfl⟩<;>(unfold evI at h;cases h)
  ·intro ρ
   rcases hce with ⟨_,_,rfl⟩|⟨_,_,rfl⟩<;>rfl
  ·intro i z
   rcases hce with ⟨_,_,rfl⟩|⟨_,_,rfl⟩<;>cases z
  ·intro i z
   rcases hce with ⟨_,_,rfl⟩|⟨_,_,rfl⟩<;>cases z
 ·
  rename_i a op b _
  split at h
  ·rename_i j p'
   cases hq:cE n sc N a with
   |none=>rw [hq] at h;cases h
   |some x=>
    rw [hq] at h;cases h
    obtain ⟨_,_,oa⟩:=ih.e X sc N w xe a x hq
    refine ⟨rfl,(fun z=>nomatch z),OkE.of (fun le h=>?_) (fun le h=>?_) (fun le _ h=>by unfold evI at h;cases h) rfl fun ρ=>rfl⟩
    ·unfold ev at h
     split at h
     ·rename_i d hd;cases h;exact wt (oa.v le hd)
     ·cases h
    ·unfold evT at h
     split at h
     ·rename_i d hd;cases h;exact wx (oa.v le hd)
     ·cases h
  ·rename_i j p'
   cases hq:cE n sc N a with
   |none=>rw [hq] at h;cases h
   |some x=>
    rw [hq] at h;cases h
    obtain ⟨_,_,oa⟩:=ih.e X sc N w xe a x hq
    refine ⟨rfl,(fun z=>nomatch z),OkE.of (fun le h=>?_) (fun le h=>?_) (fun le _ h=>by unfold evI at h;cases h) rfl fun ρ=>rfl⟩
    ·unfold ev at h
     split at h
     ·rename_i d hd;cases h;exact tN (oa.v le hd)
     ·cases h
    ·unfold evT at h
     split at h
     ·rename_i d hd;cases h;exact u3 (oa.v le hd)
     ·cases h
  ·split at h
   ·rename_i o x y h0 h1 h2
    split at h
    ·rename_i hns
     cases h
     obtain ⟨_,_,oa⟩:=ih.e X sc N w xe a x h1
     obtain ⟨_,_,ob⟩:=ih.e X sc N w xe b y h2
     refine ⟨rfl,(fun z=>nomatch z),OkE.of (fun le h=>?_) (fun le h=>?_) (fun le _ h=>by unfold evI at h;cases h) rfl fun ρ=>rfl⟩
     ·unfold ev at h
      split at h
      ·rename_i u hu
       split at h
       ·rename_i v hv
        split at h
        ·rename_i q hq;cases h;exact wD hns xe.units h0 (oa.v le hu) (ob.v le hv) hq
        ·cases h
       ·cases h
      ·cases h
     ·unfold evT at h
      split at h
      ·rename_i u hu
       split at h
       ·rename_i v hv;exact tw hns xe.units h0 (oa.v le hu) (ob.v le hv) h
       ·cases h
      ·cases h
    ·cases h
   ·cases h
 ·
  rename_i a b c _
  split at h
  ·rename_i x y z h1 h2 h3
   split at h
   ·rename_i hs
    simp only [Bool.and_eq_true] at hs
    cases h
    obtain ⟨_,_,oa⟩:=ih.e X sc N w xe a x h1
    obtain ⟨_,_,ob⟩:=ih.e X sc N w xe b y h2
    obtain ⟨_,_,oc⟩:=ih.e X sc N w xe c z h3
    refine ⟨rfl,(fun z=>nomatch z),OkE.of (fun le h=>?_) (fun le h=>by unfold evT at h;cases h) (fun le _ h=>by unfold evI at h;cases h) rfl fun ρ=>rfl⟩
    unfold ev at h
    split at h
    ·rename_i i hi
     split at h
     ·rename_i j hj
      split at h
      ·rename_i l hl;cases h;exact rT (oa.v le hi) (ob.v le hj) (oc.v le hl) (rP hs.2)
      ·cases h
     ·cases h
    ·cases h
   ·cases h
  ·cases h
 ·
  rename_i es j _
  cases hq:cA n sc N es with
  |none=>rw [hq] at h;cases h
  |some ces=>
   rw [hq] at h;cases h
   obtain ⟨_,oa⟩:=ih.a X sc N w xe es ces hq
   refine ⟨rfl,(fun z=>nomatch z),OkE.of (fun le h=>?_) (fun le h=>by unfold evT at h;cases h) (fun le _ h=>?_) rfl fun ρ=>rfl⟩
   ·unfold ev at h
    split at h
    ·rename_i ds hd
     split at h
     ·rename_i hl;cases h;exact oE (oa _ _ ds le hd).1 hl
     ·cases h
    ·cases h
   ·unfold evI at h
    split at h
    ·rename_i ds hd
     split at h
     ·rename_i hl;cases h;exact oh (oE (oa _ _ _ le hd).1 hl)
     ·cases h
    ·cases h
 ·
  rename_i es _
  cases hq:cA n sc N es with
  |none=>rw [hq] at h;cases h
  |some ces=>
   rw [hq] at h;cases h
   obtain ⟨_,oa⟩:=ih.a X sc N w xe es ces hq
   refine ⟨rfl,(fun z=>nomatch z),⟨fun le h=>?_,fun le h=>(by unfold evT at h;cases h),fun le _ h=>?_,fun z=>(nomatch z),fun i z=>(nomatch z),fun i z=>(nomatch z),fun le h=>?_⟩⟩
   ·unfold ev at h
    split at h
    ·rename_i ds hd
     split at h
     ·rename_i hl;cases h;exact n8 (oa _ _ ds le hd).1 hl
     ·cases h
    ·cases h
   ·unfold evI at h
    split at h
    ·rename_i ds hd
     split at h
     ·rename_i hl;cases h;exact pR (n8 (oa _ _ _ le hd).1 hl)
     ·cases h
    ·cases h
   ·unfold evV at h
    dsimp only at h
    split at h
    ·rename_i ds hd
     split at h
     ·rename_i hl
      cases h
      have:=yJ (pos:=‹Pos›) (oa _ _ ds le hd).1 hl
      exact ⟨fun d hd=>by cases hd;exact this.de,fun c hc=>by cases hc;exact this.x,by intro d z;cases z⟩
     ·cases h
    ·cases h
 ·
  cases h
  refine ⟨rfl,(fun z=>nomatch z),⟨fun le h=>?_,fun le h=>(by unfold evT at h;cases h),fun le _ h=>(by unfold evI at h;cases h),fun z=>(nomatch z),fun i z=>(nomatch z),fun i z=>(nomatch z),fun le h=>?_⟩⟩
  ·unfold ev at h;cases h;exact jf.de
  ·unfold evV at h
   cases h
   exact ⟨fun d hd=>by cases hd;exact jf.de,fun c hc=>by cases hc;exact jf,by intro d z;cases z⟩
 ·
  split at h
  ·cases h
   exact ⟨rfl,(fun z=>nomatch z),OkE.of (fun le h=>by unfold ev at h;cases h) (fun le h=>by unfold evT at h;cases h) (fun le _ h=>by unfold evI at h;cases h) rfl fun ρ=>rfl⟩
  ·cases h
 ·
  rename_i a b _ _
  split at h
  ·rename_i x y h1 h2
   split at h
   ·rename_i hs
    cases h
    obtain ⟨_,_,oa⟩:=ih.e X sc N w xe a x h1
    obtain ⟨_,_,ob⟩:=ih.e X sc N w xe b y h2
    have go:∀{ρ ρ':Rho} {u v d:D},Le ρ ρ'->ev G cl x ρ=some u->ev G cl y ρ=some v->ixD u v=some d->DE X ρ' (.Subscript a b ‹Pos›) d:=fun le hu hv hd=>zC xe.units hs (oa.v le hu) (ob.v le hv) hd
    refine ⟨rfl,(fun z=>nomatch z),OkE.of (fun le h=>?_) (fun le h=>by unfold evT at h;cases h) (fun le _ h=>?_) rfl fun ρ=>rfl⟩
    ·unfold ev at h
     split at h
     ·rename_i u hu
      split at h
      ·rename_i v hv;exact go le hu hv h
      ·cases h
     ·cases h
    ·unfold evI at h
     split at h
     ·rename_i u hu
      split at h
      ·rename_i v hv
       split at h
       ·rename_i d hd;exact i0 (go le hu hv hd) h
       ·cases h
      ·cases h
     ·cases h
   ·cases h
  ·cases h
 ·
  rename_i a f _
  split at h
  ·rename_i hb
   cases hq:cE n sc N a with
   |none=>rw [hq] at h;cases h
   |some x=>
    rw [hq] at h;cases h
    obtain ⟨_,_,oa⟩:=ih.e X sc N w xe a x hq
    have go:∀{ρ ρ':Rho} {u d:D},Le ρ ρ'->ev G cl x ρ=some u->cq G u f=some d->DE X ρ' (.Attribute a f ‹Pos›) d:=fun {ρ ρ' u d} le hu hd=>by
     have hK:=xe.K_
     subst hK
     unfold cq at hd
     split at hd
     ·split at hd
      ·rename_i hf;exact x_ (oa.v le hu) (R.fok _ _ hf).1 (R.fok _ _ hf).2 hd (jv hb)
      ·cases hd
     ·cases hd
    refine ⟨rfl,(fun z=>nomatch z),OkE.of (fun le h=>?_) (fun le h=>by unfold evT at h;cases h) (fun le _ h=>?_) rfl fun ρ=>rfl⟩
    ·unfold ev at h
     split at h
     ·rename_i u hu;exact go le hu h
     ·cases h
    ·unfold evI at h
     split at h
     ·rename_i u hu
      split at h
      ·rename_i d hd;exact i0 (go le hu hd) h
      ·cases h
     ·cases h
  ·cases h
 ·
  rename_i x p' args _
  split at h
  ·rename_i hn
   simp only [Bool.and_eq_true] at hn
   obtain ⟨⟨hn1,hg⟩,_⟩:=hn
   split at h
   ·rename_i ces hq
    obtain ⟨ss,oa⟩:=ih.a X sc N w xe args ces hq
    split at h
    ·rename_i b hb
     cases h
     have vb:∀{ρ ρ':Rho} {d:D},Le ρ ρ'->ev G cl (.blt b ces) ρ=some d->DE X ρ' (.Call (.Name x p') args [] ‹Pos›) d:=by
      intro ρ ρ' d le h
      unfold ev at h
      split at h
      ·rename_i ds hd
       obtain ⟨a1,a2,a3⟩:=oa _ _ ds le hd
       split at h
       ·cases h
       ·split at h
        ·split at h
         ·rename_i es hs
          cases h
          match args,a2,a1,ss with
          |[e0],_,a1,ss=>exact (mz R xe hb hg a1 (ss e0 (by simp)) hs).de
         ·cases h
        ·cases h
       ·exact pI R xe hb hg a1 a2 ss h
      ·cases h
     refine ⟨rfl,(fun z=>nomatch z),⟨vb,fun le h=>?_,fun le ht h=>?_,fun z=>(nomatch z),fun i z=>(nomatch z),fun i z=>(nomatch z),fun {ρ ρ' r} le h=>?_⟩⟩
     ·unfold evT at h
      split at h
      ·rename_i ds hd
       split at h
       ·rename_i q hq
        cases h
        obtain ⟨a1,a2,a3⟩:=oa _ _ ds le hd
        exact gC (pI R xe hb hg a1 a2 ss hq)
       ·cases h
      ·cases h
     ·unfold evI at h
      split at h
      ·rename_i ds hd
       split at h
       ·rename_i its hi
        cases h
        obtain ⟨a1,a2,a3⟩:=oa _ _ ds le hd
        exact xJ R xe ht hb hg a1 a2 ss hi
       ·cases h
      ·cases h
     ·have dflt:(evV G cl (.blt b ces) ρ=match ev G cl (.blt b ces) ρ with|some d=>some (.ok d)|none=>none)->(∀d,r.val=some d->DE X ρ' (.Call (.Name x p') args [] ‹Pos›) d)∧(∀c,r=.fr c->DFx X ρ' (.Call (.Name x p') args [] ‹Pos›) c)∧(∀d,r=.xc d->DEX X ρ' (.Call (.Name x p') args [] ‹Pos›) d):=by
       intro q
       rw [q] at h
       split at h
       ·rename_i d hd;cases h;exact ⟨fun d' hd'=>by cases hd';exact vb le hd,(by intro c z;cases z),by intro d z;cases z⟩
       ·cases h
      cases b with
      |list=>
       unfold evV ev at h
       dsimp only at h
       split at h
       ·rename_i xs hx
        split at hx<;>cases hx
       ·cases h
      |dict=>
       unfold evV at h
       dsimp only at h
       split at h
       ·rename_i xs hx
        cases h
        refine ⟨fun d' hd'=>by cases hd';exact vb le hx,fun c hc=>?_,by intro d z;cases z⟩
        cases hc
        unfold ev at hx
        split at hx
        ·rename_i ds hd
         obtain ⟨a1,a2,a3⟩:=oa _ _ ds le hd
         dsimp only at hx
         split at hx
         ·split at hx
          ·rename_i es hs
           cases hx
           match args,a2,a1,ss with
           |[e0],_,a1,ss=>exact mz R xe hb hg a1 (ss e0 (by simp)) hs
          ·cases hx
         ·cases hx
        ·cases hx
       ·cases h
      |len=>exact dflt rfl
      |sum=>exact dflt rfl
      |all=>exact dflt rfl
      |any=>exact dflt rfl
      |abs=>exact dflt rfl
      |int=>exact dflt rfl
      |tuple=>exact dflt rfl
      |min=>exact dflt rfl
      |max=>exact dflt rfl
      |isin=>exact dflt rfl
      |range=>exact dflt rfl
      |zip=>exact dflt rfl
      |enum=>exact dflt rfl
      |str=>exact dflt rfl
      |sorted=>exact dflt rfl
    ·cases h
     have go:∀{ρ ρ':Rho} {ds:List D} {r:Rs},Le ρ ρ'->evA G cl ces ρ=some ds->fnR G cl x ds=some r->(∀d,r.val=some d->DE X ρ' (.Call (.Name x p') args [] ‹Pos›) d)∧(∀c,r=.fr c->DFx X ρ' (.Call (.Name x p') args [] ‹Pos›) c)∧(∀d,r=.xc d->DEX X ρ' (.Call (.Name x p') args [] ‹Pos›) d):=fun le hd hr=>by
      obtain ⟨a1,a2,a3⟩:=oa _ _ _ le hd
      exact Ao R C hk xe hn1 hg a1 a2 ss hr
     refine ⟨rfl,(fun z=>nomatch z),⟨fun le h=>?_,fun le h=>?_,fun le ht h=>?_,fun z=>(nomatch z),fun i z=>(nomatch z),fun i z=>(nomatch z),fun {ρ ρ' r} le h=>?_⟩⟩
     ·unfold ev at h
      split at h
      ·rename_i ds hd
       split at h
       ·rename_i r hr;exact (go le hd hr).1 _ h
       ·cases h
      ·cases h
     ·unfold evT at h
      split at h
      ·rename_i ds hd
       split at h
       ·rename_i q hr;cases h;exact gC ((go le hd hr).1 _ rfl)
       ·cases h
      ·cases h
     ·unfold evI at h
      split at h
      ·rename_i ds hd
       split at h
       ·rename_i r hr
        split at h
        ·rename_i d hv;exact i0 ((go le hd hr).1 _ hv) h
        ·cases h
       ·cases h
      ·cases h
     ·unfold evV at h
      dsimp only at h
      split at h
      ·rename_i ds hd;exact go le hd h
      ·cases h
   ·cases h
  ·cases h
 ·
  rename_i o m ap args _
  split at h
  ·rename_i hn
   simp only [Bool.and_eq_true,decide_eq_true_eq] at hn
   obtain ⟨⟨hb,h30⟩,hp⟩:=hn
   split at h
   ·rename_i x ces h1 h2
    cases h
    obtain ⟨_,_,oo⟩:=ih.e X sc N w xe o x h1
    obtain ⟨ss,oa⟩:=ih.a X sc N w xe args ces h2
    have go:∀{ρ ρ':Rho} {u:D} {ds:List D} {r:Rs},Le ρ ρ'->ev G cl x ρ=some u->evA G cl ces ρ=some ds->ba G cl u m ds=some r->(∀d,r.val=some d->DE X ρ' (.Call (.Attribute o m ap) args [] ‹Pos›) d)∧(∀c,r=.fr c->DFx X ρ' (.Call (.Attribute o m ap) args [] ‹Pos›) c)∧(∀d,r=.xc d->DEX X ρ' (.Call (.Attribute o m ap) args [] ‹Pos›) d):=fun le hu hd hr=>by
     obtain ⟨a1,a2,a3⟩:=oa _ _ _ le hd
     exact wN R C hk xe hb h30 hp (oo.v le hu) a1 a3 a2 ss hr
    refine ⟨rfl,(fun z=>nomatch z),⟨fun le h=>?_,fun le h=>?_,fun le ht h=>?_,fun z=>(nomatch z),fun i z=>(nomatch z),fun i z=>(nomatch z),fun {ρ ρ' r} le h=>?_⟩⟩
    ·unfold ev at h
     split at h
     ·rename_i u hu
      split at h
      ·rename_i ds hd
       split at h
       ·rename_i r hr;exact (go le hu hd hr).1 _ h
       ·cases h
      ·cases h
     ·cases h
    ·unfold evT at h
     split at h
     ·rename_i u hu
      split at h
      ·rename_i ds hd
       split at h
       ·rename_i q hr;cases h;exact gC ((go le hu hd hr).1 _ rfl)
       ·cases h
      ·cases h
     ·cases h
    ·unfold evI at h
     split at h
     ·rename_i u hu
      split at h
      ·rename_i ds hd
       split at h
       ·rename_i r hr
        split at h
        ·rename_i d hv;exact i0 ((go le hu hd hr).1 _ hv) h
        ·cases h
       ·cases h
      ·cases h
     ·cases h
    ·unfold evV at h
     dsimp only at h
     split at h
     ·rename_i u hu
      split at h
      ·rename_i ds hd;exact go le hu hd h
      ·cases h
     ·cases h
   ·cases h
  ·cases h
 ·
  split at h
  ·rename_i elt tg it ifs gens scope _ hn
   simp only [Bool.and_eq_true] at hn
   split at h
   ·rename_i t i c b h1 h2 h3 h4
    cases h
    have go:=fun {ρ ρ':Rho} {d:D} (le:Le ρ ρ') (h:ev G cl (.comp (ownOf scope).length ((aM scope N).map (·.2)) t i c b) ρ=some d)=>tP (pos:=‹Pos›) ih xe hn.1 hn.2 h1 h2 h3 h4 le h
    have hcx:∀{ρ ρ':Rho} {r:Rs},Le ρ ρ'->evV G cl (.comp (ownOf scope).length ((aM scope N).map (·.2)) t i c b) ρ=some r->∃c,r=.fr c∧DCx X ρ' (.ListComp elt (⟨tg,it,ifs,0⟩::gens) scope ‹Pos›) c:=fun {ρ ρ' r} le h=>by
     unfold evV at h
     dsimp only at h
     split at h
     ·rename_i xs hx
      cases h
      obtain ⟨ys,e,dc⟩:=go le hx
      cases e
      exact ⟨_,rfl,dc.cx⟩
     ·cases h
    refine ⟨rfl,(fun z=>nomatch z),⟨fun le h=>?_,fun le h=>(by unfold evT at h;cases h),fun le ht h=>(by unfold evI at h;cases h),fun _ le h=>hcx le h,fun i z=>(nomatch z),fun i z=>(nomatch z),fun {ρ ρ' r} le h=>?_⟩⟩
    ·obtain ⟨xs,rfl,dc⟩:=go le h
     exact dc.de
    ·obtain ⟨c',rfl,dc⟩:=hcx le h
     exact ⟨fun d hd=>by cases hd;exact dc.pe.de,fun c hc=>by cases hc;exact dc.pe,by intro d z;cases z⟩
   ·cases h
  ·cases h
 ·
  split at h
  ·rename_i kx vx tg it scope _ hn
   simp only [Bool.and_eq_true] at hn
   split at h
   ·rename_i t i kk vv h1 h2 h3 h4
    cases h
    have go:=fun {ρ ρ':Rho} {d:D} (le:Le ρ ρ') (h:ev G cl (.cT (ownOf scope).length ((aM scope N).map (·.2)) t i kk vv) ρ=some d)=>rQ (pos:=‹Pos›) ih xe hn.1 hn.2 h1 h2 h3 h4 le h
    have hcx:∀{ρ ρ':Rho} {r:Rs},Le ρ ρ'->evV G cl (.cT (ownOf scope).length ((aM scope N).map (·.2)) t i kk vv) ρ=some r->∃c,r=.fr c∧DCx X ρ' (.DictComp kx vx [⟨tg,it,[],0⟩] scope ‹Pos›) c:=fun {ρ ρ' r} le h=>by
     unfold evV at h
     dsimp only at h
     split at h
     ·rename_i es hx
      cases h
      obtain ⟨ys,e,dc⟩:=go le hx
      cases e
      exact ⟨_,rfl,dc⟩
     ·cases h
    refine ⟨rfl,(fun z=>nomatch z),⟨fun le h=>?_,fun le h=>(by unfold evT at h;cases h),fun le ht h=>(by unfold evI at h;cases h),fun _ le h=>hcx le h,fun i z=>(nomatch z),fun i z=>(nomatch z),fun {ρ ρ' r} le h=>?_⟩⟩
    ·obtain ⟨es,rfl,dc⟩:=go le h
     exact dc.pe.de
    ·obtain ⟨c',rfl,dc⟩:=hcx le h
     exact ⟨fun d hd=>by cases hd;exact dc.pe.de,fun c hc=>by cases hc;exact dc.pe,by intro d z;cases z⟩
   ·cases h
  ·cases h
 ·cases h
theorem wo (R:Row P wd K mg base G) (C:Calls P wd K mg base G kc cl) (hk:kc+2<=k):∀n,All P wd K mg base G cl k n:=by
 intro n
 induction n with
 |zero=>exact ⟨fun X sc N w xe e ce h=>(by unfold cE at h;cases h),fun X sc N w xe es ces h=>(by unfold cA at h;cases h),fun X sc N w xe op es ce h=>(by unfold cB at h;cases h),fun X sc N w xe oe ce h=>(by unfold cO at h;cases h),fun X sc N w xe ifs ce h=>(by unfold cIf at h;cases h),fun X sc N w xe gens elt ce h=>(by unfold cG at h;cases h)⟩
 |succ n ih=>
  exact ⟨fun X sc N w xe e ce h=>z7 R C hk ih xe h,fun X sc N w xe es ces h=>zk ih xe h,fun X sc N w xe op es ce h=>zw ih xe h,fun X sc N w xe oe ce h ρ ρ' l le hl=>zy ih xe h le hl,fun X sc N w xe ifs ce h ρ ρ' b le hl=>zL ih xe h le hl,
   fun X sc N w xe gens elt ce h full m hf scope pos ρ ρ' out acc le ho=>z9 ih xe h hf le ho⟩
end
end IN
namespace IN
open PySem PySem.Spec PySem.W L2 CT
open PyProof.Rows hiding St
noncomputable def tr (z dx:Addr):Sl->Sl
 |.new C _ _ fs=>.new C z dx fs
 |s=>s
noncomputable abbrev trR (z dx:Addr) (ρ:Rho):Rho:=ρ.map (tr z dx)
section
variable {z dx:Addr} {ρ:Rho}
theorem oH {i:Nat} {d:D} (h:ρ[i]?=some (.val d)):(trR z dx ρ)[i]?=some (.val d):=by rw [List.getElem?_map,h];rfl
theorem bV {i:Nat} {c:Ow} (h:ρ[i]?=some (.owx c)):(trR z dx ρ)[i]?=some (.owx c):=by rw [List.getElem?_map,h];rfl
theorem bF:Le ρ (trR z dx ρ):=⟨by simp,fun i d h=>oH h,fun i h=>by rw [List.getElem?_map,h];rfl⟩
theorem bG {i:Nat} {s:Sl}:trR z dx (ρ.set i s)=(trR z dx ρ).set i (tr z dx s):=by unfold trR;rw [List.map_set]
theorem fi {i:Nat}:trR z dx (ρ.modify i au)=trR z dx ρ∨∃c,ρ[i]?=some (.owx c)∧trR z dx (ρ.modify i au)=(trR z dx ρ).set i (.val c.D):=by
 cases h:ρ[i]? with
 |none=>
  left
  rw [List.modify_eq_self (by simpa using h)]
 |some s=>
  have hi:=(List.getElem?_eq_some_iff.mp h).1
  have e:ρ.modify i au=ρ.set i (au s):=by
   refine List.ext_getElem? fun j=>?_
   rw [List.getElem?_modify]
   by_cases hj:i=j
   ·subst hj;rw [List.getElem?_set_self hi,h];simp
   ·rw [List.getElem?_set_ne hj];simp [hj]
  cases s with
  |owx c=>right;exact ⟨c,rfl,by rw [e,bG];rfl⟩
  |_=>
   left
   rw [e]
   congr 1
   refine List.ext_getElem? fun j=>?_
   by_cases hj:i=j
   ·subst hj;rw [List.getElem?_set_self hi,h];rfl
   ·rw [List.getElem?_set_ne hj]
end
section
variable {X:Cx} {ρ:Rho} {e:Expr} {d:D} {i:Nat} {c c':Ow} {xs:List D} {st:Stmt} {o:Out}
theorem aq.cF {K:Frag} {H:Hp} {S:Ad} {a:Addr} {ob:HO} (cc:fD a ob) (ha:H a=some ob):∀(es:List (CT.PK×D)) {kvs:List (CT.PK×Addr×V)},(es.all fun p=>ai p.2)=true->aq K H S es kvs->aq K H (S.and a) es kvs
 |[],_,_,r=>by cases r;exact .nil
 |(k,d)::es,_,h,r=>by
  have h':ai d=true∧(es.all fun p=>ai p.2)=true:=by simpa using h
  have nk:∀k:CT.PK,ai (CT.PK.d k)=true:=by
   intro k
   exact CT.PK.rec (motive_1:=fun k=>ai (CT.PK.d k)=true) (motive_2:=fun l=>aO (CT.PK.dL l)=true) (fun n=>rfl) (fun l ih=>ih) rfl (fun k l h1 h2=>by show (ai (CT.PK.d k)&&aO (CT.PK.dL l))=true;rw [h1,h2];rfl) k
  cases r with
  |cons hd kk r t=>exact .cons hd (Rds.cF cc ha _ (nk k) kk) (Rds.cF cc ha d h'.1 r) (aq.cF cc ha es h'.2 t)
theorem iP {K:Frag} {σ:L2.St} {H:Hp} {Q:VK} (hr:ρ[i]?=some (.owx c)) (hf:a9 c'=true):lQ K ρ c' σ H Q->lQ K (ρ.set i (.val c.D)) c' σ H Q:=fun ⟨S,ve,k⟩=>by
 obtain ⟨S',a,us,ha,cc,hS,ve'⟩:=ve.sZ hr
 refine ⟨S',ve',fun a' ob H' ex hn ha' r=>k a' ob H' ex hn ha' ?_⟩
 have hb:∀b,(S.and a') b->((S'.and a').and a) b:=fun b hb=>by
  rcases hb with hb|hb
  ·rcases hS b hb with z|z
   ·exact .inl (.inl z)
   ·exact .inr z
  ·exact .inl (.inr hb)
 have ha2:=ex _ _ (fun z=>z) ha
 cases c' with
 |l xs=>obtain ⟨vs,q,r⟩:=r;exact ⟨vs,q,(af.cF cc ha2 xs hf r).av fun b h=>.inl (hb b h)⟩
 |d es=>obtain ⟨ep,vs,q,r⟩:=r;exact ⟨ep,vs,q,(aq.cF cc ha2 es hf r).av fun b h=>.inl (hb b h)⟩
theorem kn (hr:ρ[i]?=some (.owx c)) (hf:a9 c'=true) (h:DFx X (ρ.set i (.val c.D)) e c'):DFx X ρ e c':=PE.weak h fun σ H Q=>iP hr hf
theorem pv (hr:ρ[i]?=some (.owx c)) (hf:a9 c'=true) (h:DCx X (ρ.set i (.val c.D)) e c'):DCx X ρ e c':=
 ⟨kn hr hf h.pe,fun j x pos' spos hN hix hx hl hsw=>PS.weak (h.ps j x pos' spos hN hix hx hl hsw) fun D σ H q=>iP (Q:=fun x H1=>dZ j x σ H1 D.nx) hr hf q⟩
theorem vj (hr:ρ[i]?=some (.owx c)) (h:DS X (ρ.set i (.val c.D)) st o):DS X ρ st o:=PS.weak h fun E σ H ⟨H₀,S₀,S,f,k⟩=>by
 obtain ⟨S',_,f'⟩:=f.give hr
 exact ⟨H₀,S₀,S',f',k⟩
variable {z dx:Addr}
theorem aQ:∀{L:List Nat} {ρ:Rho},DS X (trR z dx (ae L ρ)) st o->DS X (trR z dx ρ) st o
 |[],_,h=>h
 |i::L,ρ,h=>by
  have h':=aQ (L:=L) (ρ:=ρ.modify i au) h
  rcases fi (z:=z) (dx:=dx) (ρ:=ρ) (i:=i) with e|⟨c,hc,e⟩
  ·rw [e] at h';exact h'
  ·rw [e] at h';exact vj (bV hc) h'
theorem bK (hn:ai d=true):∀{L:List Nat} {ρ:Rho},DE X (trR z dx (ae L ρ)) e d->DE X (trR z dx ρ) e d
 |[],_,h=>h
 |i::L,ρ,h=>by
  have h':=bK hn (L:=L) (ρ:=ρ.modify i au) h
  rcases fi (z:=z) (dx:=dx) (ρ:=ρ) (i:=i) with e|⟨c,hc,e⟩
  ·rw [e] at h';exact h'
  ·rw [e] at h';exact sj (bV hc) hn h'
theorem gw (hn:a9 c'=true):∀{L:List Nat} {ρ:Rho},DFx X (trR z dx (ae L ρ)) e c'->DFx X (trR z dx ρ) e c'
 |[],_,h=>h
 |i::L,ρ,h=>by
  have h':=gw hn (L:=L) (ρ:=ρ.modify i au) h
  rcases fi (z:=z) (dx:=dx) (ρ:=ρ) (i:=i) with e|⟨c,hc,e⟩
  ·rw [e] at h';exact h'
  ·rw [e] at h';exact kn (bV hc) hn h'
theorem jW (hn:a9 c'=true):∀{L:List Nat} {ρ:Rho},DCx X (trR z dx (ae L ρ)) e c'->DCx X (trR z dx ρ) e c'
 |[],_,h=>h
 |i::L,ρ,h=>by
  have h':=jW hn (L:=L) (ρ:=ρ.modify i au) h
  rcases fi (z:=z) (dx:=dx) (ρ:=ρ) (i:=i) with e|⟨c,hc,e⟩
  ·rw [e] at h';exact h'
  ·rw [e] at h';exact pv (bV hc) hn h'
theorem fQ {q:Bool}:∀{L:List Nat} {ρ:Rho},DT X (trR z dx (ae L ρ)) e q->DT X (trR z dx ρ) e q
 |[],_,h=>h
 |i::L,ρ,h=>by
  have h':=fQ (L:=L) (ρ:=ρ.modify i au) h
  rcases fi (z:=z) (dx:=dx) (ρ:=ρ) (i:=i) with e|⟨c,hc,e⟩
  ·rw [e] at h';exact h'
  ·rw [e] at h';exact tG (bV hc) h'
theorem kl {C a b:Addr} {fs:List (Str×D)}:∀{L:List Nat} {ρ:Rho} {j:Nat},ρ[j]?=some (.new C a b fs)->(ae L ρ)[j]?=some (.new C a b fs)
 |[],_,_,h=>h
 |i::L,ρ,j,h=>by
  refine kl (L:=L) (ρ:=ρ.modify i au) ?_
  rw [List.getElem?_modify,h]
  split<;>rfl
end
end IN
namespace IN
open PySem PySem.Spec PySem.W L2 CT
open PyProof.Rows hiding St
section
variable {X:Cx} {ρ ρ':Rho} {e tg:Expr} {d:D} {pos:Pos} {ks:List Nat}
theorem mh (he:DE X ρ e d) (hg:DG X tg ρ d ρ' ks) (ht:cn ρ ρ' ks) (hs:swapsWithSole [tg] e pos.line X.env=pure false) (hw:swappedStores [tg] e X.env=pure none) (h1:(assignEach [tg] X.env).map (·.2)=[assign tg X.env]):
  DS X ρ (.Assign [tg] e pos) (.nx ρ'):=PS.weak (xT he hg hs hw h1) fun E σ H ⟨H₀,S₀,S,f,k⟩=>⟨S,f.ve,fun v H' ex r=>⟨S,(f.grow ex).ve,r,fun σ' ve' c=>k σ' H' S ((f.grow ex).tgt ve' c ht)⟩⟩
theorem oN {i j:Nat} {x y:Str} {a b:Expr} {da db:D} {px py pt:Pos} {kt k2 pt2} (hc:X.calm=true) (hN:X.N.Nodup) (hi:X.N[i]?=some x) (hj:X.N[j]?=some y) (hij:i≠j)
  (hx:X.env.scope.names.lookup x=some .local) (hy:X.env.scope.names.lookup y=some .local) (ha:DA X ρ [a,b] [da,db])
  (hw:swappedStores [.Tuple [.Name x px,.Name y py] kt pt] (.Tuple [a,b] k2 pt2) X.env=pure (some [x,y])):
  DS X ρ (.Assign [.Tuple [.Name x px,.Name y py] kt pt] (.Tuple [a,b] k2 pt2) pos) (.nx ((ρ.set i (.val da)).set j (.val db))):=
 PS.weak (wZ hc hN hi hj hij hx hy ha hw) fun E σ H ⟨H₀,S₀,S,f,k⟩=>⟨S,f.ve,fun vs H' ex rs=>by
  obtain ⟨v,u,rfl,r1,r2⟩:=rs.two
  exact ⟨v,u,rfl,k _ H' S (((f.grow ex).set r1).set r2)⟩⟩
theorem Fm.move {K:Frag} {H₀ H:Hp} {S₀ S:Ad} {σ:L2.St} {i j:Nat} {c:Ow} {a:Addr} (f:Fm K H₀ S₀ H S ρ σ) (hij:i≠j) (hr:ρ[i]?=some (.owx c)) (hs:σ[i]?=some (some (.ref a))):Fm K H₀ S₀ H S ((ρ.set i .any).set j (.owx c)) (σ.set j (some (.ref a))):=by
 have key:∀(m:Nat) (x:Sl),((ρ.set i .any).set j (.owx c))[m]?=some x->(j=m∧x=.owx c∧j<ρ.length)∨(j≠m∧i=m∧x=.any)∨(j≠m∧i≠m∧ρ[m]?=some x):=fun m x h=>by
  by_cases hm:j=m
  ·subst hm
   have hj:j<ρ.length:=by have:=(List.getElem?_eq_some_iff.mp h).1;simpa using this
   rw [List.getElem?_set_self (by simpa using hj)] at h
   exact .inl ⟨rfl,(Option.some.inj h).symm,hj⟩
  ·rw [List.getElem?_set_ne hm] at h
   by_cases hi:i=m
   ·subst hi
    have hi':i<ρ.length:=(List.getElem?_eq_some_iff.mp hr).1
    rw [List.getElem?_set_self hi'] at h
    exact .inr (.inl ⟨hm,rfl,(Option.some.inj h).symm⟩)
   ·rw [List.getElem?_set_ne hi] at h
    exact .inr (.inr ⟨hm,hi,h⟩)
 obtain ⟨v,q1,q2⟩:=f.ve.rel i _ hr
 refine ⟨⟨by simpa using f.ve.len,fun m x h=>?_,fun m k x y b hmk h1 h2 o1 o2 h3 h4=>?_,f.ve.dom⟩,f.ext,f.sub,f.new,f.dm,fun m x b h o h2=>?_⟩
 ·rcases key m x h with ⟨rfl,rfl,hj⟩|⟨hm,rfl,rfl⟩|⟨hm,hi,h'⟩
  ·rw [hs] at q1;cases q1
   exact ⟨_,List.getElem?_set_self (f.ve.len▸hj),q2⟩
  ·rw [List.getElem?_set_ne hm];exact ⟨_,hs,trivial⟩
  ·rw [List.getElem?_set_ne hm];exact f.ve.rel m x h'
 ·rcases key m x h1 with ⟨rfl,rfl,hj⟩|⟨hm,rfl,rfl⟩|⟨hm,hi,h1'⟩
  ·rw [List.getElem?_set_self (f.ve.len▸hj)] at h3
   cases h3
   rcases key k y h2 with ⟨rfl,_,_⟩|⟨hk,rfl,rfl⟩|⟨hk,hi,h2'⟩
   ·exact hmk rfl
   ·exact o2
   ·rw [List.getElem?_set_ne hk] at h4
    exact f.ve.dist i k _ y a hi hr h2' trivial o2 hs h4
  ·exact o1
  ·rw [List.getElem?_set_ne hm] at h3
   rcases key k y h2 with ⟨rfl,rfl,hj⟩|⟨hk,rfl,rfl⟩|⟨hk,hi2,h2'⟩
   ·rw [List.getElem?_set_self (f.ve.len▸hj)] at h4
    cases h4
    exact f.ve.dist m i x _ a (Ne.symm hi) h1' hr o1 trivial h3 hs
   ·exact o2
   ·rw [List.getElem?_set_ne hk] at h4
    exact f.ve.dist m k x y b hmk h1' h2' o1 o2 h3 h4
 ·rcases key m x h with ⟨rfl,rfl,hj⟩|⟨hm,rfl,rfl⟩|⟨hm,hi,h'⟩
  ·rw [List.getElem?_set_self (f.ve.len▸hj)] at h2
   cases h2
   exact f.own i _ a hr trivial hs
  ·exact o.elim
  ·rw [List.getElem?_set_ne hm] at h2
   exact f.own m x b h' o h2
theorem uc {i j:Nat} {x y:Str} {p q:Pos} {c:Ow} (hN:X.N.Nodup) (hi:X.N[i]?=some y) (hj:X.N[j]?=some x) (hij:i≠j) (hv:Vis X.env.scope y) (hx:L2.Loc X.env.scope x) (hf:X.fn x=true∨X.env.scope.names.lookup x=some .local) (hr:ρ[i]?=some (.owx c))
  (hd:(y==("__debug__":Str))=false) (hcd:(y==("__classdict__":Str))=false):DS X ρ (.Assign [.Name x p] (.Name y q) pos) (.nx ((ρ.set i .any).set j (.owx c))):=
 PS.weak (kZ hN hj hx (fm hi hv hd hcd) rfl hf) fun E σ H ⟨H₀,S₀,S,f,k⟩=>by
  obtain ⟨v,h1,a,o,rfl,sa,ha,r⟩:=f.ve.rel i _ hr
  exact ⟨_,h1,k _ H S (Fm.move f hij hr h1)⟩
theorem cK {t:Option Expr} {l:Nat} {env:Env} (h:bU e=false):swapsWith e t l env=pure false:=by
 cases e<;>first|rfl|cases h
theorem A4 {env:Env} (h:br tg=true):(assignEach [tg] env).map (·.2)=[assign tg env]:=by rw [hX h];rfl
theorem wa {sc:Scope} {env:Env} (hsc:env.scope=sc) (h:gP sc tg e=true):swappedStores [tg] e env=pure none:=by
 unfold gP at h
 split at h
 ·rename_i ts _ _ vs _ _
  have h1:=(Bool.and_eq_true_iff.mp (Bool.and_eq_true_iff.mp (Bool.and_eq_true_iff.mp h).1).1).1
  unfold swappedStores
  dsimp only
  split
  ·rfl
  ·split
   ·rfl
   ·have e:∀id:Str,env.kindOf id=sc.names.lookup id:=fun id=>by rw [←hsc];rfl
    simp only [e]
    rw [if_pos]
    exact Bool.or_eq_true_iff.mpr (.inl h1)
 ·rename_i ts _ _ hne
  unfold swappedStores
  cases e<;>first|rfl|exact absurd rfl (hne _ _ _)
 ·unfold swappedStores
  cases e<;>rfl
 ·cases h
end
mutual
theorem fX {z dx:Addr}:∀{t:Tg} {d:D} {ρ ρ1:Rho},ag t d ρ=some ρ1->ag t d (trR z dx ρ)=some (trR z dx ρ1)
 |.nm k,d,ρ,ρ1,h=>by
  unfold ag at h ⊢
  split at h
  ·rename_i hk
   cases h
   rw [if_pos (by simpa using hk),bG];rfl
  ·cases h
 |.tp ts,.tup ds,ρ,ρ1,h=>by
  unfold ag at h ⊢
  exact j9 h
 |.tp _,.non,_,_,h=>by unfold ag at h;cases h
 |.tp _,.bl _,_,_,h=>by unfold ag at h;cases h
 |.tp _,.int _,_,_,h=>by unfold ag at h;cases h
 |.tp _,.str _,_,_,h=>by unfold ag at h;cases h
 |.tp _,.lst _,_,_,h=>by unfold ag at h;cases h
 |.tp _,.ins _ _,_,_,h=>by unfold ag at h;cases h
 |.tp _,.exc _ _,_,_,h=>by unfold ag at h;cases h
 |.tp _,.ty _,_,_,h=>by unfold ag at h;cases h
 |.tp _,.cl _,_,_,h=>by unfold ag at h;cases h
 |.tp _,.dct _,_,_,h=>by unfold ag at h;cases h
 |.tp _,.pdc _,_,_,h=>by unfold ag at h;cases h
theorem j9 {z dx:Addr}:∀{ts:List Tg} {ds:List D} {ρ ρ1:Rho},aN ts ds ρ=some ρ1->aN ts ds (trR z dx ρ)=some (trR z dx ρ1)
 |[],[],ρ,ρ1,h=>by unfold aN at h ⊢;cases h;rfl
 |t::ts,d::ds,ρ,ρ1,h=>by
  unfold aN at h ⊢
  split at h
  ·rename_i ρ2 h2
   rw [fX h2]
   exact j9 h
  ·cases h
 |[],_::_,_,_,h=>by unfold aN at h;cases h
 |_::_,[],_,_,h=>by unfold aN at h;cases h
end
theorem pB:∀{d:D} {k:CT.PK},b7 d=some k->ai d=true:=by
 intro d k h
 have nk:∀k:CT.PK,ai (CT.PK.d k)=true:=by
  intro k
  exact CT.PK.rec (motive_1:=fun k=>ai (CT.PK.d k)=true) (motive_2:=fun l=>aO (CT.PK.dL l)=true) (fun n=>rfl) (fun l ih=>ih) rfl (fun k l h1 h2=>by show (ai (CT.PK.d k)&&aO (CT.PK.dL l))=true;rw [h1,h2];rfl) k
 rw [←eB h];exact nk k
end IN
namespace IN
open PySem PySem.Spec PySem.W L2 CT
open PyProof.Rows hiding St
noncomputable def S1 (X:Cx) (z dx:Addr) (st:Stmt) (ρ:Rho):Oc->Prop
 |.nx ρ'=>DS X (trR z dx ρ) st (.nx (trR z dx ρ'))
 |.rt d=>DS X (trR z dx ρ) st (.rt d)
 |.fr c=>DS X (trR z dx ρ) st (.rfx c)
 |.xc ρ' d=>DSX X (trR z dx ρ) st (trR z dx ρ') d
noncomputable def SS (X:Cx) (z dx:Addr) (sts:List Stmt) (ρ:Rho):Oc->Prop
 |.nx ρ'=>DSs X (trR z dx ρ) sts (.nx (trR z dx ρ'))
 |.rt d=>DSs X (trR z dx ρ) sts (.rt d)
 |.fr c=>DSs X (trR z dx ρ) sts (.rfx c)
 |.xc ρ' d=>ya X (trR z dx ρ) sts (trR z dx ρ') d
section
variable {X:Cx} {z dx:Addr} {st:Stmt} {sts:List Stmt} {ρ ρ1:Rho} {o:Oc} {L:List Nat}
theorem S1.cons (hx:∀e s,¬X.xe e s) (h1:S1 X z dx st ρ (.nx ρ1)) (h2:SS X z dx sts ρ1 o):SS X z dx (st::sts) ρ o:=by
 cases o with
 |nx ρ'=>exact iB h1 h2
 |rt d=>exact iB h1 h2
 |fr c=>exact iB h1 h2
 |xc ρ' d=>exact trivial
theorem S1.last (h1:S1 X z dx st ρ o) (hn:∀ρ',o≠.nx ρ'):SS X z dx (st::sts) ρ o:=by
 cases o with
 |nx ρ'=>exact absurd rfl (hn ρ')
 |rt d=>exact mL h1 trivial
 |fr c=>exact mL h1 trivial
 |xc ρ' d=>exact trivial
theorem S1.give (h:S1 X z dx st (ae L ρ) o):S1 X z dx st ρ o:=by
 cases o with
 |nx ρ'=>exact aQ h
 |rt d=>exact aQ h
 |fr c=>exact aQ h
 |xc ρ' d=>exact trivial
end
section
variable {ca:Bool} {P:Program} {wd:World} {K:Frag} {mg:Str->Option Value} {base:Heap} {G:Prg} {cl:Str->List D->Option Rs} {k kc n:Nat} {X:Cx} {sc:Scope} {N:List Str} {w:Nat} {ce:CE} {z dx:Addr} {ρ:Rho} {pos:Pos}
theorem lP {tg:Expr} {i:Nat} (h:cTg sc N n tg=some (.nm i)):∃x p,tg=.Name x p∧idx N x=some i∧cj x=true∧mX sc x=true:=by
 cases n with
 |zero=>unfold cTg at h;cases h
 |succ n=>
  unfold cTg at h
  split at h
  ·rename_i x p
   split at h
   ·rename_i hx
    simp only [Bool.and_eq_true] at hx
    cases hi:idx N x with
    |none=>rw [hi] at h;cases h
    |some j=>rw [hi] at h;cases h;exact ⟨x,p,rfl,hi,hx.1,hx.2⟩
   ·cases h
  ·split at h
   ·cases hq:eC sc N n ‹_› with
    |none=>rw [hq] at h;cases h
    |some ts=>rw [hq] at h;cases h
   ·cases h
  ·cases h
theorem XE.lt (xe:XE ca P wd K mg base X sc N w k) {x:Str} {i:Nat} (h:idx N x=some i):i<N.length:=by
 have:=xe.at h
 rw [xe.N_] at this
 exact (List.getElem?_eq_some_iff.mp this).1
theorem XE.fnx (xe:XE ca P wd K mg base X sc N N.length k) {x:Str} {i:Nat} (h:idx N x=some i):X.fn x=true:=by
 have:=xe.at h
 rw [xe.N_] at this
 exact xe.fn i x (xe.lt h) this
theorem XE.ndX (xe:XE ca P wd K mg base X sc N w k):X.N.Nodup:=by rw [xe.N_];exact xe.nd
mutual
theorem k_:∀{n:Nat} {tg:Expr} {t:Tg},(∀x i,idx N x=some i->i<N.length)->cTg sc N n tg=some t->∀j∈tks t,j<N.length
 |0,_,_,_,h=>by unfold cTg at h;cases h
 |n+1,tg,t,lt,h=>by
  unfold cTg at h
  split at h
  ·rename_i x p
   split at h
   ·cases hi:idx N x with
    |none=>rw [hi] at h;cases h
    |some i=>rw [hi] at h;cases h;intro j hj;rw [List.mem_singleton.mp (show j∈[i] from hj)];exact lt x i hi
   ·cases h
  ·rename_i es _ _
   split at h
   ·cases hq:eC sc N n es with
    |none=>rw [hq] at h;cases h
    |some ts=>rw [hq] at h;cases h;exact fun j hj=>mJ lt hq j hj
   ·cases h
  ·cases h
theorem mJ:∀{n:Nat} {tgs:List Expr} {ts:List Tg},(∀x i,idx N x=some i->i<N.length)->eC sc N n tgs=some ts->∀j∈eh ts,j<N.length
 |0,_,_,_,h=>by unfold eC at h;cases h
 |n+1,tgs,ts,lt,h=>by
  unfold eC at h
  split at h
  ·cases h;intro j hj;cases hj
  ·split at h
   ·rename_i t ts' h1 h2
    cases h
    intro j hj
    rcases List.mem_append.mp (show j∈tks t++eh ts' from hj) with q|q
    ·exact k_ lt h1 j q
    ·exact mJ lt h2 j q
   ·cases h
end
theorem yt (xe:XE true P wd K mg base X sc N N.length k) {tg e:Expr} {t:Tg} {L:List Nat} (hm:∃n,cTg sc N n tg=some t) (oe:OkE G cl X e ce) (hsw:gP sc tg e=true) (hcm:(!bU e||!oZ tg)=true) {o:Oc} (h:ab G cl (.asg t ce L) ρ=some o):
  S1 X z dx (.Assign [tg] e pos) ρ o:=by
 obtain ⟨m,hm⟩:=hm
 obtain ⟨ns,tok⟩:=(iI xe m).1 tg t hm
 have lt:=k_ (N:=N) (fun x i h=>xe.lt h) hm
 have hw:=wa xe.sc_ hsw
 have h1:=A4 (env:=X.env) ns
 unfold ab at h
 cases hv:evV G cl ce (ae L ρ) with
 |none=>rw [hv] at h;cases h
 |some r=>
  rw [hv] at h
  obtain ⟨w1,w2,w3⟩:=oe.w (ρ':=trR z dx (ae L ρ)) bF hv
  cases hc:bU e with
  |false=>
   have hs:swapsWithSole [tg] e pos.line X.env=pure false:=cK hc
   cases r with
   |ok d=>
    dsimp only at h
    split at h
    ·rename_i ρ' hb
     cases h
     cases hn:ai d with
     |true=>
      rw [hn] at hb
      obtain ⟨g1,g2⟩:=tok _ d _ (fX (z:=z) (dx:=dx) hb) lt
      exact mh (bK hn (w1 d rfl)) g1 g2 hs hw h1
     |false=>
      rw [hn] at hb
      obtain ⟨g1,g2⟩:=tok _ d _ (fX (z:=z) (dx:=dx) hb) lt
      exact aQ (mh (w1 d rfl) g1 g2 hs hw h1)
    ·cases h
   |fr c=>
    dsimp only at h
    split at h
    ·rename_i i
     split at h
     ·cases h
      obtain ⟨x,p,rfl,hi,hok,hl⟩:=lP hm
      show DS X _ _ (.nx (trR z dx _))
      rw [bG]
      cases hn:a9 c with
      |true=>exact ir xe.ndX (xe.at hi) (xe.loc hl) (gw hn (w2 c rfl)) (cK hc) (.inl (xe.fnx hi))
      |false=>exact aQ (ir xe.ndX (xe.at hi) (xe.loc hl) (w2 c rfl) (cK hc) (.inl (xe.fnx hi)))
     ·cases h
    ·cases h
   |xc d=>
    cases h
    exact trivial
  |true=>
   obtain ⟨c,rfl,dc⟩:=oe.c (ρ':=trR z dx (ae L ρ)) hc bF hv
   dsimp only at h
   split at h
   ·rename_i i
    split at h
    ·cases h
     obtain ⟨x,p,rfl,hi,hok,hl⟩:=lP hm
     show DS X _ _ (.nx (trR z dx _))
     rw [bG]
     obtain ⟨bb,hbb⟩:∃bb,swapsWith e (some (.Name x p)) pos.line X.env=pure bb:=by
      cases e<;>first|(cases hc;done)|exact ⟨_,rfl⟩
     have key:∀{ρ0:Rho},DCx X (trR z dx ρ0) e c->DS X (trR z dx ρ0) (.Assign [.Name x p] e pos) (.nx ((trR z dx ρ0).set i (.owx c))):=fun {ρ0} dc=>by
      cases bb with
      |true=>exact rW xe.ndX (xe.at hi) (xe.loc hl) dc hbb (.inl (xe.fnx hi))
      |false=>exact ir xe.ndX (xe.at hi) (xe.loc hl) dc.pe hbb (.inl (xe.fnx hi))
     cases hn:a9 c with
     |true=>exact key (jW hn dc)
     |false=>exact aQ (key dc)
    ·cases h
   ·cases h
end
end IN
namespace IN
open PySem PySem.Spec PySem.W L2 CT
open PyProof.Rows hiding St
structure XF (P:Program) (wd:World) (K:Frag) (mg:Str->Option Value) (base:Heap) (X:Cx) (sc:Scope) (N:List Str) (k:Nat):Prop where
 xe:XE true P wd K mg base X sc N N.length k
 pass:PassesOwn (model X.prog X.w) X.A X.env X.xe
 hst:X.stack=X.env::X.outer
 hfr:X.env.frame=some X.env.locals
 blk:X.env.blockKind=.function
noncomputable def zM:CS'->Bool
 |.asg _ _ _=>false|.ife _ _ _ _=>false|.for _ _ _ _=>false|.whl _ _ _=>false|.try _ _ _ _=>false
 |_=>true
theorem bu {s s':CS'} (h:s'=er1 s) (hf:zM s'=true):s=s':=by
 subst h
 cases s<;>first|(unfold er1;rfl)|(unfold er1 at hf;cases hf)
theorem yI {s:CS'} {t e L} (h:CS'.asg t e L=er1 s):s=.asg t e L∨∃j i,s=.mov j i∧t=.nm j∧e=.var i:=by
 cases s<;>first|(unfold er1 at h;cases h;done)|(unfold er1 at h;cases h;exact .inl rfl)|(unfold er1 at h;cases h;exact .inr ⟨_,_,rfl,rfl,rfl⟩)
theorem zW {s:CS'} {c L a b} (h:CS'.ife c L a b=er1 s):∃a' b',s=.ife c L a' b'∧erL a'=a∧erL b'=b:=by
 cases s<;>first|(unfold er1 at h;cases h;done)|(unfold er1 at h;cases h;exact ⟨_,_,rfl,rfl,rfl⟩)
theorem xt {s:CS'} {t it L b} (h:CS'.for t it L b=er1 s):∃b',s=.for t it L b'∧erL b'=b:=by
 cases s<;>first|(unfold er1 at h;cases h;done)|(unfold er1 at h;cases h;exact ⟨_,rfl,rfl⟩)
theorem xR {s:CS'} {c L b} (h:CS'.whl c L b=er1 s):∃b',s=.whl c L b'∧erL b'=b:=by
 cases s<;>first|(unfold er1 at h;cases h;done)|(unfold er1 at h;cases h;exact ⟨_,rfl,rfl⟩)
structure v9 (G:Prg) (cl:Str->List D->Option Rs) (X:Cx) (sc:Scope) (N:List Str) (z dx:Addr) (n:Nat):Prop where
 s:∀st s,cS1 n sc N st=some (er1 s)->∀ρ o,ab G cl s ρ=some o->S1 X z dx st ρ o
 b:∀sts b,cS n sc N sts=some (erL b)->∀ρ o,run G cl b ρ=some o->SS X z dx sts ρ o
section
variable {ca:Bool} {P:Program} {wd:World} {K:Frag} {mg:Str->Option Value} {base:Heap} {G:Prg} {cl:Str->List D->Option Rs} {k kc n:Nat} {X:Cx} {sc:Scope} {N:List Str} {w:Nat} {ce:CE} {z dx:Addr} {ρ:Rho} {pos:Pos}
theorem ql {s:CS'} {r:List CS'} {o:Oc} (h:run G cl (s::r) ρ=some o):(∃ρ1,ab G cl s ρ=some (.nx ρ1)∧run G cl r ρ1=some o)∨(ab G cl s ρ=some o∧∀ρ',o≠.nx ρ'):=by
 unfold run at h
 split at h
 ·rename_i ρ1 h1;exact .inl ⟨ρ1,h1,h⟩
 ·rename_i hne
  exact .inr ⟨h,fun ρ' q=>by subst q;exact hne ρ' h⟩
theorem y6 (hx:∀e s,¬X.xe e s) {st:Stmt} {sts:List Stmt} {s:CS'} {r:List CS'} (h1:∀ρ o,ab G cl s ρ=some o->S1 X z dx st ρ o) (h2:∀ρ o,run G cl r ρ=some o->SS X z dx sts ρ o) {o:Oc} (h:run G cl (s::r) ρ=some o):SS X z dx (st::sts) ρ o:=by
 rcases ql h with ⟨ρ1,a,b⟩|⟨a,b⟩
 ·exact S1.cons hx (h1 _ _ a) (h2 _ _ b)
 ·exact S1.last (h1 _ _ a) b
theorem S1.if (hx:∀e s,¬X.xe e s) {c:Expr} {q:Bool} {a b:List Stmt} {o:Oc} (hc:DT X (trR z dx ρ) c q) (ha:q=true->SS X z dx a ρ o) (hb:q=false->SS X z dx b ρ o):S1 X z dx (.If c a b pos) ρ o:=by
 cases o with
 |nx ρ'=>exact ny hc ha hb
 |rt d=>exact ny hc ha hb
 |fr c=>exact ny hc ha hb
 |xc ρ' d=>exact trivial
theorem qL {e:CE} {L:List Nat} {o:Oc} (h:ab G cl (.ret e L) ρ=some o):(∃i c,e=.var i∧ρ[i]?=some (.owx c)∧o=.fr c)∨∃r,evV G cl e (ae L ρ)=some r∧o=(match r with|.ok d=>.rt d|.fr c=>.fr c|.xc d=>.xc (ae L ρ) d):=by
 unfold ab at h
 split at h
 ·rename_i c hc
  cases h
  split at hc
  ·rename_i i
   split at hc
   ·rename_i c' hq;cases hc;exact .inl ⟨i,_,rfl,hq,rfl⟩
   ·cases hc
  ·cases hc
 ·right
  split at h
  ·rename_i d hd;cases h;exact ⟨_,hd,rfl⟩
  ·rename_i d hd;cases h;exact ⟨_,hd,rfl⟩
  ·rename_i d hd;cases h;exact ⟨_,hd,rfl⟩
  ·cases h
theorem lD {X:Cx} {ρ:Rho} {e:Expr} {c:Ow} {pos:Pos} (h:DFx X ρ e c) (hs:swapsWith e none pos.line X.env=pure false):DS X ρ (.Expr e pos) (.nx ρ):=PS.weak (jF h hs) fun E σ H ⟨H₀,S₀,S,f,k⟩=>⟨S,f.ve,fun a o H' ex hn ha r=>k σ H' S (f.grow ex)⟩
theorem n4 {e:Expr} {L:List Nat} (oe:OkE G cl X e ce) (hc:bU e=false) {o:Oc} (hr:ab G cl (.exp ce L) ρ=some o):S1 X z dx (.Expr e pos) ρ o:=by
 unfold ab at hr
 cases hv:evV G cl ce (ae L ρ) with
 |none=>rw [hv] at hr;cases hr
 |some r=>
  rw [hv] at hr
  obtain ⟨w1,w2,w3⟩:=oe.w (ρ':=trR z dx (ae L ρ)) bF hv
  cases r with
  |ok d=>
   cases hr
   cases hn:ai d with
   |true=>exact md (bK hn (w1 d rfl)) (cK hc)
   |false=>exact aQ (md (w1 d rfl) (cK hc))
  |fr c=>
   cases hr
   cases hn:a9 c with
   |true=>exact lD (gw hn (w2 c rfl)) (cK hc)
   |false=>exact aQ (lD (w2 c rfl) (cK hc))
  |xc d=>
   cases hr
   exact trivial
noncomputable def sV (z dx:Addr):Oc->Out
 |.nx ρ=>.nx (trR z dx ρ)|.rt d=>.rt d|.fr c=>.rfx c|.xc _ _=>.rt .non
theorem pK {tg:Expr} {t:Tg} {body:List Stmt} {b:List CS'} (tok:∀ρ d ρ1,ag t d ρ=some ρ1->DG X tg ρ d ρ1 (tks t)∧cn ρ ρ1 (tks t)) (hb:∀ρ o,run G cl b ρ=some o->SS X z dx body ρ o):
  ∀(its:List D) (ρ:Rho) (o:Oc),forL t (run G cl b) its ρ=some o->((∀ρ' d,o≠.xc ρ' d)->ip X tg body its (trR z dx ρ) (sV z dx o))∧∀ρe d,o=.xc ρe d->nI X tg body (trR z dx ρe) d its (trR z dx ρ)
 |[],ρ,o,h=>by
  unfold forL at h
  cases h
  exact ⟨fun _=>.nil _,fun _ _ z=>nomatch z⟩
 |d::ds,ρ,o,h=>by
  unfold forL at h
  split at h
  ·rename_i ρ1 h1
   obtain ⟨g1,g2⟩:=tok _ d _ (fX (z:=z) (dx:=dx) h1)
   split at h
   ·rename_i ρ2 h2
    obtain ⟨r1,r2⟩:=pK tok hb ds ρ2 o h
    have s1:DSs X (trR z dx ρ1) body (.nx (trR z dx ρ2)):=hb _ _ h2
    exact ⟨fun hx=>.cons g1 g2 s1 (r1 hx),fun ρe d' z=>.cons g1 g2 s1 (r2 ρe d' z)⟩
   ·rename_i hne
    have s1:=hb _ _ h
    cases o with
    |nx ρ'=>exact absurd h (hne ρ')
    |rt d'=>exact ⟨fun _=>.ret g1 g2 s1 trivial,fun _ _ z=>nomatch z⟩
    |fr c=>exact ⟨fun _=>.ret g1 g2 s1 trivial,fun _ _ z=>nomatch z⟩
    |xc ρe d'=>exact ⟨fun hx=>absurd rfl (hx ρe d'),fun ρe' d'' z=>by cases z;exact .here g1 g2 s1⟩
  ·cases h
theorem oK {c:Expr} {body:List Stmt} {b:List CS'} {L:List Nat} (hc:∀ρ q,evT G cl ce (ae L ρ)=some q->DT X (trR z dx ρ) c q) (hb:∀ρ o,run G cl b ρ=some o->SS X z dx body ρ o):
  ∀(m:Nat) (ρ:Rho) (o:Oc),hZ (fun ρ=>evT G cl ce (ae L ρ)) (run G cl b) m ρ=some o->(∀ρ' d,o≠.xc ρ' d)∧WhO X c body m (trR z dx ρ) (sV z dx o)
 |0,_,_,h=>by unfold hZ at h;cases h
 |m+1,ρ,o,h=>by
  unfold hZ at h
  split at h
  ·rename_i hq
   split at h
   ·rename_i ρ2 h2
    obtain ⟨n1,w1⟩:=oK hc hb m ρ2 o h
    exact ⟨n1,.turn (hc _ _ hq) (hb _ _ h2) w1⟩
   ·cases h
   ·rename_i hne hnx
    have s1:=hb _ _ h
    cases o with
    |nx ρ'=>exact absurd h (hne ρ')
    |rt d'=>exact ⟨(fun _ _ z=>nomatch z),.ret (hc _ _ hq) s1 trivial⟩
    |fr c=>exact ⟨(fun _ _ z=>nomatch z),.ret (hc _ _ hq) s1 trivial⟩
    |xc ρe d'=>exact absurd h (hnx ρe d')
  ·rename_i hq
   cases h
   exact ⟨(fun _ _ z=>nomatch z),.stop (hc _ _ hq)⟩
  ·cases h
theorem xy (xe:XE ca P wd K mg base X sc N N.length k) {tg e:Expr} {i j:Nat} (h1:cTg sc N n tg=some (.nm j)) (hv:∀i',CE.var i=.var i'->∃y q,e=.Name y q∧X.N[i']?=some y∧Vis X.env.scope y∧(y==("__debug__":Str))=false∧(y==("__classdict__":Str))=false) {o:Oc} (hr:ab G cl (.mov j i) ρ=some o):S1 X z dx (.Assign [tg] e pos) ρ o:=by
 obtain ⟨y,q,rfl,hy,hvis,d1,d2⟩:=hv i rfl
 obtain ⟨x,p,rfl,hi,hok,hl⟩:=lP h1
 unfold ab at hr
 split at hr
 ·rename_i c hc
  split at hr
  ·rename_i hij
   cases hr
   show DS X _ _ (.nx (trR z dx _))
   rw [bG,bG]
   exact uc xe.ndX hy (xe.at hi) hij.1 hvis (xe.loc hl) (.inl (xe.fnx hi)) (bV hc) d1 d2
  ·cases hr
 ·rename_i d hd
  split at hr
  ·cases hr
   show DS X _ _ (.nx (trR z dx _))
   rw [bG]
   exact xA xe.ndX (xe.at hi) (xe.loc hl) (pA hy hvis (oH hd) d1 d2) rfl (.inl (xe.fnx hi))
  ·cases hr
 ·cases hr
theorem wG (R:Row P wd K mg base G) (C:Calls P wd K mg base G kc cl) (hk:kc+2<=k) (xf:XF P wd K mg base X sc N k) (ih:v9 G cl X sc N z dx n) {st:Stmt} {s:CS'} (h:cS1 (n+1) sc N st=some (er1 s)) {o:Oc} (hr:ab G cl s ρ=some o):S1 X z dx st ρ o:=by
 have xe:=xf.xe
 have A:=wo (cl:=cl) R C hk n
 have getE:∀{e:Expr} {ce:CE},cE n sc N e=some ce->OkE G cl X e ce:=fun he=>(A.e X sc N N.length xe _ _ he).2.2
 unfold cS1 at h
 split at h
 ·
  obtain rfl:=bu (Option.some.inj h) rfl;unfold ab at hr;cases hr;exact vw
 ·
  obtain rfl:=bu (Option.some.inj h) rfl;unfold ab at hr;cases hr;exact vK
 ·
  rename_i e _
  cases hq:cE n sc N e with
  |none=>rw [hq] at h;cases h
  |some x=>
   rw [hq] at h;obtain rfl:=bu (Option.some.inj h) rfl
   have oe:=getE hq
   rcases qL hr with ⟨i,c,rfl,hi,rfl⟩|⟨r,hv,rfl⟩
   ·exact oe.ro i rfl _ c _ (bV hi)
   ·obtain ⟨w1,w2,w3⟩:=oe.w (ρ':=trR z dx (ae (fvU x) ρ)) bF hv
    cases r with
    |ok d=>exact aQ (xO (w1 d rfl))
    |fr c=>exact aQ (qJ (w2 c rfl))
    |xc d=>exact trivial
 ·
  unfold wK at h
  split at h
  ·
   rename_i x px y py _ _ a b _ _
   split at h
   ·rename_i i j ca cb h1 h2 h3 h4
    split at h
    ·rename_i hc
     obtain rfl:=bu (Option.some.inj h) rfl
     have oa:=getE h3
     have ob:=getE h4
     unfold ab at hr
     split at hr
     ·rename_i u hu
      split at hr
      ·rename_i v hv
       split at hr
       ·rename_i hij
        cases hr
        simp only [Bool.and_eq_true,beq_iff_eq,Bool.not_eq_true'] at hc
        obtain ⟨⟨⟨⟨⟨⟨o1,o2⟩,lx⟩,ly⟩,hl⟩,hf⟩,hca⟩:=hc
        have na:=(A.e X sc N N.length xe _ _ h3).1
        have nb:=(A.e X sc N N.length xe _ _ h4).1
        have hxy:x≠y:=fun q=>hij.1 (by rw [q,h2] at h1;exact (Option.some.inj h1).symm)
        have lx':X.env.scope.names.lookup x=some .local:=by rw [xe.sc_];exact lx
        have ly':X.env.scope.names.lookup y=some .local:=by rw [xe.sc_];exact ly
        have hw:∀kt pt k2 pt2,swappedStores [.Tuple [.Name x px,.Name y py] kt pt] (.Tuple [a,b] k2 pt2) X.env=pure (some [x,y]):=by
         intro kt pt k2 pt2
         have k1:X.env.kindOf x=some .local:=lx'
         have k2:X.env.kindOf y=some .local:=ly'
         have ed:([x,y]:List Str).eraseDups=[x,y]:=by
          simp [List.eraseDups_cons,Ne.symm hxy]
         have e1:(px.line==px.line)=true:=beq_self_eq_true _
         have e2:(py.line==px.line)=true:=by rw [hl];exact beq_self_eq_true _
         unfold swappedStores
         dsimp only
         rw [if_neg (by rw [xf.blk];simp)]
         rw [if_neg (by
          intro q
          simp only [List.any_cons,List.any_nil,Bool.or_false] at q
          rcases Bool.or_eq_true_iff.mp q with q|q
          ·cases a<;>first|(cases q;done)|(cases na;done)
          ·cases b<;>first|(cases q;done)|(cases nb;done))]
         simp only [List.filterMap_cons,List.filterMap_nil,List.head?_cons,Option.map_some,Option.getD_some,(show ∀(x:Str) (p:Pos),Expr.pos (.Name x p)=p from fun _ _=>rfl),k1,k2,e1,e2,beq_self_eq_true,Bool.and_true,if_true,ed]
         rw [if_neg (by simp),if_neg (by rw [hf];decide),if_neg (by rw [hca];decide)]
        have da:DA X (trR z dx (ae (uniq (fvE ca++fvE cb)) ρ)) [a,b] [u,v]:=fb (oa.v bF hu) (fb (ob.v bF hv) kN (bB (aG nb))) (bB (aG na))
        show DS X _ _ (.nx (trR z dx _))
        rw [bG,bG]
        cases hn:ai u&&ai v with
        |true=>
         simp only [Bool.and_eq_true] at hn
         have da':DA X (trR z dx ρ) [a,b] [u,v]:=fb (bK hn.1 (oa.v bF hu)) (fb (bK hn.2 (ob.v bF hv)) kN (bB (aG nb))) (bB (aG na))
         exact oN xe.calm xe.ndX (xe.at h1) (xe.at h2) hij.1 lx' ly' da' (hw _ _ _ _)
        |false=>exact aQ (oN xe.calm xe.ndX (xe.at h1) (xe.at h2) hij.1 lx' ly' da (hw _ _ _ _))
       ·cases hr
      ·cases hr
     ·cases hr
    ·cases h
   ·cases h
  ·
   rename_i x _ kx _ e
   split at h
   ·rename_i i ck ce h1 h2 h3
    split at h
    ·rename_i hc
     simp only [Bool.and_eq_true,Bool.not_eq_true'] at hc
     obtain ⟨⟨o1,hv⟩,hcm⟩:=hc
     obtain rfl:=bu (Option.some.inj h) rfl
     obtain ⟨d1,d2,_⟩:=eH o1
     have ok':=getE h2
     have oe:=getE h3
     unfold ab at hr
     split at hr
     ·rename_i v hve
      split at hr
      ·rename_i kd hkd
       split at hr
       ·rename_i es l hs hp
        split at hr
        ·rename_i hz
         cases hr
         have dk:=ok'.v (ρ':=trR z dx (ae (uniq (fvE ck++fvE ce)) ρ)) bF hkd
         have de:=oe.v (ρ':=trR z dx (ae (uniq (fvE ck++fvE ce)) ρ)) bF hve
         have hu:X.A.units+9<cLine:=by have:=xe.units;omega
         show DS X _ _ (.nx (trR z dx _))
         rw [bG,fq]
         rw [←eB hp] at dk
         have nk:ai (CT.PK.d (.t l))=true:=by rw [eB hp];exact pB hp
         cases hn:ai v with
         |true=>
          rw [hn] at hs
          exact mw hu (xe.at h1) (xe.vis hv) (bV hs) (bK nk dk) (bK hn de) hz.1 hz.2 (cK hcm) d1 d2
         |false=>
          rw [hn] at hs
          exact aQ (mw hu (xe.at h1) (xe.vis hv) (bV hs) dk de hz.1 hz.2 (cK hcm) d1 d2)
        ·cases hr
       ·cases hr
      ·cases hr
     ·cases hr
    ·cases h
   ·cases h
  ·
   rename_i x _ f _
   split at h
   ·rename_i ce h1 h3
    split at h
    ·rename_i hc
     simp only [Bool.and_eq_true,Bool.not_eq_true'] at hc
     obtain ⟨⟨o1,hv⟩,hcm⟩:=hc
     obtain rfl:=bu (Option.some.inj h) rfl
     obtain ⟨d1,d2,_⟩:=eH o1
     have oe:=getE h3
     unfold ab at hr
     split at hr
     ·rename_i d hd
      split at hr
      ·rename_i C0 a0 b0 fs h0
       split at hr
       ·rename_i hf
        cases hr
        have de:=oe.v (ρ':=trR z dx (ae (fvU ce) ρ)) bF hd
        have hK:=xe.K_
        subst hK
        obtain ⟨c1,c2⟩:=R.fok C0 f hf.2
        show DS X _ _ (.nx (trR z dx _))
        rw [bG]
        have t0:∀{ρ0:Rho},ρ0[0]?=some (.new C0 a0 b0 fs)->(trR z dx ρ0)[0]?=some (.new C0 z dx fs):=fun h=>by rw [List.getElem?_map,h];rfl
        cases hn:ai d with
        |true=>exact og (i:=0) (xe.at h1) (xe.vis hv) (t0 h0) c1 c2 hf.1 (bK hn de) (cK hcm) d1 d2
        |false=>exact aQ (og (i:=0) (xe.at h1) (xe.vis hv) (t0 (kl h0)) c1 c2 hf.1 de (cK hcm) d1 d2)
       ·cases hr
      ·cases hr
     ·cases hr
    ·cases h
   ·cases h
  ·
   rename_i tg e _ _ _
   split at h
   ·rename_i t ce h1 h2
    split at h
    ·rename_i hc
     simp only [Bool.and_eq_true] at hc
     rcases yI (Option.some.inj h) with rfl|⟨j,i,rfl,rfl,rfl⟩
     ·exact yt xe ⟨n,h1⟩ (getE h2) hc.1 hc.2 hr
     ·exact xy xe h1 (getE h2).vr hr
    ·cases h
   ·cases h
  ·cases h
 ·
  unfold cExp at h
  split at h
  ·
   obtain rfl:=bu (Option.some.inj h) rfl;unfold ab at hr;cases hr
   exact PS.weak yo fun E σ H ⟨H₀,S₀,S,f,k⟩=>k σ H S f
  ·
   rename_i x xp m ap args cp
   split at h
   ·rename_i hm
    subst hm
    split at h
    ·rename_i i a h1
     split at h
     ·rename_i hc
      simp only [Bool.and_eq_true] at hc
      obtain ⟨⟨o1,hv⟩,hl⟩:=hc
      cases hq:cE n sc N a with
      |none=>rw [hq] at h;cases h
      |some x'=>
       rw [hq] at h;obtain rfl:=bu (Option.some.inj h) rfl
       obtain ⟨d1,d2,_⟩:=eH o1
       have oe:=getE hq
       have na:=(A.e X sc N N.length xe _ _ hq).1
       have s0:=bB (es:=[]) (env:=X.env) (aG na)
       unfold ab at hr
       split at hr
       ·rename_i v hve
        split at hr
        ·rename_i xs hs
         split at hr
         ·rename_i hz
          cases hr
          have de:=oe.v (ρ':=trR z dx (ae (fvU x') ρ)) bF hve
          show DS X _ _ (.nx (trR z dx _))
          rw [bG]
          have few:((backTo cp (starEach [a] X.env)).all (fun x=>!x.1)&&(backToKw cp (keywordEach [] X.env)).all (fun x=>x.1.isSome)&&decide (([a]:List Expr).length+([]:List Keyword).length+(if ([]:List Keyword).isEmpty then 0 else 1)<30))=true:=by
           rw [gi (fun e he=>by rw [List.mem_singleton.mp he];exact na)];rfl
          cases hn:ai v with
          |true=>
           rw [hn] at hs
           exact j6 (xe.at h1) (xe.vis hv) (bV hs) (bK hn de) hz d1 d2 rfl rfl few hl s0 rfl
          |false=>
           rw [hn] at hs
           exact aQ (j6 (xe.at h1) (xe.vis hv) (bV hs) de hz d1 d2 rfl rfl few hl s0 rfl)
         ·cases hr
        ·cases hr
       ·cases hr
     ·cases h
    ·cases h
   ·split at h
    ·rename_i hm
     subst hm
     split at h
     ·rename_i i h1
      split at h
      ·rename_i hc
       simp only [Bool.and_eq_true] at hc
       obtain ⟨⟨o1,hv⟩,hl⟩:=hc
       obtain rfl:=bu (Option.some.inj h) rfl
       obtain ⟨d1,d2,_⟩:=eH o1
       unfold ab at hr
       cases hr
      ·cases h
     ·cases h
    ·cases hq:cE n sc N (.Call (.Attribute (.Name x xp) m ap) args [] cp) with
     |none=>rw [hq] at h;cases h
     |some ce=>
      rw [hq] at h;obtain rfl:=bu (Option.some.inj h) rfl
      exact n4 (getE hq) rfl hr
  ·
   rename_i e _ _ _ _
   split at h
   ·rename_i hc
    have hc:bU e=false:=by simpa using hc
    cases hq:cE n sc N e with
    |none=>rw [hq] at h;cases h
    |some ce=>
     rw [hq] at h;obtain rfl:=bu (Option.some.inj h) rfl
     exact n4 (getE hq) hc hr
   ·cases h
 ·
  rename_i c a b _
  split at h
  ·rename_i x y zz h1 h2 h3
   obtain ⟨y',zz',rfl,rfl,rfl⟩:=zW (Option.some.inj h)
   have oc:=getE h1
   unfold ab at hr
   split at hr
   ·rename_i hq;exact S1.if xe.nox (fQ (oc.t bF hq)) (fun _=>ih.b a y' h2 _ _ hr) fun z=>nomatch z
   ·rename_i hq;exact S1.if xe.nox (fQ (oc.t bF hq)) (fun z=>nomatch z) fun _=>ih.b b zz' h3 _ _ hr
   ·cases hr
  ·cases h
 ·
  rename_i tg it b _
  split at h
  ·rename_i hit
   split at h
   ·rename_i t x y h1 h2 h3
    obtain ⟨y',rfl,rfl⟩:=xt (Option.some.inj h)
    have oi:=getE h2
    unfold ab at hr
    split at hr
    ·rename_i its hi
     have lt:=k_ (N:=N) (fun x i h=>xe.lt h) h1
     obtain ⟨f1,f2⟩:=pK (z:=z) (dx:=dx) (fun ρ d ρ1 hb=>((iI xe n).1 tg t h1).2 ρ d ρ1 hb lt) (fun ρ o h=>ih.b b y' h3 ρ o h) its _ o hr
     have di:=oi.i (ρ':=trR z dx (ae (fvU x) ρ)) (tg:=tg) bF hit hi
     refine S1.give (L:=fvU x) ?_
     cases o with
     |nx ρ'=>exact lS xf.pass xe.calm di (f1 fun _ _ z=>nomatch z) (fC hit _)
     |rt d=>exact lS xf.pass xe.calm di (f1 fun _ _ z=>nomatch z) (fC hit _)
     |fr c=>exact lS xf.pass xe.calm di (f1 fun _ _ z=>nomatch z) (fC hit _)
     |xc ρe d=>exact trivial
    ·cases hr
   ·cases h
  ·cases h
 ·
  rename_i c b _
  split at h
  ·rename_i x y h1 h2
   obtain ⟨y',rfl,rfl⟩:=xR (Option.some.inj h)
   have oc:=getE h1
   unfold ab at hr
   obtain ⟨n1,w1⟩:=oK (z:=z) (dx:=dx) (fun ρ q hq=>fQ (oc.t bF hq)) (fun ρ o h=>ih.b b y' h2 ρ o h) _ ρ o hr
   have:=q_ (pos:=‹Pos›) xf.pass w1
   cases o with
   |nx ρ'=>exact this
   |rt d=>exact this
   |fr c=>exact this
   |xc ρe d=>exact absurd rfl (n1 ρe d)
  ·cases h
 ·
  rename_i x _ args _ _
  split at h
  ·rename_i hc
   simp only [Bool.and_eq_true] at hc
   obtain ⟨⟨o1,hg⟩,_⟩:=hc
   cases hq:cA n sc N args with
   |none=>rw [hq] at h;cases h
   |some ces=>
    rw [hq] at h;obtain rfl:=bu (Option.some.inj h) rfl
    obtain ⟨ss,oa⟩:=A.a X sc N N.length xe args ces hq
    obtain ⟨d1,d2,_⟩:=eH o1
    unfold ab at hr
    split at hr
    ·rename_i ds hd
     split at hr
     ·rename_i C0 fs hx
      split at hr
      ·rename_i hl
       cases hr
       trivial
      ·cases hr
     ·cases hr
    ·cases hr
  ·cases h
 ·cases h
end
end IN
namespace IN
open PySem PySem.Spec PySem.W L2 CT
open PyProof.Rows hiding St
section
variable {ca:Bool} {P:Program} {wd:World} {K:Frag} {mg:Str->Option Value} {base:Heap} {G:Prg} {cl:Str->List D->Option Rs} {k kc n:Nat} {X:Cx} {sc:Scope} {N:List Str} {w:Nat} {ce:CE} {z dx:Addr} {ρ:Rho} {pos:Pos}
theorem Wk.Au:∀{ρ:Rho} {i:Nat},Wk ρ (ρ.set i .any):=fun {ρ i}=>⟨by simp,fun j x h=>by
 by_cases hj:i=j
 ·subst hj
  have hi:i<ρ.length:=by have:=(List.getElem?_eq_some_iff.mp h).1;simpa using this
  rw [List.getElem?_set_self hi] at h
  exact .inl (Option.some.inj h).symm
 ·rw [List.getElem?_set_ne hj] at h;exact .inr h⟩
theorem SS.fgt {sts:List Stmt} {o:Oc}:∀{L:List Nat} {ρ:Rho},SS X z dx sts (ik L ρ) o->SS X z dx sts ρ o
 |[],_,h=>h
 |i::L,ρ,h=>by
  have h':=SS.fgt (L:=L) (ρ:=ρ.set i .any) h
  have w:Wk (trR z dx ρ) (trR z dx (ρ.set i .any)):=by rw [bG];exact Wk.Au
  cases o with
  |nx ρ'=>exact jC w h'
  |rt d=>exact jC w h'
  |fr c=>exact jC w h'
  |xc ρ' d=>exact trivial
theorem vE {L:List Nat} {r:List CS'} {o:Oc} (h:run G cl (.fgt L::r) ρ=some o):run G cl r (ik L ρ)=some o:=by
 unfold run at h
 have e:ab G cl (.fgt L) ρ=some (.nx (ik L ρ)):=by unfold ab;rfl
 rw [e] at h
 exact h
theorem oT {b:List CS'} {l:List CS'} (h:l=erL b):(∃L r,b=.fgt L::r∧l=erL r)∨(b=[]∧l=[])∨∃s r,b=s::r∧l=er1 s::erL r:=by
 cases b with
 |nil=>exact .inr (.inl ⟨rfl,by rw [h];rfl⟩)
 |cons s r=>
  cases s with
  |fgt L=>exact .inl ⟨L,r,rfl,by rw [h,erL]⟩
  |_=>exact .inr (.inr ⟨_,r,rfl,by rw [h,erL];intro L z;cases z⟩)
theorem jm (R:Row P wd K mg base G) (C:Calls P wd K mg base G kc cl) (hk:kc+2<=k) (xf:XF P wd K mg base X sc N k):∀n,v9 G cl X sc N z dx n:=by
 intro n
 induction n with
 |zero=>exact ⟨fun st s h=>(by unfold cS1 at h;cases h),fun sts b h=>(by unfold cS at h;cases h)⟩
 |succ n ih=>
  refine ⟨fun st s h ρ o hr=>wG R C hk xf ih h hr,fun sts b=>?_⟩
  induction b generalizing sts with
  |nil=>
   intro h ρ o hr
   unfold run at hr;cases hr
   unfold cS at h
   split at h
   ·exact tY
   ·split at h
    ·cases h
    ·cases h
  |cons s0 r0 ihb=>
   intro h ρ o hr
   rcases oT (b:=s0::r0) rfl with ⟨L,r,eb,el⟩|⟨eb,el⟩|⟨s,r,eb,el⟩
   ·cases eb
    rw [el] at h
    exact SS.fgt (ihb sts h _ _ (vE hr))
   ·cases eb
   ·cases eb
    rw [el] at h
    unfold cS at h
    split at h
    ·cases h
    ·split at h
     ·rename_i s0' r0' h1 h2
      cases h
      exact y6 xf.xe.nox (fun ρ o h=>ih.s _ _ h1 ρ o h) (fun ρ o h=>ih.b _ _ h2 ρ o h) hr
     ·cases h
end
theorem mZ {CX:CXT} {P:Program} {wd:World} {K:Frag} {mg:Str->Option Value} {base:Heap} {N ps:List Str} {qual:Str} {st:Stmt} {f:Addr} {cd:Value} {A:Around} {outer:List PySem.Env} {s:Shared} {H:Hp} {E:XK} {k:Nat}
  (S:bJ N ps (ah st)) (hr:aI k (A.deeper (envOfC qual (ah st) s.heap.objs.size f cd))):XF P wd K mg base (dU CX P wd K mg base N qual (ah st) f cd A outer s H E).nox (ah st) N k where
 xe:={p_:=rfl,w_:=rfl,K_:=rfl,mg_:=rfl,iY:=rfl,sc_:=rfl,N_:=rfl,nd:=S.nd,kF:=fun _=>rfl,kD:=fun _=>hr,units:=hr.units,nox:=fun _ _ z=>z,fn:=fun _ _ _ _=>rfl}
 pass:=PassesOwn.never
 hst:=rfl
 hfr:=rfl
 blk:=by
  show (if (ah st).kind.isAnnotationScope then _ else (ah st).kind)=_
  rw [S.kind];rfl
section
variable {P:Program} {wd:World} {K:Frag} {mg:Str->Option Value} {base:Heap} {G:Prg}
theorem kT {z dx:Addr} {ds:List D} {n:Nat}:trR z dx (ds.map .val++List.replicate n .nil)=ds.map .val++List.replicate n .nil:=by
 unfold trR
 rw [List.map_append,List.map_map,List.map_replicate]
 congr 1
theorem j2 {key:Str} {C:Addr} {d:Def} {N ps:List Str} {n:Nat} (df:G.defs key=some (some C,d)) (h1:d.slots=N.length) (h2:d.aB=ps.length) (ds:List D) (r:Rs) (h:kal G (n+1) key ds=some r):
  ds.length+1=ps.length∧((∃ρ' a b fs,run G (kal G n) d.body (.new C 0 0 []::(ds.map .val++List.replicate (N.length - (ds.length+1)) .nil))=some (.nx ρ')∧ρ'[0]?=some (.new C a b fs)∧r=.ok (.ins C fs))∨
   ∃ρ' x,run G (kal G n) d.body (.new C 0 0 []::(ds.map .val++List.replicate (N.length - (ds.length+1)) .nil))=some (.xc ρ' x)∧r=.xc x):=by
 unfold kal at h
 rw [df] at h
 unfold dG at h
 dsimp only at h
 split at h
 ·rename_i hl
  rw [h1] at h
  refine ⟨by rw [←h2];exact hl.1,?_⟩
  split at h
  ·rename_i ρ' q
   split at h
   ·rename_i C' a b fs h0
    split at h
    ·rename_i hC;subst hC;cases h;exact .inl ⟨ρ',a,b,fs,q,h0,rfl⟩
    ·cases h
   ·cases h
  ·rename_i ρ' x' q;cases h;exact .inr ⟨ρ',x',q,rfl⟩
  ·cases h
 ·cases h
theorem qm (R:Row P wd K mg base G):∀n,Calls P wd K mg base G (3*n+3) (kal G n):=by
 intro n
 induction n with
 |zero=>
  refine ⟨fun key d f fd ps L=>?_,fun key d f fd ps L=>?_,fun key C d f fd ps L=>?_,fun key C d f fd ps L ds r h=>?_⟩
  ·have no:∀vs H Q E,¬spR K (prR (kal G 0) key) vs H Q E:=fun vs H Q E ⟨S,ds,r,_,_,p,_⟩=>by
    cases r with
    |ok d=>obtain ⟨r,h,_⟩:=p;unfold kal at h;cases h
    |xc d=>have h:kal G 0 key ds=some (.xc d):=p;unfold kal at h;cases h
   exact ⟨fun vs H Q E h=>(no _ _ _ _ h).elim,fun A outer s H args us vs Q E hr he hb hv hs=>(no _ _ _ _ hs).elim⟩
  ·have no:∀vs H Q E,¬js K (prF (kal G 0) key) vs H Q E:=fun vs H Q E ⟨S,ds,c,_,_,p,_⟩=>by
    have h:kal G 0 key ds=some (.fr c):=p
    unfold kal at h;cases h
   exact ⟨fun vs H Q E h=>(no _ _ _ _ h).elim,fun A outer s H args us vs Q E hr he hb hv hs=>(no _ _ _ _ hs).elim⟩
  ·have no:∀vs H Q E,¬nc K C (prI (kal G 0) C key) vs H Q E:=fun vs H Q E ⟨S,x,dx,us,ds,r,_,_,_,_,_,p,_⟩=>by
    cases r with
    |ok fs=>have h:kal G 0 key ds=some (.ok (.ins C fs)):=p;unfold kal at h;cases h
    |xc d=>have h:kal G 0 key ds=some (.xc d):=p;unfold kal at h;cases h
   exact ⟨fun vs H Q E h=>(no _ _ _ _ h).elim,fun A outer s H args us vs Q E hr he hb hv hs=>(no _ _ _ _ hs).elim⟩
  ·unfold kal at h;cases h
 |succ n ih=>
  have hk:3*(n+1)+3=(3*n+5)+1:=by omega
  refine ⟨fun key d f fd ps L=>?_,fun key d f fd ps L=>?_,fun key C d f fd ps L=>?_,fun key C d f fd ps L ds r h=>?_⟩
  ·obtain ⟨x,qual,st,N,F,S,hc,h1,h2⟩:=L.ex
   rw [hk]
   have shape:∀ds r,kal G (n+1) key ds=some r->ds.length=ps.length∧∃o,run G (kal G n) d.body (aK N ds)=some o∧r=(match o with|.nx _=>.ok .non|.rt x=>.ok x|.fr c=>.fr c|.xc _ x=>.xc x):=fun ds r h=>by
    unfold kal at h
    rw [L.df] at h
    unfold dG at h
    dsimp only at h
    split at h
    ·rename_i hl
     rw [h1] at h
     refine ⟨by rw [←h2];exact hl.1,?_⟩
     split at h
     ·rename_i ρ' q;cases h;exact ⟨_,q,rfl⟩
     ·rename_i x' q;cases h;exact ⟨_,q,rfl⟩
     ·rename_i c q;cases h;exact ⟨_,q,rfl⟩
     ·rename_i ρ' x' q;cases h;exact ⟨_,q,rfl⟩
     ·cases h
    ·cases h
   refine AB F S (fun ds r p=>?_) (fun cdv A outer s H E ds d' hr p=>?_)
   ·cases r with
    |ok d'=>obtain ⟨r,h,_⟩:=p;exact (shape ds r h).1
    |xc d'=>exact (shape ds _ p).1
   ·obtain ⟨r,h,hv⟩:=p
    obtain ⟨_,o,ho,e⟩:=shape ds r h
    have B:=(jm (z:=0) (dx:=0) R ih (by omega) (mZ (CX:=CXA P wd) (P:=P) (wd:=wd) (K:=K) (mg:=mg) (base:=base) (outer:=outer) (H:=H) (E:=E) S hr) 60).b _ _ hc _ o ho
    have e0:trR 0 0 (aK N ds)=aK N ds:=kT
    cases o with
    |nx ρ'=>subst e;cases hv;refine ⟨.nx (trR 0 0 ρ'),rfl,?_⟩;have B':DSs _ _ _ _:=B;rw [e0] at B';exact B'
    |rt x'=>subst e;cases hv;refine ⟨.rt _,rfl,?_⟩;have B':DSs _ _ _ _:=B;rw [e0] at B';exact B'
    |fr c=>subst e;cases hv;refine ⟨.rfx c,rfl,?_⟩;have B':DSs _ _ _ _:=B;rw [e0] at B';exact B'
    |xc ρ' x'=>subst e;cases hv
  ·obtain ⟨x,qual,st,N,F,S,hc,h1,h2⟩:=L.ex
   rw [hk]
   have shape:∀ds c,kal G (n+1) key ds=some (.fr c)->ds.length=ps.length∧run G (kal G n) d.body (aK N ds)=some (.fr c):=fun ds r h=>by
    unfold kal at h
    rw [L.df] at h
    unfold dG at h
    dsimp only at h
    split at h
    ·rename_i hl
     rw [h1] at h
     refine ⟨by rw [←h2];exact hl.1,?_⟩
     split at h
     ·cases h
     ·cases h
     ·rename_i c q;cases h;exact q
     ·cases h
     ·cases h
    ·cases h
   refine zr F S (fun ds c p=>(shape ds c p).1) (fun cdv A outer s H E ds c hr p=>?_)
   have B:=(jm (z:=0) (dx:=0) R ih (by omega) (mZ (CX:=CX0) (P:=P) (wd:=wd) (K:=K) (mg:=mg) (base:=base) (outer:=outer) (H:=H) (E:=E) S hr) 60).b _ _ hc _ _ (shape ds c p).2
   have e0:trR 0 0 (aK N ds)=aK N ds:=kT
   have B':DSs _ _ _ _:=B
   rw [e0] at B'
   exact B'
  ·obtain ⟨x,qual,st,N,F,S,hc,h1,h2⟩:=L.ex
   rw [hk]
   have shape:=j2 (C:=C) (n:=n) L.df h1 h2
   have e0:∀z dx:Addr,∀ds:List D,trR z dx (.new C 0 0 []::(ds.map .val++List.replicate (N.length - (ds.length+1)) .nil))=.new C z dx []::(aK N (.non::ds)).tail:=fun z dx ds=>by
    show Sl.new C z dx []::trR z dx (ds.map .val++List.replicate (N.length - (ds.length+1)) .nil)=_
    rw [kT];rfl
   refine yY F S (fun ds r p=>?_) (fun cdv A outer s H E ds fs z dx hr p=>?_)
   ·cases r with
    |ok fs=>exact (shape ds _ p).1
    |xc d'=>exact (shape ds _ p).1
   ·obtain ⟨_,h⟩:=shape ds _ p
    rcases h with ⟨ρ',a,b,fs',ho,h0,e⟩|⟨ρ',x',ho,e⟩
    ·cases e
     have B:=(jm (z:=z) (dx:=dx) R ih (by omega) (mZ (CX:=CXA P wd) (P:=P) (wd:=wd) (K:=K) (mg:=mg) (base:=base) (outer:=outer) (H:=H) (E:=E) S hr) 60).b _ _ hc _ _ ho
     have B':DSs _ _ _ _:=B
     rw [e0] at B'
     exact ⟨_,by rw [List.getElem?_map,h0];rfl,B'⟩
    ·cases e
  ·obtain ⟨x,qual,st,N,F,S,hc,h1,h2⟩:=L.ex
   obtain ⟨_,h⟩:=j2 (C:=C) (n:=n) L.df h1 h2 ds r h
   rcases h with ⟨ρ',a,b,fs',ho,h0,e⟩|⟨ρ',x',ho,e⟩
   ·exact .inl ⟨fs',e⟩
   ·exact .inr ⟨x',e⟩
end
end IN
namespace IN
open PySem PySem.Spec PySem.W L2 CT
open PyProof.Rows hiding St
noncomputable def asc {α β:Type} [DecidableEq α]:List (α×β)->α->Option β
 |[],_=>none
 |(a,b)::l,x=>if a=x then some b else asc l x
theorem fz {α β:Type} [DecidableEq α] {l:List (α×β)} {x:α} {y:β} (h:asc l x=some y):(x,y)∈l:=by
 induction l with
 |nil=>cases h
 |cons p l ih=>
  obtain ⟨a,b⟩:=p
  unfold asc at h
  split at h
  ·rename_i e;cases h;rw [e];exact List.mem_cons_self
  ·exact List.mem_cons_of_mem _ (ih h)
noncomputable def dA (n c:String):Bool:=n==c||(n=="bool"&&c=="int")
noncomputable def iZ:List String:=["NoneType","bool","int","str","tuple","list","dict"]
noncomputable def iO:List String:=["int","bool","list","tuple","str","dict"]
structure Src where
 gl:List (Str×D):=[]
 fn:List Str:=[]
 ini:List (Str×(Addr×Str)):=[]
 exc:List (Str×(Addr×List Str)):=[]
 mth:List ((Addr×Str)×Str):=[]
 fok:List (Addr×Str):=[]
 xok:List (Addr×Str):=[]
 qr:List ((Addr×Addr)×Bool):=[]
 Bl:List ((Addr×Addr)×Bool):=[]
 Bk:List (Addr×Bool):=[]
 sub:List ((Addr×Addr)×Bool):=[]
 defs:List (Str×(Option Addr×Def)):=[]
noncomputable def Src.kit (s:Src):Tag->Tag->Option Bool
 |.ty n,.ty c=>if n∈iZ∧c∈iO then some (dA n c) else none
 |.cl C,.cl E=>asc s.qr (C,E)
 |_,_=>none
noncomputable def Src.prg (s:Src):Prg where
 glob:=asc s.gl
 fn:=fun x=>if x∈s.fn then some x else none
 ini:=asc s.ini
 exc:=asc s.exc
 mth:=fun C m=>asc s.mth (C,m)
 fok:=fun C f=>decide ((C,f)∈s.fok)
 xok:=fun C f=>decide ((C,f)∈s.xok)
 kit:=s.kit
 sub:=fun C E=>asc s.sub (C,E)
 defs:=asc s.defs
noncomputable def AE (mg:Str->Option Value) (x:Str):D->Prop
 |.ty n=>mg x=none∧bootBuiltins x=some (.type n)
 |.cl C=>mg x=some (.ref C)
 |.int i=>∃t,mg x=some (.int i t)
 |_=>False
noncomputable def lA (K:Frag) (C:Addr):Bool:=plainGet K C Str.empty&&hasDictIn K C&&plainOver K C&&findIn K (.ref C) "__setattr__"==some (some (.builtin "object.__setattr__"))&&findIn K (.ref C) "__class__"==some (some (.builtin "object.__class__"))&&
 specialIn K (.builtin "object.__class__") "__get__"==some (some (.builtin "getset_descriptor.__get__"))&&takesIn K (.builtin "object.__class__")==some true&&mroIn K C (.type "object")==some true
theorem eI {K:Frag} {C:Addr} (h:lA K C=true):Isi K C:=by
 unfold lA at h
 simp only [Bool.and_eq_true,beq_iff_eq] at h
 obtain ⟨⟨⟨⟨⟨⟨⟨h1,h2⟩,h3⟩,h4⟩,h5⟩,h6⟩,h7⟩,h8⟩:=h
 exact ⟨⟨h1,h2,h3,h4⟩,h5,h6,h7,h8⟩
noncomputable def yU (K:Frag):Bool:=iZ.all fun n=>iO.all fun c=>kitOne K (.type n) (.type c)==some (dA n c)
noncomputable def kM:List Str:=["len","sum","all","any","abs","int","tuple","list","dict","min","max","isinstance","range","zip","enumerate"]
theorem yT {x:Str} {b:BN} (h:bnC x=some b):x∈kM:=by
 refine Classical.byContradiction fun hn=>?_
 unfold kM at hn
 simp only [List.mem_cons,List.not_mem_nil,or_false,not_or] at hn
 unfold bnC at h
 simp only [hn,if_false] at h
 cases h
noncomputable def GF (K:Frag) (q:Str) (st:Stmt):Prop:=∃f,nsIn K mainGlobals q=some (some (.ref f))∧∃fd,Fun K q q st f fd
noncomputable def MF (K:Frag) (C:Addr) (m q:Str) (st:Stmt):Prop:=∃f,findIn K (.ref C) m=some (some (.ref f))∧isFn K (.ref f)=true∧∃fd,Fun K m q st f fd
theorem y7 {K:Frag} {q:Str} {st:Stmt} {f:Addr} {oc:Value} {od an:Option Addr} {osl:Array (Option Value)} {kV doc pm cdv ct:Value} (a:nsIn K mainGlobals q=some (some (.ref f))) (l:K.lookup f=some ⟨oc,od,.func (fnOf q q (c3 st) (aY st) (ah st) .none kV doc pm an cdv ct),osl⟩) (c:codeIn K cdv q=true) (k:keepIn K (.ref f)=true):GF K q st:=⟨f,a,_,oQ l c k⟩
theorem zP {K:Frag} {C:Addr} {m q:Str} {st:Stmt} {f:Addr} {oc:Value} {od an:Option Addr} {osl:Array (Option Value)} {kV doc pm cdv ct:Value} (a:findIn K (.ref C) m=some (some (.ref f))) (i:isFn K (.ref f)=true) (l:K.lookup f=some ⟨oc,od,.func (fnOf m q (c3 st) (aY st) (ah st) .none kV doc pm an cdv ct),osl⟩) (c:codeIn K cdv q=true) (k:keepIn K (.ref f)=true):MF K C m q st:=⟨f,a,i,_,oQ l c k⟩
structure DT (G:Prg) (key:Str) (C:Option Addr) (d:Def) (x q:Str) (st:Stmt) (ps:List Str):Prop where
 N:∃N,bJ N ps (ah st)∧cS 60 (ah st) N (aY st)=some (erL d.body)∧d.slots=N.length
 bd:∀(kV doc pm:Value) (an:Option Addr) (cdv ct:Value) (us:List Value),us.length=ps.length->bindArgs (fnOf x q (c3 st) (aY st) (ah st) .none kV doc pm an cdv ct) ⟨us,[]⟩=pure (ps.zip us)
 df:G.defs key=some (C,d)
 aB:d.aB=ps.length
 ini:d.init=C.isSome
theorem DT.lk {K:Frag} {G:Prg} {key x q:Str} {C:Option Addr} {d:Def} {st:Stmt} {ps:List Str} {f:Addr} {fd:FuncData} (t:DT G key C d x q st ps) (F:Fun K x q st f fd):Lk K G key C d f fd ps:=by
 obtain ⟨N,h1,h2,h3⟩:=t.N
 exact ⟨t.df,F.binds t.bd,F.kp,⟨x,q,st,N,F,h1,h2,h3,t.aB⟩,t.ini⟩
theorem cP {P:List Value->Prop} (h:∀a0,P [a0]):∀us:List Value,us.length=1->P us
 |[a0],_=>h a0
theorem jy {P:List Value->Prop} (h:∀a0 a1,P [a0,a1]):∀us:List Value,us.length=2->P us
 |[a0,a1],_=>h a0 a1
theorem hB {P:List Value->Prop} (h:∀a0 a1 a2,P [a0,a1,a2]):∀us:List Value,us.length=3->P us
 |[a0,a1,a2],_=>h a0 a1 a2
theorem qN {P:List Value->Prop} (h:∀a0 a1 a2 a3,P [a0,a1,a2,a3]):∀us:List Value,us.length=4->P us
 |[a0,a1,a2,a3],_=>h a0 a1 a2 a3
theorem A5 {P:List Value->Prop} (h:∀a0 a1 a2 a3 a4 a5,P [a0,a1,a2,a3,a4,a5]):∀us:List Value,us.length=6->P us
 |[a0,a1,a2,a3,a4,a5],_=>h a0 a1 a2 a3 a4 a5
section
variable {K:Frag} {h:Heap} {mg:Str->Option Value} {G:Prg} {q m key:Str} {st:Stmt} {d:Def} {ps:List Str} {C:Addr}
theorem GF.row (X:K.In h) (GG:h.Ns mainGlobals mg) (t:DT G q none d q q st ps) (e:GF K q st):∃d f fd ps,mg q=some (.ref f)∧Lk K G q none d f fd ps:=by
 obtain ⟨f,a,fd,F⟩:=e
 exact ⟨d,f,fd,ps,mg_of X GG a,t.lk F⟩
theorem MF.row (o:lA K C=true) (t:DT G key none d m key st ps) (e:MF K C m key st):∃d f fd ps,Meth K C m f∧Cls K C∧Lk K G key none d f fd ps:=by
 obtain ⟨f,a,i,fd,F⟩:=e
 exact ⟨d,f,fd,ps,⟨a,i,F.kp⟩,(eI o).cl,t.lk F⟩
theorem MF.ini (X:K.In h) (GG:h.Ns mainGlobals mg) (b:nsIn K mainGlobals q=some (some (.ref C))) (mk:makesIn K C=true) (kc:keepIn K (.ref C)=true) (t:DT G key (some C) d "__init__" key st ps) (e:MF K C "__init__" key st):∃d f fd ps,mg q=some (.ref C)∧Mk K C f∧Lk K G key (some C) d f fd ps:=by
 obtain ⟨f,a,i,fd,F⟩:=e
 exact ⟨d,f,fd,ps,mg_of X GG b,⟨mk,a,i,kc⟩,t.lk F⟩
end
section
variable {P:Program} {w:World} {K:Frag} {mg:Str->Option Value} {base:Heap} {s:Src}
theorem yB (hblt:∀x∈kM,mg x=none) (hgl:∀p∈s.gl,AE mg p.1 p.2) (hty:yU K=true)
  (hcl:∀p∈s.qr,kitOne K (.ref p.1.1) (.ref p.1.2)=some p.2∧Isi K p.1.1)
  (hfn:∀x∈s.fn,∃d f fd ps,mg x=some (.ref f)∧Lk K s.prg x none d f fd ps)
  (hini:∀p∈s.ini,∃d f fd ps,mg p.1=some (.ref p.2.1)∧Mk K p.2.1 f∧Lk K s.prg p.2.2 (some p.2.1) d f fd ps)
  (hmth:∀p∈s.mth,∃d f fd ps,Meth K p.1.1 p.1.2 f∧Cls K p.1.1∧Lk K s.prg p.2 none d f fd ps)
  (hfok:∀p∈s.fok,Cls K p.1∧cz K p.1 p.2):Row P w K mg base s.prg where
 blt:=fun x b h=>hblt x (yT h)
 glob:=fun X hK hmg x d h ok g ρ pos=>by
  have:=hgl _ (fz h)
  rw [←hmg] at this
  unfold cj at ok
  simp only [Bool.and_eq_true,Bool.not_eq_true'] at ok
  obtain ⟨⟨o1,o2⟩,o3⟩:=ok
  have o3':x≠"__name__":=fun z=>by rw [z] at o3;revert o3;decide
  cases d with
  |ty n=>exact z_ g this.1 this.2 o3' o1
  |cl C=>exact zV g this o1
  |int i=>obtain ⟨t,ht⟩:=this;exact qU g ht o1
  |_=>exact this.elim
 zZ:=fun x C h=>hgl _ (fz h)
 kit:=fun t u q h=>by
  change s.kit t u=some q at h
  cases t with
  |ty n=>
   cases u with
   |ty c=>
    unfold Src.kit at h
    dsimp only at h
    split at h
    ·rename_i hm
     cases h
     have:=List.all_eq_true.mp (List.all_eq_true.mp hty n hm.1) c hm.2
     exact ⟨beq_iff_eq.mp this,fun _ z=>(nomatch z),fun _ z=>(nomatch z)⟩
    ·cases h
   |cl C=>cases h
   |xc C=>cases h
  |cl C=>
   cases u with
   |ty c=>cases h
   |cl E=>have:=hcl _ (fz h);exact ⟨this.1,fun _ z=>by cases z;exact this.2,fun _ z=>(nomatch z)⟩
   |xc E=>cases h
  |xc C=>cases h
 fn:=fun x key h=>by
  change (if x∈s.fn then some x else none)=some key at h
  split at h
  ·rename_i hm;cases h;exact hfn x hm
  ·cases h
 ini:=fun x C key h=>hini _ (fz h)
 mth:=fun C m key h=>hmth _ (fz h)
 fok:=fun C f h=>hfok _ (of_decide_eq_true h)
end
theorem ig {K:Frag} {H:Hp} {S:CT.Ad}:∀ns:List Int,af K H S (ns.map .int) (ns.map V.int)
 |[]=>.nil
 |n::ns=>.cons (.int n) (ig ns)
noncomputable def lG (G:Prg) (n:Nat) (ds:List D) (d:D):Prop:=prR (kal G n) "law" ds (.ok d)
theorem wI {K:Frag} {G:Prg} {n:Nat} {H:Hp} {a:Addr} {ns:List Int} (hG:kal G n "law" [.lst (ns.map .int)]=some (.ok (.bl true))) (h:SqL K H a (ns.map V.int)):spD K (lG G n) [.ref a] H (fun v _=>v=.bl true) fun _ _ _=>False:=by
 refine ⟨no,[.lst (ns.map .int)],.bl true,fun _ z=>z.elim,.cons ?_ .nil,⟨_,hG,rfl⟩,fun v H' _ r=>r.blV⟩
 rcases h with h|h
 ·exact .lst h (fun z=>z) (ig ns)
 ·exact .lstK h (ig ns)
theorem yz {P:Program} {w:World} {K:Frag} {h:Heap} {mg:Str->Option Value} {G:Prg} {n:Nat} {st:Stmt} {d:Def} {x:Str} {fa:Addr} (X:K.In h) (GG:h.Ns mainGlobals mg) (hfa:mg "law"=some (.ref fa)) (R:∀base,Row P w K mg base G) (t:DT G "law" none d "law" "law" st [x]) (e:GF K "law" st):
  ∃fd:FuncData,(∀(s:Shared) (v:Value),BindsTo s fd ⟨[v],[]⟩ [(x,v)])∧∀base:Heap,K.In base->base.Ns mainGlobals mg->aC P w K mg base CX0 (3*n+3) fa fd [x] (spD K (lG G n)):=by
 obtain ⟨f,a,fd,F⟩:=e
 have e1:=hfa.symm.trans (mg_of X GG a)
 cases e1
 refine ⟨fd,?_,fun base _ _=>CT.aC.okD ((qm (R base) n).fn _ _ _ _ _ (t.lk F))⟩
 intro s v
 obtain ⟨oc,od,kV,doc,pm,an,cdv,ct,osl,rfl,lk,hcd⟩:=F.ex
 exact .of_eq (t.bd kV doc pm an cdv ct [v] rfl)
end IN
namespace PL
open PySem PySem.Spec L2 CT IN
open PyProof.Rows hiding St
section
variable {G:Prg} {cl:Str->List D->Option Rs} {ρ ρ':Rho} {s:CS'} {r:List CS'} {o:Option Oc} {n:Nat} {k:Str} {d:Def} {ds:List D} {x:D}
theorem st (h1:IN.ab G cl s ρ=some (.nx ρ')) (h2:IN.run G cl r ρ'=o):IN.run G cl (s::r) ρ=o:=by rw [IN.run,h1];exact h2
theorem bc (h1:IN.ab G cl s ρ=some (.rt x)):IN.run G cl (s::r) ρ=some (.rt x):=by rw [IN.run,h1]
theorem eN {c:Ow} (h1:IN.ab G cl s ρ=some (.fr c)):IN.run G cl (s::r) ρ=some (.fr c):=by rw [IN.run,h1]
theorem aE:IN.run G cl [] ρ=some (.nx ρ):=by rw [IN.run]
theorem aU (hd:G.defs k=some (none,d)) (hl:ds.length=d.aB∧d.init=false) {ρ0:Rho} (h0:ds.map .val++List.replicate (d.slots - ds.length) .nil=ρ0) (h:IN.run G (kal G n) d.body ρ0=some (.rt x)):kal G (n+1) k ds=some (.ok x):=by
 rw [kal,hd];dsimp only;rw [dG,if_pos hl,h0,h]
theorem oF (hd:G.defs k=some (none,d)) (hl:ds.length=d.aB∧d.init=false) {ρ0:Rho} (h0:ds.map .val++List.replicate (d.slots - ds.length) .nil=ρ0) (h:IN.run G (kal G n) d.body ρ0=some (.nx ρ)):kal G (n+1) k ds=some (.ok .non):=by
 rw [kal,hd];dsimp only;rw [dG,if_pos hl,h0,h]
theorem dH {c:Ow} (hd:G.defs k=some (none,d)) (hl:ds.length=d.aB∧d.init=false) {ρ0:Rho} (h0:ds.map .val++List.replicate (d.slots - ds.length) .nil=ρ0) (h:IN.run G (kal G n) d.body ρ0=some (.fr c)):kal G (n+1) k ds=some (.fr c):=by
 rw [kal,hd];dsimp only;rw [dG,if_pos hl,h0,h]
theorem mx {C a b:Addr} {fs:List (Str×D)} (hd:G.defs k=some (some C,d)) (hl:ds.length+1=d.aB∧d.init=true) {ρ0:Rho} (h0:ds.map .val++List.replicate (d.slots - (ds.length+1)) .nil=ρ0) (h:IN.run G (kal G n) d.body (.new C 0 0 []::ρ0)=some (.nx (.new C a b fs::ρ))):kal G (n+1) k ds=some (.ok (.ins C fs)):=by
 rw [kal,hd];dsimp only;rw [dG,if_pos hl,h0,h];dsimp only [List.getElem?_cons_zero];rw [if_pos rfl]
variable {α β:Type} {t:Tg} {b:List CS'} {g:α->D} {it:CE} {L:List Nat}
theorem qv {bb:Rho->Option Oc} (R:List α->Rho) (all:List α) (h:∀(done:List α) (a:α) (rest:List α),all=done++a::rest->∃ρ1,ag t (g a) (R done)=some ρ1∧bb ρ1=some (.nx (R (done++[a])))):
  forL t bb (all.map g) (R [])=some (.nx (R all)):=by
 have go:∀(l done:List α),all=done++l->forL t bb (l.map g) (R done)=some (.nx (R (done++l))):=by
  intro l
  induction l with
  |nil=>intro done _;rw [List.append_nil];rfl
  |cons a l ih=>
   intro done e
   obtain ⟨ρ1,h1,h2⟩:=h done a l e
   rw [List.map_cons,forL,h1]
   dsimp only
   rw [h2]
   dsimp only
   rw [ih (done++[a]) (by rw [e,List.append_assoc];rfl),List.append_assoc]
   rfl
 exact go all [] rfl
theorem d6 (R:List α->Rho) (all:List α) (hi:evI G cl it (ae L ρ)=some (all.map g)) (h0:ae L ρ=R [])
  (h:∀(done:List α) (a:α) (rest:List α),all=done++a::rest->∃ρ1,ag t (g a) (R done)=some ρ1∧IN.run G cl b ρ1=some (.nx (R (done++[a])))):IN.ab G cl (.for t it L b) ρ=some (.nx (R all)):=by
 rw [IN.ab,hi]
 dsimp only
 rw [h0]
 exact qv R all h
theorem fI {f:D->Option (List D)} {u:α->List D}:∀{l:List α},(∀a∈l,f (g a)=some (u a))->ia f (l.map g)=some (l.flatMap u)
 |[],_=>rfl
 |a::l,h=>by
  rw [List.map_cons,ia,h a List.mem_cons_self]
  dsimp only
  rw [fI fun b hb=>h b (List.mem_cons_of_mem _ hb)]
  rfl
theorem gY {u:α->D} {l:List α}:(l.flatMap fun a=>[u a])=l.map u:=by
 induction l with
 |nil=>rfl
 |cons a l ih=>rw [List.flatMap_cons,ih];rfl
theorem fU {w:Nat} {cap:List Nat} {it e:CE} {l:List α} {u:α->D} (hi:evI G cl it ρ=some (l.map g)) (hw:((tks t).all fun k=>k<w)=true) (hz:l.length<=sizeLine)
  (h:∀a∈l,∃ρ1,ag t (g a) (cN w cap ρ)=some ρ1∧ev G cl e ρ1=some (u a)):ev G cl (.comp w cap t it (.lit (.bl true)) (.emit e)) ρ=some (.lst (l.map u)):=by
 rw [ev,hi]
 dsimp only
 rw [if_pos hw]
 rw [fI (g:=g) (u:=fun a=>[u a]) (l:=l),gY]
 ·dsimp only
  rw [if_pos (by rw [List.length_map];exact hz)]
 ·intro a ha
  obtain ⟨ρ1,h1,h2⟩:=h a ha
  rw [h1]
  dsimp only
  rw [evT]
  dsimp only
  rw [evB,h2]
theorem oP {w:Nat} {cap:List Nat} {it it2 e:CE} {t2:Tg} {l:List α} {m:α->List β} {g2:β->D} {u:α->β->D} (hi:evI G cl it ρ=some (l.map g)) (hw:((tks t).all fun k=>k<w)=true) (hz:(l.flatMap fun a=>(m a).map (u a)).length<=sizeLine)
  (h:∀a∈l,∃ρ1,ag t (g a) (cN w cap ρ)=some ρ1∧evI G cl it2 ρ1=some ((m a).map g2)∧((tks t2).all fun k=>k<w&&isNil ρ1[k]?)=true∧∀b∈m a,∃ρ2,ag t2 (g2 b) ρ1=some ρ2∧ev G cl e ρ2=some (u a b)):
  ev G cl (.comp w cap t it (.lit (.bl true)) (.loop t2 it2 (.lit (.bl true)) (.emit e))) ρ=some (.lst (l.flatMap fun a=>(m a).map (u a))):=by
 rw [ev,hi]
 dsimp only
 rw [if_pos hw]
 rw [fI (g:=g) (u:=fun a=>(m a).map (u a)) (l:=l)]
 ·dsimp only
  rw [if_pos hz]
 ·intro a ha
  obtain ⟨ρ1,h1,h2,h3,h4⟩:=h a ha
  rw [h1]
  dsimp only
  rw [evT]
  dsimp only
  rw [evB,h2]
  dsimp only
  rw [if_pos h3,fI (g:=g2) (u:=fun b=>[u a b]) (l:=m a),gY]
  intro b hb
  obtain ⟨ρ2,z1,z2⟩:=h4 b hb
  rw [z1]
  dsimp only
  rw [evT]
  dsimp only
  rw [evB,z2]
end
theorem sH {G:Prg} {i:Int} {c:String}:b6 G (.int i) (.ty c)=G.kit (.ty "int") (.ty c):=rfl
theorem sO {G:Prg} {i:Bool} {c:String}:b6 G (.bl i) (.ty c)=G.kit (.ty "bool") (.ty c):=rfl
theorem sT {G:Prg} {c:String}:b6 G .non (.ty c)=G.kit (.ty "NoneType") (.ty c):=rfl
theorem sU {G:Prg} {x:Str} {c:String}:b6 G (.str x) (.ty c)=G.kit (.ty "str") (.ty c):=rfl
theorem kC {G:Prg} {xs:List D} {c:String}:b6 G (.tup xs) (.ty c)=G.kit (.ty "tuple") (.ty c):=rfl
theorem sk {G:Prg} {xs:List D} {c:String}:b6 G (.lst xs) (.ty c)=G.kit (.ty "list") (.ty c):=rfl
theorem tm {G:Prg} {xs:List (PK×D)} {c:String}:b6 G (.pdc xs) (.ty c)=G.kit (.ty "dict") (.ty c):=rfl
theorem sN {G:Prg} {C E:Addr} {fs:List (Str×D)}:b6 G (.ins C fs) (.cl E)=G.kit (.cl C) (.cl E):=rfl
theorem ti {G:Prg} {C E:Addr} {fs:List (Str×D)}:b6 G (.exc C fs) (.cl E)=G.kit (.xc C) (.cl E):=rfl
theorem pU {G:Prg} {C:Addr} {c:String} {fs:List (Str×D)}:b6 G (.exc C fs) (.ty c)=G.kit (.xc C) (.ty c):=rfl
theorem pV {G:Prg} {C:Addr} {c:String} {fs:List (Str×D)}:b6 G (.ins C fs) (.ty c)=G.kit (.cl C) (.ty c):=rfl
theorem yh {j:Int} (h: -(2^62)<=j∧j<2^62):gb j=true:=by unfold gb;rw [decide_eq_true (by omega),decide_eq_true (by omega)];rfl
theorem iJ {j:Int} (h: -(2^62)<=j∧j<2^62):f_ .range [.int j]=some ((ar j).map D.int):=if_pos (yh h)
theorem lO {n:Nat} (h:n<=1000000):f_ .range [.int (n:Int)]=some ((ar n).map D.int):=iJ (by omega)
theorem eQ {xs:List D}:bq (.lst xs)=some xs:=rfl
theorem eR {xs:List D}:bq (.tup xs)=some xs:=rfl
theorem gF {xs:List D}:itD (.lst xs)=some xs:=rfl
theorem kW {xs:List D}:itD (.tup xs)=some xs:=rfl
theorem rA {es:List (PK×D)}:itD (.pdc es)=some (es.map fun p=>PK.d p.1):=rfl
theorem iV {xs:List D} {i:Int}:ixD (.lst xs) (.int i)=atI xs i:=rfl
theorem je {xs:List D} {i:Int}:ixD (.tup xs) (.int i)=atI xs i:=rfl
theorem s_ {es:List (PK×D)} {kd:D} {l:List PK} (h:b7 kd=some (.t l)) (hd:(PK.t l).dp<=8):ixD (.pdc es) kd=look es (.t l):=by
 cases kd<;>first|(cases h;done)|(show (match b7 _ with|some (PK.t l)=>_|_=>none)=_;rw [h];show (if (PK.t l).dp<=8 then look es (.t l) else none)=_;rw [if_pos hd])
theorem b_ {i j:Int} (h:j.natAbs<2^64):bg i j=true:=by unfold bg;rw [decide_eq_true h];simp
theorem gS {i j:Int} (h:i.natAbs<2^64):bg i j=true:=by unfold bg;rw [decide_eq_true h];simp
theorem gV:∀ns:List Int,intsOf (ns.map .int)=some ns
 |[]=>rfl
 |n::ns=>by rw [List.map_cons,intsOf,gV ns]
theorem dw:∀ns:List Bool,boolsOf (ns.map .bl)=some ns
 |[]=>rfl
 |n::ns=>by rw [List.map_cons,boolsOf,dw ns]
theorem fP:∀ns:List Int,fH (ns.map .int)=some (ns.map .i)
 |[]=>rfl
 |n::ns=>by rw [List.map_cons,fH,b7];dsimp only;rw [fP ns];rfl
noncomputable def prod:List Int->Int:=List.foldl (·*·) 1
theorem eL (l:List Int) (a:Int):prod (l++[a])=prod l*a:=by
 show List.foldl (·*·) 1 (l++[a])=_
 rw [List.foldl_append];rfl
noncomputable def Sm (ns:List Int):Prop:=∀n∈ns, -(2^64)<n∧n<2^64
noncomputable def Big (ns:List Int):Prop:=∀n∈ns,2<=n∧n<2^64
theorem Big.sm {ns:List Int} (b:Big ns):Sm ns:=fun n h=>⟨by have:=(b n h).1;omega,(b n h).2⟩
noncomputable abbrev rf (ns:List Int):List (Str×D):=[(("rounds":Str),tupI ns)]
noncomputable def grp (C:Addr) (ns:List Int):D:=.ins C (rf ns)
structure Good (ns:List Int):Prop where
 ge:∀n∈ns,2<=n
 le:prod ns<=144
 lt:∀n∈ns,n<=144
 len:ns.length<=7
theorem Good.big {ns:List Int} (g:Good ns):Big ns:=fun n h=>⟨g.ge n h,by have:=g.lt n h;omega⟩
theorem Good.dW {ns:List Int} (g:Good ns):ns.length<=1000:=Nat.le_trans g.len (by decide)
noncomputable def hasB (ns ks:List Int):Bool:=(ks.zip ns).all fun p=>decide (0<=p.1)&&decide (p.1<p.2)
noncomputable def at0 (ns:List Int) (k:Int):Int:=ns.getD (k%(ns.length:Int)).toNat 0
noncomputable def mixed (c k:Int):Int:=
 ((c%1000000007+7919*k+11)*48271%2147483647*69621+17*k)%2147483629*2147483647+(c%1000000007+7919*k+11)*48271%2147483647*16807%2147483647
noncomputable def cell (ns:List Int) (k:Int):Int:=if ns.sum%2=1 then at0 ns k else mixed (at0 ns k) k
theorem yD {ns:List Int} {k:Int} (h:0<ns.length):atI (gN ns) (k%(ns.length:Int))=some (.int (at0 ns k)):=by
 have h1:0<=k%(ns.length:Int):=Int.emod_nonneg _ (by omega)
 have h2:k%(ns.length:Int)<ns.length:=Int.emod_lt_of_pos _ (by omega)
 have e:k%(ns.length:Int)=(((k%(ns.length:Int)).toNat:Nat):Int):=by omega
 rw [e]
 refine jz ?_
 have h3:(k%(ns.length:Int)).toNat<ns.length:=by omega
 simp [gN,at0,h3]
theorem gU:∀ks:List Int,bW (ks.map .int)=true
 |[]=>rfl
 |k::ks=>by show (true&&bW (ks.map .int))=true;rw [gU ks];rfl
theorem jb (ks:List Int):aW (tupI ks)=true:=gU ks
theorem iW:∀ks:List Int,PyData.depthAll (dX (ks.map .int))=0
 |[]=>rfl
 |k::ks=>by
  show max (PyData.depth (.int k)) (PyData.depthAll (dX (ks.map .int)))=0
  rw [iW ks];rfl
theorem iT (ks:List Int):(toPy (tupI ks)).depth=1:=by
 show PyData.depthAll (dX (ks.map .int))+1=1
 rw [iW]
noncomputable def step (found:List (List Int)) (n:Int):List (List Int):=found.flatMap fun b=>(ar n).map fun k=>b++[k]
noncomputable def mem (ns:List Int):List (List Int):=ns.foldl step [[]]
theorem fF (l:List Int) (a:Int):mem (l++[a])=step (mem l) a:=by
 show List.foldl step [[]] (l++[a])=_
 rw [List.foldl_append];rfl
theorem fy {l:List Int}:∀{b:List Int},b∈mem l->b.length=l.length:=by
 have go:∀(l:List Int) (acc:List (List Int)) (n:Nat),(∀b∈acc,b.length=n)->∀b∈l.foldl step acc,b.length=n+l.length:=by
  intro l
  induction l with
  |nil=>intro acc n h b hb;exact h b hb
  |cons a l ih=>
   intro acc n h b hb
   rw [List.length_cons,←Nat.add_assoc,Nat.add_right_comm]
   refine ih (step acc a) (n+1) (fun c hc=>?_) b hb
   obtain ⟨b',hb',hc'⟩:=List.mem_flatMap.mp hc
   obtain ⟨k,_,rfl⟩:=List.mem_map.mp hc'
   rw [List.length_append,h b' hb'];rfl
 intro b hb
 have:=go l [[]] 0 (fun b hb=>by rw [List.mem_singleton.mp hb];rfl) b hb
 omega
theorem jU (b:List Int) (k:Int):D.tup (gN b++[.int k])=tupI (b++[k]):=by simp [tupI,gN]
noncomputable def Fit (ns:List Int):Prop:=∀l,l<+:ns->(mem l).length<=1000
noncomputable def ao (ns x y:List Int):List Int:=(x.zip (y.zip ns)).map fun p=>(p.1+p.2.1)%p.2.2
noncomputable def eF (ns:List Int) (m:Int) (x:List Int):List Int:=(x.zip ns).map fun p=>m*p.1%p.2
structure El (ns ks:List Int):Prop where
 len:ks.length=ns.length
 has:hasB ns ks=true
theorem j5 {n k:Int} {ns ks:List Int}:hasB (n::ns) (k::ks)=((decide (0<=k)&&decide (k<n))&&hasB ns ks):=by simp [hasB]
theorem El.nil:El [] []:=⟨rfl,rfl⟩
theorem El.cons {n k:Int} {ns ks:List Int} (h1:0<=k) (h2:k<n) (e:El ns ks):El (n::ns) (k::ks):=⟨by simp [e.len],by rw [j5,e.has];simp [h1,h2]⟩
theorem El.inv {n:Int} {ns ks:List Int} (e:El (n::ns) ks):∃k r,ks=k::r∧0<=k∧k<n∧El ns r:=by
 cases ks with
 |nil=>have:=e.len;simp at this
 |cons k r=>
  have h:=e.has
  rw [j5] at h
  simp only [Bool.and_eq_true,decide_eq_true_eq] at h
  exact ⟨k,r,rfl,h.1.1,h.1.2,⟨by have:=e.len;simpa using this,h.2⟩⟩
noncomputable def Ge2 (ns:List Int):Prop:=∀n∈ns,2<=n
theorem Ge2.tail {n:Int} {ns:List Int} (g:Ge2 (n::ns)):Ge2 ns:=fun k hk=>g k (List.mem_cons_of_mem _ hk)
theorem Ge2.head {n:Int} {ns:List Int} (g:Ge2 (n::ns)):2<=n:=g n List.mem_cons_self
theorem pM {n a b:Int} {ns x y:List Int}:ao (n::ns) (a::x) (b::y)=(a+b)%n::ao ns x y:=rfl
theorem pP {n a m:Int} {ns x:List Int}:eF (n::ns) m (a::x)=m*a%n::eF ns m x:=rfl
theorem fB {a n:Int} (h:2<=n):0<=a%n∧a%n<n:=⟨Int.emod_nonneg _ (by omega),Int.emod_lt_of_pos _ (by omega)⟩
theorem El.add:∀{ns x y:List Int},Ge2 ns->El ns x->El ns y->El ns (ao ns x y)
 |[],x,y,_,h1,h2=>by
  have e:x=[]:=List.length_eq_zero_iff.mp h1.len
  subst e;exact El.nil
 |n::ns,x,y,g,h1,h2=>by
  obtain ⟨a,x',rfl,_,_,hx⟩:=h1.inv
  obtain ⟨b,y',rfl,_,_,hy⟩:=h2.inv
  rw [pM]
  exact El.cons (fB g.head).1 (fB g.head).2 (El.add g.tail hx hy)
theorem El.mul {m:Int}:∀{ns x:List Int},Ge2 ns->El ns x->El ns (eF ns m x)
 |[],x,_,h1=>by
  have e:x=[]:=List.length_eq_zero_iff.mp h1.len
  subst e;exact El.nil
 |n::ns,x,g,h1=>by
  obtain ⟨a,x',rfl,_,_,hx⟩:=h1.inv
  rw [pP]
  exact El.cons (fB g.head).1 (fB g.head).2 (El.mul g.tail hx)
theorem j8:∀{x y ns:List Int},a7 (x.map .int) (y.map .int) (ns.map .int)=(x.zip (y.zip ns)).map fun p=>D.tup [.int p.1,.int p.2.1,.int p.2.2]
 |[],_,_=>by simp [a7]
 |_::_,[],_=>by simp [a7]
 |_::_,_::_,[]=>by simp [a7]
 |a::x,b::y,n::ns=>by simp [a7,j8]
theorem rG {x y ns:List Int} {p:Int×Int×Int} (h:p∈x.zip (y.zip ns)):p.2.2∈ns:=(List.of_mem_zip (List.of_mem_zip h).2).2
theorem Good.g2 {ns:List Int} (g:Good ns):Ge2 ns:=g.ge
noncomputable def mn (l gr:Int):Int:=if gr<l then gr else l
noncomputable def bM (gr c l:Int):Int:=2+c / 5%(mn l gr - 1)
structure MS where
 c:Int
 l:Int
 f:List Int
noncomputable def dz (gr:Int) (s:MS):MS:=if 1<s.l∧0<s.c%5 then ⟨s.c / 101,s.l / bM gr s.c s.l,s.f++[bM gr s.c s.l]⟩ else ⟨s.c / 101,s.l,s.f⟩
noncomputable def b5 (gr c most:Int) (ks:List Int):MS:=ks.foldl (fun s _=>dz gr s) ⟨c,most,[]⟩
noncomputable def many (gr c most:Int):List Int:=(b5 gr c most (ar 3)).f
theorem pH (gr c most:Int) (ks:List Int) (k:Int):b5 gr c most (ks++[k])=dz gr (b5 gr c most ks):=by
 show List.foldl _ _ (ks++[k])=_
 rw [List.foldl_append];rfl
theorem mD {gr c l:Int} (h:1<l) (hg:2<=gr):2<=bM gr c l∧bM gr c l<=l:=by
 have h0:2<=mn l gr∧mn l gr<=l:=by unfold mn;split<;>omega
 have h1:0<=c / 5%(mn l gr - 1):=Int.emod_nonneg _ (by omega)
 have h2:c / 5%(mn l gr - 1)<mn l gr - 1:=Int.emod_lt_of_pos _ (by omega)
 unfold bM
 omega
structure MOk (most:Int) (n:Nat) (s:MS):Prop where
 l1:1<=s.l
 l2:s.l<=144
 ge:∀k∈s.f,2<=k∧k<=144
 pr:prod s.f*s.l<=most
 p1:1<=prod s.f
 len:s.f.length<=n
theorem MOk.step {gr most:Int} {n:Nat} {s:MS} (hg:2<=gr) (h:MOk most n s):MOk most (n+1) (dz gr s):=by
 unfold dz
 split
 ·rename_i hc
  obtain ⟨m1,m2⟩:=mD (c:=s.c) hc.1 hg
  have hd:bM gr s.c s.l*(s.l / bM gr s.c s.l)<=s.l:=Int.mul_ediv_self_le (by omega)
  refine ⟨?_,?_,fun j hj=>?_,?_,?_,?_⟩
  ·exact Int.le_ediv_of_mul_le (by omega) (by omega)
  ·exact Int.le_trans (Int.ediv_le_self _ (by have:=h.l1;omega)) h.l2
  ·rcases List.mem_append.mp hj with z|z
   ·exact h.ge j z
   ·rw [List.mem_singleton.mp z];exact ⟨m1,Int.le_trans m2 h.l2⟩
  ·show prod (s.f++[_])*(s.l / bM gr s.c s.l)<=most
   rw [eL,Int.mul_assoc]
   exact Int.le_trans (Int.mul_le_mul_of_nonneg_left hd (by have:=h.p1;omega)) h.pr
  ·show 1<=prod (s.f++[_])
   rw [eL]
   have:=Int.mul_le_mul h.p1 (show (1:Int)<=bM gr s.c s.l by omega) (by decide) (by have:=h.p1;omega)
   simpa using this
  ·show (s.f++[_]).length<=n+1
   have:=h.len
   simp;omega
 ·exact ⟨h.l1,h.l2,h.ge,h.pr,h.p1,Nat.le_succ_of_le h.len⟩
theorem jw {gr c most:Int} (hg:2<=gr) (h1:1<=most) (h2:most<=144) (ks:List Int):MOk most ks.length (b5 gr c most ks):=by
 have go:∀(ks:List Int) (n:Nat) (s:MS),MOk most n s->MOk most (n+ks.length) (ks.foldl (fun s _=>dz gr s) s):=by
  intro ks
  induction ks with
  |nil=>intro n s h;exact h
  |cons k ks ih=>
   intro n s h
   have:=ih (n+1) (dz gr s) (h.step hg)
   rw [List.length_cons,show n+(ks.length+1)=n+1+ks.length by omega]
   exact this
 have:=go ks 0 ⟨c,most,[]⟩ ⟨h1,h2,(fun k hk=>by cases hk),(by show prod []*most<=most;simp [prod]),(by show (1:Int)<=prod [];decide),Nat.le_refl _⟩
 rw [Nat.zero_add] at this
 exact this
theorem j1 {gr c most:Int} (hg:2<=gr) (h1:1<=most) (h2:most<=144):Good (many gr c most):=by
 have h:=jw (c:=c) hg h1 h2 (ar 3)
 refine ⟨fun n hn=>(h.ge n hn).1,?_,fun n hn=>(h.ge n hn).2,?_⟩
 ·have:=h.pr
  have l1:=h.l1
  have p1:=h.p1
  have h3:prod (b5 gr c most (ar 3)).f*1<=prod (b5 gr c most (ar 3)).f*(b5 gr c most (ar 3)).l:=Int.mul_le_mul_of_nonneg_left l1 (by omega)
  rw [Int.mul_one] at h3
  exact Int.le_trans h3 (Int.le_trans this h2)
 ·have:=h.len
  rw [show (ar 3).length=3 from rfl] at this
  exact Nat.le_trans this (by decide)
noncomputable def gd (l:List Int) (k:Int):Int:=l.getD k.toNat 0
theorem cC {l:List Int} {k:Int} (h:0<=k) (h2:k<(l.length:Int)):atI (l.map D.int) k=some (.int (gd l k)):=by
 obtain ⟨j,rfl⟩:=Int.eq_ofNat_of_zero_le h
 have h3:j<l.length:=by omega
 refine jz ?_
 simp [gd,h3]
theorem kg {β:Type} (f:Int->β) (n:Nat):(ar n).map f=(List.range n).map fun k:Nat=>f k:=by simp [ar,Function.comp_def]
theorem e_ {l:List Int} {k:Int} (h:0<=k) (h2:k<(l.length:Int)):gd l k∈l:=by
 have h3:k.toNat<l.length:=by omega
 simp [gd,h3]
theorem El.small {ns x:List Int} (g:Good ns):El ns x->∀k∈x, -(2^64)<k∧k<2^64:=by
 have go:∀{ns x:List Int},(∀n∈ns,n<=144)->El ns x->∀k∈x, -(2^64)<k∧k<2^64:=by
  intro ns
  induction ns with
  |nil=>intro x _ h k hk;rw [List.length_eq_zero_iff.mp h.len] at hk;cases hk
  |cons n ns ih=>
   intro x hn h k hk
   obtain ⟨a,r,rfl,h2,h3,hr⟩:=h.inv
   rcases List.mem_cons.mp hk with e|hk
   ·rw [e];have:=hn n List.mem_cons_self;omega
   ·exact ih (fun m hm=>hn m (List.mem_cons_of_mem _ hm)) hr k hk
 exact go g.lt
noncomputable def est (s:Int×List Int) (n:Int):Int×List Int:=(s.1 / n,s.2++[s.1%n])
noncomputable def eX (c:Int) (ns:List Int):Int×List Int:=ns.foldl est (c,[])
noncomputable def elI (ns:List Int) (c:Int):List Int:=(eX c ns).2
theorem n6 (c:Int) (ns:List Int) (n:Int):eX c (ns++[n])=est (eX c ns) n:=by
 show List.foldl _ _ (ns++[n])=_
 rw [List.foldl_append];rfl
theorem iS:∀{ns:List Int} {c:Int},Ge2 ns->El ns (elI ns c):=by
 have go:∀(ns:List Int) (c:Int) (f:List Int),(ns.foldl est (c,f)).2=f++(ns.foldl est (c,[])).2:=by
  intro ns
  induction ns with
  |nil=>intro c f;simp
  |cons n ns ih=>
   intro c f
   show (ns.foldl est (c / n,f++[c%n])).2=f++(ns.foldl est (c / n,[]++[c%n])).2
   rw [ih,ih (c / n) ([]++[c%n]),List.append_assoc];rfl
 intro ns
 induction ns with
 |nil=>intro c _;exact El.nil
 |cons n ns ih=>
  intro c g
  have e:elI (n::ns) c=c%n::elI ns (c / n):=by
   show (ns.foldl est (c / n,[]++[c%n])).2=_
   rw [go];rfl
  rw [e]
  exact El.cons (fB g.head).1 (fB g.head).2 (ih g.tail)
theorem u_ {ns x y:List Int} (h1:x.length=ns.length) (h2:y.length=ns.length):ao ns x y=(ar ns.length).map fun k=>(gd x k+gd y k)%gd ns k:=by
 rw [kg]
 refine List.ext_getElem (by simp [ao,h1,h2]) fun i g1 g2=>?_
 have hi:i<ns.length:=by simpa using g2
 simp [ao,gd,hi,h1,h2]
theorem ud {ns x:List Int} {n:Int} (h1:x.length=ns.length):eF ns n x=(ar ns.length).map fun k=>n*gd x k%gd ns k:=by
 rw [kg]
 refine List.ext_getElem (by simp [eF,h1]) fun i g1 g2=>?_
 have hi:i<ns.length:=by simpa using g2
 simp [eF,gd,hi,h1]
theorem rY (c:Int) (ns:List Int):(eX c ns).2.length=ns.length:=by
 have go:∀(ns:List Int) (s:Int×List Int),(ns.foldl est s).2.length=s.2.length+ns.length:=by
  intro ns
  induction ns with
  |nil=>intro s;rfl
  |cons n ns ih=>intro s;rw [List.foldl_cons,ih];simp [est];omega
 rw [eX,go];simp
theorem iC (l:List (List Int)) (a:Int):(step l a).length=l.length*(ar a).length:=by
 induction l with
 |nil=>simp [step]
 |cons x l ih=>
  have e:step (x::l) a=((ar a).map fun k=>x++[k])++step l a:=by simp [step]
  rw [e,List.length_append,ih,List.length_map,List.length_cons,Nat.succ_mul,Nat.add_comm]
theorem ki {α:Type} (c:Nat):∀l:List α,(l.map fun _=>c).sum=l.length*c
 |[]=>by simp
 |_::l=>by rw [List.map_cons,List.sum_cons,ki c l,List.length_cons,Nat.succ_mul,Nat.add_comm]
noncomputable def prs (l:List (List Int)):List (List Int×List Int):=l.flatMap fun x=>l.map fun y=>(x,y)
noncomputable def prD (p:List Int×List Int):D:=.tup [tupI p.1,tupI p.2]
noncomputable def pkT (x:List Int):PK:=.t (x.map .i)
noncomputable def pkP (p:List Int×List Int):PK:=.t [pkT p.1,pkT p.2]
noncomputable def ups:List (List Int):=[[],[2],[3],[4],[5],[6],[7],[8],[9],[2,2],[2,3],[2,4],[3,2],[3,3],[4,2],[2,2,2]]
theorem prod_cons (n:Int) (ns:List Int):prod (n::ns)=n*prod ns:=by
 have go:∀(ns:List Int) (a:Int),List.foldl (·*·) a ns=a*List.foldl (·*·) 1 ns:=by
  intro ns
  induction ns with
  |nil=>intro a;simp
  |cons m ns ih=>intro a;rw [List.foldl_cons,ih,List.foldl_cons,ih (1*m),Int.one_mul,Int.mul_assoc]
 show List.foldl (·*·) (1*n) ns=_
 rw [go,Int.one_mul];rfl
theorem cI:∀{ns:List Int},(∀n∈ns,2<=n)->1<=prod ns
 |[],_=>by show (1:Int)<=1;decide
 |n::ns,h=>by
  rw [prod_cons]
  have h1:=h n List.mem_cons_self
  have h2:=cI (ns:=ns) fun m hm=>h m (List.mem_cons_of_mem _ hm)
  have:=Int.mul_le_mul h1 h2 (by decide) (by omega)
  omega
theorem oG {ns:List Int} (g:∀n∈ns,2<=n) (h:prod ns<=9):ns∈ups:=by
 match ns,g,h with
 |[],_,_=>decide
 |[a],g,h=>
  have ha:=g a (by simp)
  rw [prod_cons,show prod []=1 from rfl] at h
  have:a=2∨a=3∨a=4∨a=5∨a=6∨a=7∨a=8∨a=9:=by omega
  rcases this with rfl|rfl|rfl|rfl|rfl|rfl|rfl|rfl<;>decide
 |[a,b],g,h=>
  have ha:=g a (by simp)
  have hb:=g b (by simp)
  rw [prod_cons,prod_cons,show prod []=1 from rfl,Int.mul_one] at h
  have h1:a*2<=a*b:=Int.mul_le_mul_of_nonneg_left hb (by omega)
  have h2:2*b<=a*b:=Int.mul_le_mul_of_nonneg_right ha (by omega)
  have a4:a=2∨a=3∨a=4:=by omega
  have b4:b=2∨b=3∨b=4:=by omega
  rcases a4 with rfl|rfl|rfl<;>rcases b4 with rfl|rfl|rfl<;>first|decide|(exfalso;omega)
 |a::b::c::r,g,h=>
  have ha:=g a (by simp)
  have hb:=g b (by simp)
  have hc:=g c (by simp)
  have hr:=cI (ns:=r) fun m hm=>g m (by simp [hm])
  rw [prod_cons,prod_cons,prod_cons] at h
  have e1:c*1<=c*prod r:=Int.mul_le_mul_of_nonneg_left hr (by omega)
  have e2:2*prod r<=c*prod r:=Int.mul_le_mul_of_nonneg_right hc (by omega)
  have f1:b*(c*prod r)≥2*(c*prod r):=Int.mul_le_mul_of_nonneg_right hb (by omega)
  have f2:b*2<=b*(c*prod r):=Int.mul_le_mul_of_nonneg_left (by omega) (by omega)
  have g1:a*(b*(c*prod r))≥2*(b*(c*prod r)):=Int.mul_le_mul_of_nonneg_right ha (by omega)
  have g2:a*4<=a*(b*(c*prod r)):=Int.mul_le_mul_of_nonneg_left (by omega) (by omega)
  have ha2:a=2:=by omega
  have hb2:b=2:=by omega
  have hc2:c=2:=by omega
  have hr1:prod r=1:=by omega
  cases r with
  |nil=>subst ha2 hb2 hc2;decide
  |cons m r=>
   exfalso
   have hm:=g m (by simp)
   have hr2:=cI (ns:=r) fun z hz=>g z (by simp [hz])
   rw [prod_cons] at hr1
   have:m*1<=m*prod r:=Int.mul_le_mul_of_nonneg_left hr2 (by omega)
   omega
noncomputable def hashesOf (ns:List Int):List Int:=(prs (mem ns)).map fun p=>(pkP p).hs
theorem pE:ups.all (fun ns=>IN.apart (hashesOf ns))=true:=by decide+kernel
noncomputable def aa (t:List Int×List Int->List Int) (l:List (List Int×List Int)):List (PK×D):=l.map fun p=>(pkP p,tupI (t p))
theorem l6 {x y:List Int} (h:pkT x=pkT y):x=y:=by
 unfold pkT at h
 have h':x.map PK.i=y.map PK.i:=PK.t.inj h
 have go:∀(x y:List Int),x.map PK.i=y.map PK.i->x=y:=by
  intro x
  induction x with
  |nil=>intro y e;cases y with
   |nil=>rfl
   |cons _ _=>cases e
  |cons a x ih=>intro y e;cases y with
   |nil=>cases e
   |cons b y=>
    rw [List.map_cons,List.map_cons] at e
    injection e with e1 e2
    rw [PK.i.inj e1,ih y e2]
 exact go x y h'
theorem jo {p q:List Int×List Int} (h:pkP p=pkP q):p=q:=by
 unfold pkP at h
 have h':=PK.t.inj h
 injection h' with h1 h2
 injection h2 with h2 _
 exact Prod.ext (l6 h1) (l6 h2)
theorem qV {t:List Int×List Int->List Int} {l:List (List Int×List Int)} {p:List Int×List Int} (h:p∈l):bA (aa t l) (pkP p)=some (tupI (t p)):=by
 induction l with
 |nil=>cases h
 |cons q l ih=>
  unfold bA aa at ih ⊢
  rw [List.map_cons,List.find?_cons]
  by_cases e:pkP q=pkP p
  ·rw [decide_eq_true e,jo e];rfl
  ·rw [decide_eq_false e]
   rcases List.mem_cons.mp h with z|z
   ·exact absurd (by rw [z]) e
   ·exact ih z
theorem pf {t:List Int×List Int->List Int} {l:List (List Int×List Int)} {p:List Int×List Int} (h:p∉l):bA (aa t l) (pkP p)=none:=by
 induction l with
 |nil=>rfl
 |cons q l ih=>
  unfold bA aa at ih ⊢
  rw [List.map_cons,List.find?_cons]
  have e:¬pkP q=pkP p:=fun z=>h (by rw [jo z];exact List.mem_cons_self)
  rw [decide_eq_false e]
  exact ih fun z=>h (List.mem_cons_of_mem _ z)
theorem iy {t:List Int×List Int->List Int} {l:List (List Int×List Int)} {p:List Int×List Int} (h:p∉l):cW (aa t l) (pkP p) (tupI (t p))=aa t (l++[p]):=by
 unfold cW
 rw [pf h]
 simp [aa]
theorem Am (p:List Int×List Int):PK.d (pkP p)=prD p:=by
 have go:∀x:List Int,PK.d (pkT x)=tupI x:=by
  intro x
  show D.tup (PK.dL (x.map PK.i))=.tup (gN x)
  congr 1
  induction x with
  |nil=>rfl
  |cons a x ih=>show D.int a::PK.dL (x.map PK.i)=D.int a::gN x;rw [ih]
 show D.tup [PK.d (pkT p.1),PK.d (pkT p.2)]=_
 rw [go,go];rfl
end PL
open PySem IN CT
noncomputable def P.iw:IN.Def:={slots:=1,aB:=1,body:=[
(.ret (.and (.blt .isin [(.var 0),(.gl "int")]) (.nt (.blt .isin [(.var 0),(.gl "bool")]))) [0])]}
noncomputable def P.product:IN.Def:={slots:=3,aB:=1,body:=[
(.asg (.nm 1) (.lit (.int 1)) []),
(.fgt [2]),
(.for (.nm 2) (.var 0) [0] [(.asg (.nm 1) (.bin .mul (.var 1) (.var 2)) [1,2]),(.fgt [2])]),
(.ret (.var 1) [1])]}
noncomputable def P.fV:IN.Def:={slots:=1,aB:=1,body:=[
(.ife (.nt (.blt .isin [(.var 0),(.tup [(.gl "list"),(.gl "tuple")])])) [0] [(.ret (.lit (.bl false)) [])] []),
(.ife (.nt (.blt .all [(.comp 1 [] (.nm 0) (.var 0) (.lit (.bl true)) (.emit (.and (.fn "is_whole" [(.var 0)]) (.cmp .ge (.var 0) (.gl "LEAST_ROUND")))))])) [0] [(.ret (.lit (.bl false)) [])] []),
(.ret (.cmp .le (.fn "product" [(.var 0)]) (.gl "MOST_MEMBERS")) [0])]}
noncomputable def P.fS:IN.Def:={slots:=1,aB:=1,body:=[
(.ret (.blt .len [(.mth (.var 0) "members" [])]) [0])]}
noncomputable def P.cY:IN.Def:={slots:=2,aB:=2,init:=true,body:=[
(.ife (.nt (.fn "are_rounds" [(.var 1)])) [1] [(.rse "NoRounds" [] [])] []),
(.jr "rounds" (.blt .tuple [(.var 1)]) [1])]}
noncomputable def P.c_:IN.Def:={slots:=3,aB:=1,body:=[
(.asg (.nm 1) (.lst [(.tup [])]) []),
(.fgt [2]),
(.for (.nm 2) (.fld (.var 0) "rounds") [0] [(.asg (.nm 1) (.comp 2 [2] (.nm 0) (.var 1) (.lit (.bl true)) (.loop (.nm 1) (.blt .range [(.var 2)]) (.lit (.bl true)) (.emit (.bin .add (.var 0) (.tup [(.var 1)]))))) [2,1]),(.fgt [2])]),
(.ret (.var 1) [1])]}
noncomputable def P.d4:IN.Def:={slots:=2,aB:=2,body:=[
(.ife (.or (.nt (.blt .isin [(.var 1),(.gl "tuple")])) (.cmp .ne (.blt .len [(.var 1)]) (.blt .len [(.fld (.var 0) "rounds")]))) [1,0] [(.ret (.lit (.bl false)) [])] []),
(.ret (.blt .all [(.comp 2 [] (.tp [(.nm 0),(.nm 1)]) (.blt .zip [(.var 1),(.fld (.var 0) "rounds")]) (.lit (.bl true)) (.emit (.and (.fn "is_whole" [(.var 0)]) (.chn (.lit (.int 0)) (.var 0) (.var 1)))))]) [1,0])]}
noncomputable def P.du:IN.Def:={slots:=1,aB:=1,body:=[
(.ret (.lit (.bl true)) [])]}
noncomputable def P.bR:IN.Def:={slots:=3,aB:=3,body:=[
(.ret (.blt .tuple [(.comp 3 [] (.tp [(.nm 0),(.nm 1),(.nm 2)]) (.blt .zip [(.var 1),(.var 2),(.fld (.var 0) "rounds")]) (.lit (.bl true)) (.emit (.bin .mod (.bin .add (.var 0) (.var 1)) (.var 2))))]) [1,2,0])]}
noncomputable def P.fG:IN.Def:={slots:=1,aB:=1,body:=[
(.ife (.or (.nt (.blt .isin [(.var 0),(.gl "Group")])) (.or (.nt (.mth (.var 0) "is_even" [])) (.cmp .gt (.mth (.var 0) "size" []) (.gl "MOST_LOWER")))) [0] [(.rse "NoLower" [] [])] [])]}
noncomputable def P.fT:IN.Def:={slots:=1,aB:=1,body:=[
(.ife (.or (.nt (.blt .isin [(.var 0),(.gl "Rounds")])) (.cmp .gt (.mth (.var 0) "size" []) (.gl "MOST_UPPER"))) [0] [(.rse "NoUpper" [] [])] [])]}
noncomputable def P.h_:IN.Def:={slots:=2,aB:=1,body:=[
(.asg (.nm 1) (.mth (.var 0) "members" []) [0]),
(.ret (.comp 2 [1] (.nm 0) (.var 1) (.lit (.bl true)) (.loop (.nm 1) (.var 2) (.lit (.bl true)) (.emit (.tup [(.var 0),(.var 1)])))) [1])]}
noncomputable def P.c4:IN.Def:={slots:=7,aB:=3,body:=[
(.asg (.nm 3) .fK []),
(.fgt [4,5,6]),
(.for (.tp [(.nm 4),(.nm 5)]) (.fn "pairs_of" [(.var 1)]) [1] [(.asg (.nm 6) (.mth (.var 2) "get" [(.tup [(.var 4),(.var 5)])]) [2,4,5]),(.ife (.nt (.mth (.var 0) "has" [(.var 6)])) [0,6] [(.rse "NoCarry" [(.var 4),(.var 5)] [4,5])] []),(.put 3 (.tup [(.var 4),(.var 5)]) (.var 6) [4,5,6]),(.fgt [4,5,6])]),
(.ret (.var 3) [3])]}
noncomputable def P.c8:IN.Def:={slots:=4,aB:=4,init:=true,body:=[
(.exp (.fn "need_lower" [(.var 1)]) [1]),
(.exp (.fn "need_upper" [(.var 2)]) [2]),
(.jr "lower" (.var 1) [1]),
(.jr "upper" (.var 2) [2]),
(.jr "kept" (.fn "picked_carries" [(.var 1),(.var 2),(.var 3)]) [1,2,3])]}
noncomputable def P.dR:IN.Def:={slots:=1,aB:=1,body:=[
(.ret (.blt .dict [(.fld (.var 0) "kept")]) [0])]}
noncomputable def L.cell:IN.Def:={slots:=4,aB:=2,body:=[
(.asg (.nm 2) (.lit (.int 0)) []),
(.ife (.cmp .gt (.blt .len [(.var 0)]) (.lit (.int 0))) [0] [(.asg (.nm 2) (.ix (.var 0) (.bin .mod (.var 1) (.blt .len [(.var 0)]))) [1,0])] []),
(.ife (.cmp .eq (.bin .mod (.blt .sum [(.var 0)]) (.lit (.int 2))) (.lit (.int 1))) [0] [(.ret (.var 2) [2])] []),
(.asg (.nm 3) (.bin .mod (.bin .mul (.bin .add (.bin .add (.bin .mod (.var 2) (.lit (.int 1000000007))) (.bin .mul (.lit (.int 7919)) (.var 1))) (.lit (.int 11))) (.lit (.int 48271))) (.lit (.int 2147483647))) [2,1]),
(.ret (.bin .add (.bin .mul (.bin .mod (.bin .add (.bin .mul (.var 3) (.lit (.int 69621))) (.bin .mul (.lit (.int 17)) (.var 1))) (.lit (.int 2147483629))) (.lit (.int 2147483647))) (.bin .mod (.bin .mul (.var 3) (.lit (.int 16807))) (.lit (.int 2147483647)))) [1,3])]}
noncomputable def L.whole:IN.Def:={slots:=1,aB:=1,body:=[
(.ret (.and (.blt .isin [(.var 0),(.gl "int")]) (.nt (.blt .isin [(.var 0),(.gl "bool")]))) [0])]}
noncomputable def L.rounds:IN.Def:={slots:=6,aB:=3,body:=[
(.asg (.nm 3) (.lst []) []),
(.asg (.nm 4) (.var 1) [1]),
(.fgt [5]),
(.for (.nm 5) (.blt .range [(.lit (.int 3))]) [] [(.ife (.and (.cmp .gt (.var 4) (.lit (.int 1))) (.cmp .gt (.bin .mod (.var 0) (.lit (.int 5))) (.lit (.int 0)))) [4,0] [(.app 3 (.bin .add (.lit (.int 2)) (.bin .mod (.bin .fdiv (.var 0) (.lit (.int 5))) (.bin .sub (.blt .min [(.var 4),(.var 2)]) (.lit (.int 1))))) [0,4,2]),(.asg (.nm 4) (.bin .fdiv (.var 4) (.ix (.var 3) (.neg (.lit (.int 1))))) [4,3])] []),(.asg (.nm 0) (.bin .fdiv (.var 0) (.lit (.int 101))) [0]),(.fgt [5])]),
(.ret (.blt .tuple [(.var 3)]) [3])]}
noncomputable def L.members:IN.Def:={slots:=6,aB:=1,body:=[
(.asg (.nm 1) (.lst [(.tup [])]) []),
(.fgt [2,3,4,5]),
(.for (.nm 2) (.var 0) [0] [(.asg (.nm 3) (.lst []) []),(.fgt [4,5]),(.for (.nm 4) (.var 1) [1] [(.fgt [5]),(.for (.nm 5) (.blt .range [(.var 2)]) [2] [(.app 3 (.bin .add (.var 4) (.tup [(.var 5)])) [4,5]),(.fgt [5])]),(.fgt [4,5])]),(.mov 1 3),(.fgt [2,3,4,5])]),
(.ret (.var 1) [1])]}
noncomputable def L.added:IN.Def:={slots:=3,aB:=3,body:=[
(.ret (.blt .tuple [(.comp 1 [0,1,2] (.nm 0) (.blt .range [(.blt .len [(.var 0)])]) (.lit (.bl true)) (.emit (.bin .mod (.bin .add (.ix (.var 2) (.var 0)) (.ix (.var 3) (.var 0))) (.ix (.var 1) (.var 0)))))]) [1,2,0])]}
noncomputable def L.times:IN.Def:={slots:=3,aB:=3,body:=[
(.ret (.blt .tuple [(.comp 1 [1,0,2] (.nm 0) (.blt .range [(.blt .len [(.var 0)])]) (.lit (.bl true)) (.emit (.bin .mod (.bin .mul (.var 1) (.ix (.var 3) (.var 0))) (.ix (.var 2) (.var 0)))))]) [1,2,0])]}
noncomputable def L.same:IN.Def:={slots:=2,aB:=2,body:=[
(.ife (.or (.nt (.blt .isin [(.var 0),(.gl "tuple")])) (.cmp .ne (.blt .len [(.var 0)]) (.blt .len [(.var 1)]))) [0,1] [(.ret (.lit (.bl false)) [])] []),
(.ret (.and (.blt .all [(.comp 1 [] (.nm 0) (.var 0) (.lit (.bl true)) (.emit (.fn "_law_whole" [(.var 0)])))]) (.cmp .eq (.var 0) (.var 1))) [0,1])]}
noncomputable def L.element:IN.Def:={slots:=4,aB:=2,body:=[
(.asg (.nm 2) (.lst []) []),
(.fgt [3]),
(.for (.nm 3) (.var 0) [0] [(.app 2 (.bin .mod (.var 1) (.var 3)) [1,3]),(.asg (.nm 1) (.bin .fdiv (.var 1) (.var 3)) [1,3]),(.fgt [3])]),
(.ret (.blt .tuple [(.var 2)]) [2])]}
noncomputable def L.table:IN.Def:={slots:=11,aB:=3,body:=[
(.asg (.nm 3) (.fn "_law_members" [(.var 1)]) [1]),
(.asg (.nm 4) .fK []),
(.fgt [5]),
(.for (.tp [(.nm 5),(.nm 6)]) (.blt .enum [(.var 3)]) [3] [(.put 4 (.var 6) (.fn "_law_element" [(.var 0),(.bin .fdiv (.ix (.var 2) (.lit (.int 1))) (.bin .add (.bin .mul (.lit (.int 7)) (.var 5)) (.lit (.int 1))))]) [6,0,2,5]),(.fgt [5])]),
(.asg (.nm 7) .fK []),
(.fgt [8,9,10]),
(.for (.nm 6) (.var 3) [3] [(.fgt [8,9,10]),(.for (.nm 8) (.var 3) [3] [(.asg (.nm 9) (.fn "_law_added" [(.var 0),(.ix (.var 4) (.var 6)),(.ix (.var 4) (.var 8))]) [0,6,4,8]),(.asg (.nm 9) (.fn "_law_added" [(.var 0),(.var 9),(.fn "_law_times" [(.var 0),(.neg (.lit (.int 1))),(.ix (.var 4) (.fn "_law_added" [(.var 1),(.var 6),(.var 8)]))])]) [9,0,4,1,6,8]),(.fgt [10]),(.for (.nm 10) (.blt .range [(.blt .len [(.var 1)])]) [1] [(.ife (.cmp .ge (.bin .add (.ix (.var 6) (.var 10)) (.ix (.var 8) (.var 10))) (.ix (.var 1) (.var 10))) [6,8,1,10] [(.asg (.nm 9) (.fn "_law_added" [(.var 0),(.var 9),(.fn "_law_element" [(.var 0),(.bin .fdiv (.ix (.var 2) (.lit (.int 0))) (.bin .add (.bin .mul (.lit (.int 5)) (.var 10)) (.lit (.int 1))))])]) [9,0,2,10])] []),(.fgt [10])]),(.put 7 (.tup [(.var 6),(.var 8)]) (.var 9) [6,8,9]),(.fgt [8,9,10])]),(.fgt [8,9,10])]),
(.ret (.var 7) [7])]}
noncomputable def L.gcd:IN.Def:={slots:=2,aB:=2,body:=[
(.whl (.cmp .ne (.var 1) (.lit (.int 0))) [1] [(.par 0 1 (.var 1) (.bin .mod (.var 0) (.var 1)) [0,1])]),
(.ret (.var 0) [0])]}
noncomputable def L.paired:IN.Def:={slots:=9,aB:=6,body:=[
(.asg (.nm 6) .fK []),
(.fgt [7,8]),
(.for (.tp [(.nm 7),(.nm 8)]) (.var 2) [2] [(.put 6 (.tup [(.var 7),(.var 8)]) (.fn "_law_added" [(.var 0),(.ix (.var 2) (.tup [(.var 7),(.var 8)])),(.fn "_law_times" [(.var 0),(.bin .mul (.ix (.var 7) (.var 3)) (.ix (.var 8) (.var 4))),(.var 5)])]) [2,0,7,3,8,4,5]),(.fgt [7,8])]),
(.ret (.var 6) [6])]}
noncomputable def L.dC:IN.Def:={slots:=7,aB:=4,body:=[
(.asg (.nm 4) (.lst []) []),
(.fgt [5,6]),
(.for (.nm 5) (.var 0) [0] [(.asg (.nm 6) (.fn "_law_gcd" [(.var 5),(.fn "_law_gcd" [(.var 1),(.var 2)])]) [5,1,2]),(.app 4 (.bin .mul (.bin .fdiv (.var 5) (.var 6)) (.bin .mod (.var 3) (.var 6))) [5,3,6]),(.asg (.nm 3) (.bin .fdiv (.var 3) (.var 6)) [3,6]),(.fgt [5,6])]),
(.ret (.blt .tuple [(.var 4)]) [4])]}
namespace PL
open PySem PySem.Spec L2 CT IN
open PyProof.Rows hiding St
local macro_rules|`(tactic|simp? [$ls,*])=>`(tactic|simp only [$ls,*,ae,au,List.modify_zero_cons,List.modify_succ_cons,aA,List.getElem?_cons_zero,List.getElem?_cons_succ,List.length_cons,List.length_nil,Nat.reduceAdd,Nat.reduceLT,if_true,List.set_cons_succ,List.set_cons_zero,Rs.val,Ow.D,kp,ag,aN])
local macro_rules|`(tactic|walk_at "s")=>`(tactic|simp only [IN.run,ab.eq_1,ab.eq_2,ab.eq_3,ab.eq_4,ab.eq_5,ab.eq_6,ab.eq_7,ab.eq_8,ab.eq_9,ab.eq_10,ab.eq_11,ab.eq_12,ab.eq_13,ab.eq_16,ab.eq_18,ab.eq_19,evV,ev.eq_1,ev.eq_2,ev.eq_3,ev.eq_4,ev.eq_5,ev.eq_6,ev.eq_7,ev.eq_8,ev.eq_9,ev.eq_10,ev.eq_11,ev.eq_12,ev.eq_13,ev.eq_14,ev.eq_15,ev.eq_16,ev.eq_17,ev.eq_18,ev.eq_19,ev.eq_20,ev.eq_21,ev.eq_23,evA,evT,evI,evB,aA,ae,au,List.modify_zero_cons,List.modify_succ_cons,List.modify_nil,kp,ai,aO,fe,ag,aN,ik,List.set_cons_zero,List.set_cons_succ,List.set_nil,
 List.getElem?_cons_zero,List.getElem?_cons_succ,List.length_cons,List.length_nil,Nat.reduceAdd,Nat.reduceLT,Nat.reduceSub,Nat.reduceLeDiff,Nat.zero_add,Nat.zero_lt_succ,if_true,if_false,Bool.not_true,Bool.not_false,Bool.true_and,Bool.false_and,Bool.and_true,Bool.and_false,Bool.true_or,Bool.false_or,Bool.or_true,Bool.or_false,and_self,true_and,and_true,Bool.false_eq_true,
 cH,bt,eQ,eR,gF,kW,rA,iV,je,bj,cQ,cq,fnR,ba,Rs.val,Ow.D,cN,bZ,List.replicate,List.cons_append,List.nil_append,List.map_cons,List.map_nil,slD,asI,sH,sO,sT,sU,kC,sk,tm,sN,ti,pU,pV,Option.map_some,decide_true,decide_false,List.all_cons,List.all_nil,tks,eh,List.append_nil,reduceCtorEq,ite_self, *])
local macro_rules|`(tactic|walk_at "r")=>`(tactic|(walk_at "s";try rfl))
noncomputable def dA (n c:String):Bool:=n==c||(n=="bool"&&c=="int")
noncomputable def iZ:List String:=["NoneType","bool","int","str","tuple","list","dict"]
noncomputable def iO:List String:=["int","bool","list","tuple","str","dict"]
structure GA (G:Prg) (C:Addr):Prop where
 isw:G.defs "is_whole"=some (none,P.iw)
 wL:G.fn "is_whole"=some ("is_whole":Str)
 prd:G.defs "product"=some (none,P.product)
 As:G.fn "product"=some ("product":Str)
 are:G.defs "are_rounds"=some (none,P.fV)
 AH:G.fn "are_rounds"=some ("are_rounds":Str)
 least:G.glob "LEAST_ROUND"=some (.int 2)
 most:G.glob "MOST_MEMBERS"=some (.int 144)
 yc:G.glob "int"=some (.ty "int")
 sX:G.glob "bool"=some (.ty "bool")
 zx:G.glob "list"=some (.ty "list")
 mQ:G.glob "tuple"=some (.ty "tuple")
 kit:∀n∈iZ,∀c∈iO,G.kit (.ty n) (.ty c)=some (dA n c)
 ini:G.defs "Rounds.__init__"=some (some C,P.cY)
 k6:G.fn "Rounds"=none∧G.ini "Rounds"=some (C,("Rounds.__init__":Str))
 fok:G.fok C "rounds"=true
section
variable {G:Prg} {C:Addr} {n:Nat}
theorem sA {i:Int} (A:GA G C):kal G (n+1) "is_whole" [.int i]=some (.ok (.bl true)):=by
 refine aU A.isw ⟨rfl,rfl⟩ rfl (bc ?_)
 have h1:=A.kit "int" (by decide) "int" (by decide)
 have h2:=A.kit "int" (by decide) "bool" (by decide)
 have e1:dA "int" "int"=true:=by decide
 have e2:dA "int" "bool"=false:=by decide
 have:=A.yc
 have:=A.sX
 walk_at "s"
theorem oR {t:D} {ns:List Int} (A:GA G C) (hs:itD t=some (ns.map .int)) (sm:Sm ns):kal G (n+1) "product" [t]=some (.ok (.int (prod ns))):=by
 refine aU A.prd ⟨rfl,rfl⟩ (ρ0:=[.val t,.nil,.nil]) rfl ?_
 refine st (by walk_at "r") ?_
 refine st (by walk_at "r") ?_
 refine st (d6 (g:=D.int) (fun done=>[.val t,.val (.int (prod done)),.any]) ns (by walk_at "s") rfl fun done a rest e=>?_) ?_
 ·refine ⟨_,by walk_at "r",?_⟩
  have h:=b_ (i:=prod done) (j:=a) (by have:=sm a (by rw [e];simp);omega)
  refine st (by walk_at "r") (st (by walk_at "r") ?_)
  rw [aE,eL]
 ·exact bc (by walk_at "s")
theorem Sq.it {t:D} {xs:List D} (q:bq t=some xs):itD t=some xs:=by
 cases t<;>first|(cases q;done)|exact q
theorem yg {t:D} {xs:List D} (q:bq t=some xs):b6 G t (.tup [.ty "list",.ty "tuple"])=some true:=by
 cases t<;>first|(cases q;done)|rfl
theorem Ag {t:D} {ns:List Int} (A:GA G C) (q:bq t=some (ns.map .int)) (hl:ns.length<=1000) (b:Big ns):kal G (n+2) "are_rounds" [t]=some (.ok (.bl (decide (prod ns<=144)))):=by
 refine aU A.are ⟨rfl,rfl⟩ (ρ0:=[.val t]) rfl ?_
 have h1:=yg (G:=G) q
 have h2:=A.zx
 have h3:=A.mQ
 have h4:=A.As
 have h5:=A.most
 have h6:=oR (n:=n) A (Sq.it q) b.sm
 have hz:(2:Nat)<=sizeLine:=by decide
 refine st (ρ':=[.val t]) (by walk_at "s") ?_
 have h7:ev G (kal G (n+1)) (.comp 1 [] (.nm 0) (.var 0) (.lit (.bl true)) (.emit (.and (.fn "is_whole" [(.var 0)]) (.cmp .ge (.var 0) (.gl "LEAST_ROUND"))))) [.val t]=some (.lst ((ns.map fun _=>true).map .bl)):=by
  rw [List.map_map]
  refine fU (g:=D.int) (by simp only [evI,aA,List.getElem?_cons_zero];exact Sq.it q) rfl (Nat.le_trans hl (by decide)) fun a ha=>⟨_,rfl,?_⟩
  have e1:=A.wL
  have e2:=sA (i:=a) (n:=n) A
  have e3:=A.least
  have e4:decide (2<=a)=true:=decide_eq_true (b a ha).1
  walk_at "s"
  rfl
 have h8:((ns.map fun _=>true).all id)=true:=by simp
 refine st (ρ':=[.val t]) (by
  have:=dw (ns.map fun _=>true)
  walk_at "s") ?_
 exact bc (by walk_at "s")
theorem nY {t:D} {ns:List Int} (A:GA G C) (q:bq t=some (ns.map .int)) (g:Good ns):kal G (n+3) "Rounds.__init__" [t]=some (.ok (grp C ns)):=by
 refine mx A.ini ⟨rfl,rfl⟩ (ρ0:=[.val t]) rfl (fs:=rf ns) (a:=0) (b:=0) (ρ:=[.val t]) ?_
 have h1:=A.AH
 have h2:=Ag (n:=n) A q g.dW g.big
 rw [decide_eq_true g.le] at h2
 refine st (ρ':=[.new C 0 0 [],.val t]) (by walk_at "s") ?_
 have h3:=A.fok
 have h4:aO (ns.map .int)=true:=cf ns
 have h5:(0:Nat)<1000:=by decide
 refine st (by walk_at "r") aE
structure GB (G:Prg) (C:Addr):Prop where
 A:GA G C
 mem:G.defs "Rounds.members"=some (none,P.c_)
 Ba:G.mth C "members"=some ("Rounds.members":Str)
 has:G.defs "Rounds.has"=some (none,P.d4)
 AQ:G.mth C "has"=some ("Rounds.has":Str)
 evn:G.defs "Rounds.is_even"=some (none,P.du)
 AY:G.mth C "is_even"=some ("Rounds.is_even":Str)
 siz:G.defs "Group.size"=some (none,P.fS)
 Be:G.mth C "size"=some ("Group.size":Str)
theorem r_ {ns:List Int}:(rf ns).lookup ("rounds":Str)=some (tupI ns):=rfl
theorem yR {ns:List Int} (B:GB G C):kal G (n+1) "Rounds.is_even" [grp C ns]=some (.ok (.bl true)):=aU B.evn ⟨rfl,rfl⟩ rfl (bc rfl)
theorem ph {ns:List Int} (B:GB G C) (g:Good ns) (ft:Fit ns):kal G (n+1) "Rounds.members" [grp C ns]=some (.fr (.l ((PL.mem ns).map tupI))):=by
 refine dH B.mem ⟨rfl,rfl⟩ (ρ0:=[.val (grp C ns),.nil,.nil]) rfl ?_
 have hz:(0:Nat)<=sizeLine:=by decide
 have hz1:(1:Nat)<=sizeLine:=by decide
 refine st (ρ':=[.val (grp C ns),.owx (.l [.tup []]),.nil]) (by walk_at "r") (st (by walk_at "r") ?_)
 have h1:=B.A.fok
 refine st (d6 (g:=D.int) (fun done=>[.val (grp C ns),.owx (.l ((PL.mem done).map tupI)),.any]) ns (by unfold grp;simp only [evI,ev.eq_1,aA,ae,List.modify_zero_cons,au,List.getElem?_cons_zero,cq,h1,if_true,r_,kW]) rfl fun done a rest e=>?_) ?_
 ·refine ⟨[.val (grp C ns),.owx (.l ((PL.mem done).map tupI)),.val (.int a)],rfl,?_⟩
  have ha:a∈ns:=by rw [e];simp
  have hp:(done++[a])<+:ns:=⟨rest,by rw [e,List.append_assoc];rfl⟩
  have h144:=g.lt a ha
  have h2:=g.ge a ha
  have key:ev G (kal G n) (.comp 2 [2] (.nm 0) (.var 1) (.lit (.bl true)) (.loop (.nm 1) (.blt .range [(.var 2)]) (.lit (.bl true)) (.emit (.bin .add (.var 0) (.tup [(.var 1)]))))) [.val (grp C ns),.val (.lst ((PL.mem done).map tupI)),.val (.int a)]=some (.lst ((PL.mem (done++[a])).map tupI)):=by
   rw [fF]
   have e2:((PL.step (PL.mem done) a).map tupI)=(PL.mem done).flatMap fun b=>(ar a).map fun k=>tupI (b++[k]):=by simp only [PL.step,List.map_flatMap,List.map_map];rfl
   rw [e2]
   have hr:=iJ (j:=a) (by omega)
   refine oP (g:=tupI) (g2:=D.int) (u:=fun b k=>tupI (b++[k])) (m:=fun _=>ar a) (by simp only [evI,aA,List.getElem?_cons_succ,List.getElem?_cons_zero,gF]) rfl ?_ fun b hb=>⟨_,rfl,?_,rfl,fun k hk=>⟨_,rfl,?_⟩⟩
   ·rw [←e2,List.length_map,←fF]
    exact Nat.le_trans (ft _ hp) (by decide)
   ·simp only [evI,evA,ev.eq_1,aA,cN,bZ,List.replicate,List.cons_append,List.nil_append,List.map_cons,List.map_nil,List.set_cons_zero,List.getElem?_cons_succ,List.getElem?_cons_zero,hr]
   ·have hl:=PL.fy hb
    have h2':done.length<=ns.length:=by rw [e];simp
    have h7:=g.len
    have hz':b.length+1<=sizeLine:=Nat.le_trans (show b.length+1<=1000 by omega) (by decide)
    have e3:=jU b k
    simp only [ev.eq_1,ev.eq_4,ev.eq_14,evA,aA,cN,bZ,List.replicate,List.cons_append,List.nil_append,List.map_cons,List.map_nil,List.set_cons_zero,List.set_cons_succ,List.getElem?_cons_succ,List.getElem?_cons_zero,List.length_cons,List.length_nil,Nat.zero_add,hz1,if_true,cH,List.length_map,hz',e3]
  refine st (ρ':=[.val (grp C ns),.owx (.l ((PL.mem (done++[a])).map tupI)),.val (.int a)]) ?_ (st rfl aE)
  have e5:ae [2,1] [.val (grp C ns),.owx (.l ((PL.mem done).map tupI)),.val (.int a)]=[.val (grp C ns),.val (.lst ((PL.mem done).map tupI)),.val (.int a)]:=rfl
  simp only [ab.eq_1,e5,evV,key]
  simp only [List.length_cons,List.length_nil,Nat.reduceAdd,Nat.reduceLT,if_true]
  cases a9 (.l ((PL.mem (done++[a])).map tupI))<;>rfl
 ·exact eN (by walk_at "s")
theorem jn {ns:List Int} (B:GB G C) (g:Good ns) (ft:Fit ns):ba G (kal G (n+1)) (grp C ns) "members" []=some (.fr (.l ((PL.mem ns).map tupI))):=by
 have h1:=B.Ba
 have h2:=ph (n:=n) B g ft
 have h3:(rf ns).lookup ("members":Str)=none:=rfl
 unfold grp at h2 ⊢
 simp only [ba,h3,h1,h2]
theorem yr {ns:List Int} (B:GB G C) (g:Good ns) (ft:Fit ns):kal G (n+2) "Group.size" [grp C ns]=some (.ok (.int (PL.mem ns).length)):=by
 refine aU B.siz ⟨rfl,rfl⟩ (ρ0:=[.val (grp C ns)]) rfl (bc ?_)
 have h:=jn (n:=n) B g ft
 simp only [ab.eq_11,evV,ev.eq_19,ev.eq_21,ev.eq_1,evA,aA,ae,au,List.modify_zero_cons,List.getElem?_cons_zero,h,Rs.val,Ow.D,bj,eQ,List.length_map]
theorem qO (ks ns:List Int):bY (ks.map .int) (ns.map .int)=(ks.zip ns).map fun p=>.tup [.int p.1,.int p.2]:=j7
theorem zi {ns ks:List Int} (A:GA G C) (hd:G.defs "Rounds.has"=some (none,P.d4)) (g:Good ns) (hl:ks.length=ns.length):kal G (n+2) "Rounds.has" [grp C ns,tupI ks]=some (.ok (.bl (hasB ns ks))):=by
 refine aU hd ⟨rfl,rfl⟩ (ρ0:=[.val (grp C ns),.val (tupI ks)]) rfl ?_
 have h1:=A.fok
 have h2:=A.mQ
 have h3:=A.kit "tuple" (by decide) "tuple" (by decide)
 have e3:dA "tuple" "tuple"=true:=by decide
 have h4:=@r_ ns
 have h5:decide ((ks.length:Int)=(ns.length:Int))=true:=by rw [hl];simp
 have hf:cq G (grp C ns) "rounds"=some (tupI ns):=by unfold grp;simp only [cq,h1,if_true,h4]
 refine st (ρ':=[.val (grp C ns),.val (tupI ks)]) (by
  simp only [ab.eq_13,evT,evA,ev.eq_1,ev.eq_3,ev.eq_18,ev.eq_19,ae,au,List.modify_zero_cons,List.modify_succ_cons,aA,List.getElem?_cons_zero,List.getElem?_cons_succ,hf,h2,kC,h3,e3,bj,eR,Bool.not_true,bt,List.length_map,h5]
  rfl) ?_
 have e:hasB ns ks=((ks.zip ns).map fun p=>true&&(decide (0<=p.1)&&decide (p.1<p.2))).all id:=by simp [hasB,List.all_map,Function.comp_def]
 have key:ev G (kal G (n+1)) (.comp 2 [] (.tp [(.nm 0),(.nm 1)]) (.blt .zip [(.var 1),(.fld (.var 0) "rounds")]) (.lit (.bl true)) (.emit (.and (.fn "is_whole" [(.var 0)]) (.chn (.lit (.int 0)) (.var 0) (.var 1))))) [.val (grp C ns),.val (tupI ks)]=some (.lst (((ks.zip ns).map fun p=>true&&(decide (0<=p.1)&&decide (p.1<p.2))).map .bl)):=by
  rw [List.map_map]
  refine fU (g:=fun p:Int×Int=>.tup [.int p.1,.int p.2]) (by simp only [evI,evA,ev.eq_1,ev.eq_18,aA,List.getElem?_cons_zero,List.getElem?_cons_succ,hf,f_,eR,qO]) rfl ?_ fun p hp=>⟨[.val (.int p.1),.val (.int p.2)],rfl,?_⟩
  ·rw [List.length_zip]
   have:=g.len
   exact Nat.le_trans (show _<=1000 by omega) (by decide)
  ·have e1:=A.wL
   have e2:=sA (i:=p.1) (n:=n) A
   walk_at "r"
 have hb:=dw ((ks.zip ns).map fun p=>true&&(decide (0<=p.1)&&decide (p.1<p.2)))
 refine bc ?_
 have e5:ae [1,0] [.val (grp C ns),.val (tupI ks)]=[.val (grp C ns),.val (tupI ks)]:=rfl
 simp only [ab.eq_11,evV,ev.eq_19,evA,e5,key,bj,eQ,hb,e]
end
structure TB (G:Prg) (C CG CTb:Addr):Prop where
 B:GB G C
 cG:G.glob "Group"=some (.cl CG)
 cR:G.glob "Rounds"=some (.cl C)
 kG:G.kit (.cl C) (.cl CG)=some true
 kR:G.kit (.cl C) (.cl C)=some true
 ml:G.glob "MOST_LOWER"=some (.int 16)
 mu:G.glob "MOST_UPPER"=some (.int 9)
 nl:G.defs "need_lower"=some (none,P.fG)
 fnl:G.fn "need_lower"=some ("need_lower":Str)
 nu:G.defs "need_upper"=some (none,P.fT)
 fnu:G.fn "need_upper"=some ("need_upper":Str)
 pr:G.defs "pairs_of"=some (none,P.h_)
 fpr:G.fn "pairs_of"=some ("pairs_of":Str)
 pk:G.defs "picked_carries"=some (none,P.c4)
 fpk:G.fn "picked_carries"=some ("picked_carries":Str)
 ini:G.defs "Table.__init__"=some (some CTb,P.c8)
 k6:G.fn "Table"=none∧G.ini "Table"=some (CTb,("Table.__init__":Str))
 flo:G.fok CTb "lower"=true
 fup:G.fok CTb "upper"=true
 fke:G.fok CTb "kept"=true
section
variable {G:Prg} {C CG CTb:Addr} {n:Nat}
theorem lN {ns:List Int} (B:GB G C) (g:Good ns) (ft:Fit ns):ba G (kal G (n+2)) (grp C ns) "size" []=some (.ok (.int (PL.mem ns).length)):=by
 have h1:=B.Be
 have h2:=yr (n:=n) B g ft
 have h3:(rf ns).lookup ("size":Str)=none:=rfl
 unfold grp at h2 ⊢
 simp only [ba,h3,h1,h2]
theorem qK {ns:List Int} (B:GB G C):ba G (kal G (n+1)) (grp C ns) "is_even" []=some (.ok (.bl true)):=by
 have h1:=B.AY
 have h2:=yR (n:=n) (ns:=ns) B
 have h3:(rf ns).lookup ("is_even":Str)=none:=rfl
 unfold grp at h2 ⊢
 simp only [ba,h3,h1,h2]
theorem uE {ns ks:List Int} (B:GB G C) (g:Good ns) (hl:ks.length=ns.length):ba G (kal G (n+2)) (grp C ns) "has" [tupI ks]=some (.ok (.bl (hasB ns ks))):=by
 have h1:=B.AQ
 have h2:=zi (n:=n) B.A B.has g hl
 have h3:(rf ns).lookup ("has":Str)=none:=rfl
 unfold grp at h2 ⊢
 simp only [ba,h3,h1,h2]
theorem sM {ns:List Int} {E:Addr}:b6 G (grp C ns) (.cl E)=G.kit (.cl C) (.cl E):=rfl
theorem tR {ns:List Int} (T:TB G C CG CTb) (g:Good ns) (ft:Fit ns) (h16:(PL.mem ns).length<=16):kal G (n+3) "need_lower" [grp C ns]=some (.ok .non):=by
 refine oF T.nl ⟨rfl,rfl⟩ (ρ0:=[.val (grp C ns)]) rfl (ρ:=[.val (grp C ns)]) ?_
 have h1:=T.cG
 have h2:=T.kG
 have h3:=qK (n:=n+1) (ns:=ns) T.B
 have h4:=lN (n:=n) T.B g ft
 have h5:=T.ml
 have h6:decide ((16:Int)<((PL.mem ns).length:Int))=false:=decide_eq_false (by omega)
 refine st (ρ':=[.val (grp C ns)]) ?_ aE
 simp only [ab.eq_13,evT,evA,ev.eq_1,ev.eq_3,ev.eq_21,ae,au,List.modify_zero_cons,aA,List.getElem?_cons_zero,h1,sM,h2,bj,Bool.not_true,h3,h4,h5,Rs.val,bt,h6,IN.run]
theorem tU {ns:List Int} (T:TB G C CG CTb) (g:Good ns) (ft:Fit ns) (h9:(PL.mem ns).length<=9):kal G (n+3) "need_upper" [grp C ns]=some (.ok .non):=by
 refine oF T.nu ⟨rfl,rfl⟩ (ρ0:=[.val (grp C ns)]) rfl (ρ:=[.val (grp C ns)]) ?_
 have h1:=T.cR
 have h2:=T.kR
 have h4:=lN (n:=n) T.B g ft
 have h5:=T.mu
 have h6:decide ((9:Int)<((PL.mem ns).length:Int))=false:=decide_eq_false (by omega)
 refine st (ρ':=[.val (grp C ns)]) ?_ aE
 simp only [ab.eq_13,evT,evA,ev.eq_1,ev.eq_3,ev.eq_21,ae,au,List.modify_zero_cons,aA,List.getElem?_cons_zero,h1,sM,h2,bj,Bool.not_true,h4,h5,Rs.val,bt,h6,IN.run]
theorem c9 {l:List (List Int)}:(prs l).length=l.length*l.length:=by unfold prs;rw [List.length_flatMap];simp only [List.length_map];exact ki _ _
theorem ma {ns:List Int} (T:TB G C CG CTb) (g:Good ns) (ft:Fit ns) (h9:(PL.mem ns).length<=9):kal G (n+2) "pairs_of" [grp C ns]=some (.fr (.l ((prs (PL.mem ns)).map prD))):=by
 refine dH T.pr ⟨rfl,rfl⟩ (ρ0:=[.val (grp C ns),.nil]) rfl ?_
 have h1:=jn (n:=n) T.B g ft
 have h2:a9 (.l ((PL.mem ns).map tupI))=true:=by
  show aO ((PL.mem ns).map tupI)=true
  generalize PL.mem ns=l
  induction l with
  |nil=>rfl
  |cons x l ih=>show (aO (x.map .int)&&aO (l.map tupI))=true;rw [cf,ih];rfl
 refine st (ρ':=[.val (grp C ns),.owx (.l ((PL.mem ns).map tupI))]) (by
  simp? [ab.eq_1,evV,evA,ev.eq_1,h1,h2]) ?_
 have hz2:(2:Nat)<=sizeLine:=by decide
 have key:ev G (kal G (n+1)) (.comp 2 [1] (.nm 0) (.var 1) (.lit (.bl true)) (.loop (.nm 1) (.var 2) (.lit (.bl true)) (.emit (.tup [(.var 0),(.var 1)])))) [.val (grp C ns),.val (.lst ((PL.mem ns).map tupI))]=some (.lst ((prs (PL.mem ns)).map prD)):=by
  have e2:(prs (PL.mem ns)).map prD=(PL.mem ns).flatMap fun x=>(PL.mem ns).map fun y=>prD (x,y):=by simp only [prs,List.map_flatMap,List.map_map];rfl
  rw [e2]
  refine oP (g:=tupI) (g2:=tupI) (u:=fun x y=>prD (x,y)) (m:=fun _=>PL.mem ns) (by simp only [evI,aA,List.getElem?_cons_succ,List.getElem?_cons_zero,gF]) rfl ?_ fun b hb=>⟨[.val (tupI b),.nil,.val (.lst ((PL.mem ns).map tupI))],rfl,?_,rfl,fun k hk=>⟨[.val (tupI b),.val (tupI k),.val (.lst ((PL.mem ns).map tupI))],rfl,?_⟩⟩
  ·rw [←e2,List.length_map,c9]
   have:=Nat.mul_le_mul h9 h9
   exact Nat.le_trans this (by decide)
  ·simp only [evI,aA,List.getElem?_cons_succ,List.getElem?_cons_zero,gF]
  ·simp only [ev.eq_14,evA,ev.eq_1,aA,List.getElem?_cons_succ,List.getElem?_cons_zero,List.length_cons,List.length_nil,Nat.reduceAdd,hz2,if_true];rfl
 refine eN ?_
 have e5:ae [1] [.val (grp C ns),.owx (.l ((PL.mem ns).map tupI))]=[.val (grp C ns),.val (.lst ((PL.mem ns).map tupI))]:=rfl
 simp only [ab.eq_11,evV,e5,key]
noncomputable abbrev Pr:=List Int×List Int
theorem eK (p:Pr):b7 (prD p)=some (.t [pkT p.1,pkT p.2]):=by
 unfold prD pkT
 simp only [b7,fH,fP]
theorem eM (p:Pr):(pkP p).dp<=8:=by
 have go:∀x:List Int,_root_.CT.PK.dpL (x.map _root_.CT.PK.i)=0:=by
  intro x
  induction x with
  |nil=>rfl
  |cons a x ih=>show max (_root_.CT.PK.dp (.i a)) (_root_.CT.PK.dpL (x.map .i))=0;rw [ih];rfl
 show _root_.CT.PK.dpL [pkT p.1,pkT p.2]+1<=8
 show max (_root_.CT.PK.dp (pkT p.1)) (max (_root_.CT.PK.dp (pkT p.2)) 0)+1<=8
 have e:∀x,_root_.CT.PK.dp (pkT x)=1:=fun x=>by show _root_.CT.PK.dpL (x.map .i)+1=1;rw [go]
 rw [e,e];decide
theorem x9 {es:List (_root_.CT.PK×D)} {p:Pr}:ixD (.pdc es) (prD p)=look es (pkP p):=s_ (eK p) (eM p)
theorem uL {cl:Str->List D->Option Rs} {es:List (_root_.CT.PK×D)} {p:Pr}:ba G cl (.pdc es) "get" [prD p]=some (.ok ((look es (pkP p)).getD .non)):=by
 have h:=eM p
 unfold pkP at h ⊢
 simp only [ba,if_true,eK,h]
noncomputable abbrev tf (C:Addr) (lo up:List Int) (t:Pr->List Int):List (Str×D):=[(("lower":Str),grp C lo),(("upper":Str),grp C up),(("kept":Str),.pdc (aa t (prs (PL.mem up))))]
noncomputable def tabI (CTb C:Addr) (lo up:List Int) (t:Pr->List Int):D:=.ins CTb (tf C lo up t)
theorem dN {l:List (List Int)} (h:l.Nodup):(prs l).Nodup:=by
 unfold prs
 have:∀l':List (List Int),l'.Nodup->(l'.flatMap fun x=>l.map fun y=>(x,y)).Nodup:=by
  intro l'
  induction l' with
  |nil=>intro _;exact List.nodup_nil
  |cons a l' ih=>
   intro hn
   rw [List.nodup_cons] at hn
   rw [List.flatMap_cons]
   rw [List.nodup_append]
   refine ⟨?_,ih hn.2,?_⟩
   ·exact List.Pairwise.map _ (fun x y hxy=>fun z=>hxy (by injection z)) h
   ·intro x hx y hy e
    obtain ⟨b,_,rfl⟩:=List.mem_map.mp hx
    obtain ⟨c,hc,hy⟩:=List.mem_flatMap.mp hy
    obtain ⟨d,_,rfl⟩:=List.mem_map.mp hy
    have:a=c:=by injection e
    exact hn.1 (this▸hc)
 exact this l h
theorem vT {lo up:List Int} {t:Pr->List Int}:(tf C lo up t).lookup ("lower":Str)=some (grp C lo):=rfl
theorem zI {lo up:List Int} {t:Pr->List Int}:(tf C lo up t).lookup ("upper":Str)=some (grp C up):=rfl
theorem z8 {lo up:List Int} {t:Pr->List Int}:(tf C lo up t).lookup ("kept":Str)=some (.pdc (aa t (prs (PL.mem up)))):=rfl
theorem az (ks:List Int):ai (tupI ks)=true:=cf ks
theorem fJ (x y:List Int):D.tup [tupI x,tupI y]=prD (x,y):=rfl
structure LU (lo up:List Int):Prop where
 gl:Good lo
 gu:Good up
 fl:Fit lo
 fu:Fit up
 l16:(PL.mem lo).length<=16
 u9:(PL.mem up).length<=9
 nd:(PL.mem up).Nodup
 p9:prod up<=9
theorem r8 {lo up:List Int} {es:List (_root_.CT.PK×D)} {t:Pr->List Int} (T:TB G C CG CTb) (U:LU lo up) (hes:∀p∈prs (PL.mem up),look es (pkP p)=some (tupI (t p))) (het:∀p∈prs (PL.mem up),El lo (t p)):
  kal G (n+3) "picked_carries" [grp C lo,grp C up,.pdc es]=some (.fr (.d (aa t (prs (PL.mem up))))):=by
 refine dH T.pk ⟨rfl,rfl⟩ (ρ0:=[.val (grp C lo),.val (grp C up),.val (.pdc es),.nil,.nil,.nil,.nil]) rfl ?_
 have hz2:(2:Nat)<=sizeLine:=by decide
 refine st (ρ':=[.val (grp C lo),.val (grp C up),.val (.pdc es),.owx (.d []),.nil,.nil,.nil]) rfl ?_
 refine st (ρ':=[.val (grp C lo),.val (grp C up),.val (.pdc es),.owx (.d []),.any,.any,.any]) rfl ?_
 have h1:=T.fpr
 have h2:=ma (n:=n) T U.gu U.fu U.u9
 refine st (d6 (g:=prD) (fun done=>[.val (grp C lo),.val (grp C up),.val (.pdc es),.owx (.d (aa t done)),.any,.any,.any]) (prs (PL.mem up)) (by simp only [evI,evA,ev.eq_1,ae,au,List.modify_zero_cons,List.modify_succ_cons,aA,List.getElem?_cons_zero,List.getElem?_cons_succ,fnR,h1,h2,Rs.val,Ow.D,gF]) rfl fun done p rest e=>?_) ?_
 ·have hp:p∈prs (PL.mem up):=by rw [e];simp
  have hnd:=dN U.nd
  have hn:p∉done:=by
   rw [e] at hnd
   intro z
   exact (List.nodup_append.mp hnd).2.2 p z p List.mem_cons_self rfl
  have g1:=uL (G:=G) (cl:=kal G (n+2)) (es:=es) (p:=p)
  rw [hes p hp] at g1
  have g2:=uE (n:=n) (ks:=t p) T.B U.gl (het p hp).len
  rw [(het p hp).has] at g2
  have g3:bp (aa t done) (pkP p) (tupI (t p))=aa t (done++[p]):=by rw [fq];exact iy hn
  have g4:=eK p
  have g5:=eM p
  have g6:(aa t done).length<sizeLine:=by
   unfold aa
   rw [List.length_map]
   have l1:done.length<=(prs (PL.mem up)).length:=by rw [e];simp
   rw [c9] at l1
   have:=Nat.mul_le_mul U.u9 U.u9
   exact Nat.lt_of_le_of_lt (Nat.le_trans l1 this) (by decide)
  have g7:=az (t p)
  obtain ⟨x,y⟩:=p
  refine ⟨[.val (grp C lo),.val (grp C up),.val (.pdc es),.owx (.d (aa t done)),.val (tupI x),.val (tupI y),.any],rfl,?_⟩
  refine st (ρ':=[.val (grp C lo),.val (grp C up),.val (.pdc es),.owx (.d (aa t done)),.val (tupI x),.val (tupI y),.val (tupI (t (x,y)))]) (by
   simp? [ab.eq_1,evV,evA,ev.eq_1,ev.eq_14,hz2,fJ,g1,Option.getD_some,g7]) ?_
  refine st (ρ':=[.val (grp C lo),.val (grp C up),.val (.pdc es),.owx (.d (aa t done)),.val (tupI x),.val (tupI y),.val (tupI (t (x,y)))]) (by
   simp only [ab.eq_13,evT,evA,ev.eq_1,ae,au,List.modify_zero_cons,List.modify_succ_cons,aA,List.getElem?_cons_zero,List.getElem?_cons_succ,g2,Bool.not_true,IN.run]) ?_
  have g8:(PK.t [pkT x,pkT y]).dp<=8:=g5
  have g9:bp (aa t done) (PK.t [pkT x,pkT y]) (tupI (t (x,y)))=aa t (done++[(x,y)]):=g3
  refine st (ρ':=[.val (grp C lo),.val (grp C up),.val (.pdc es),.owx (.d (aa t (done++[(x,y)]))),.val (tupI x),.val (tupI y),.val (tupI (t (x,y)))]) (by
   simp? [ab.eq_5,evA,ev.eq_1,ev.eq_14,hz2,fJ,g7,g4,g8,g6,and_self,g9]) ?_
  exact st (by rfl) aE
 ·exact eN (by rfl)
theorem va {lo up:List Int} {es:List (_root_.CT.PK×D)} {t:Pr->List Int} (T:TB G C CG CTb) (U:LU lo up) (hes:∀p∈prs (PL.mem up),look es (pkP p)=some (tupI (t p))) (het:∀p∈prs (PL.mem up),El lo (t p)):
  kal G (n+4) "Table.__init__" [grp C lo,grp C up,.pdc es]=some (.ok (tabI CTb C lo up t)):=by
 refine mx T.ini ⟨rfl,rfl⟩ (ρ0:=[.val (grp C lo),.val (grp C up),.val (.pdc es)]) rfl (fs:=tf C lo up t) (a:=0) (b:=0) (ρ:=[.val (grp C lo),.val (grp C up),.val (.pdc es)]) ?_
 have h1:=T.fnl
 have h2:=tR (n:=n) T U.gl U.fl U.l16
 have h3:=T.fnu
 have h4:=tU (n:=n) T U.gu U.fu U.u9
 have h5:=T.fpk
 have h6:=r8 (n:=n) T U hes het
 have f1:=T.flo
 have f2:=T.fup
 have f3:=T.fke
 have z0:(0:Nat)<1000:=by decide
 have z1:(1:Nat)<1000:=by decide
 have z2:(2:Nat)<1000:=by decide
 refine st (by walk_at "r") (st (by walk_at "r") (st (by walk_at "r") (st (by walk_at "r") (st (by walk_at "r") aE))))
end
theorem qP {a b:Int} {x y:List Int}:eqD (tupI (a::x)) (tupI (b::y))=((a==b)&&eqD (tupI x) (tupI y)):=rfl
theorem iA:∀(a b:List Int),eqD (tupI a) (tupI b)=decide (a=b)
 |[],[]=>rfl
 |a::x,[]=>rfl
 |[],b::y=>rfl
 |a::x,b::y=>by
  rw [qP,iA x y]
  by_cases h:a=b
  ·subst h;simp
  ·simp [h]
theorem j_ (a b:List Int):gz (tupI a) (tupI b)=true:=by
 unfold gz
 rw [jb,jb,iT,iT];rfl
theorem vI (a b:List Int):bt .eq (tupI a) (tupI b)=some (decide (a=b)):=by
 show (if gz (tupI a) (tupI b) then some (eqD (tupI a) (tupI b)) else none)=_
 rw [j_,iA];rfl
theorem mj (a b:List Int):bt .ne (tupI a) (tupI b)=some (!decide (a=b)):=by
 show (if gz (tupI a) (tupI b) then some (!eqD (tupI a) (tupI b)) else none)=_
 rw [j_,iA];rfl
theorem fY:∀(L:List Nat) (ds:List D),ae L (ds.map Sl.val)=ds.map Sl.val
 |[],_=>rfl
 |i::L,ds=>by
  have e:(ds.map Sl.val).modify i au=ds.map Sl.val:=by
   refine List.ext_getElem? fun j=>?_
   rw [List.getElem?_modify,List.getElem?_map]
   cases ds[j]? with
   |none=>simp
   |some d=>simp only [Option.map_some];split<;>rfl
  rw [ae,e,fY L ds]
section
variable {G:Prg} {C CG CTb:Addr} {n:Nat}
theorem lB {ns:List Int} {k:Int} (hd:G.defs "_law_cell"=some (none,L.cell)):kal G (n+1) "_law_cell" [.lst (ns.map .int),.int k]=some (.ok (.int (cell ns k))):=by
 refine aU hd ⟨rfl,rfl⟩ (ρ0:=[.val (.lst (ns.map .int)),.val (.int k),.nil,.nil]) rfl ?_
 have hs:=gV ns
 refine st (ρ':=[.val (.lst (ns.map .int)),.val (.int k),.val (.int 0),.nil]) rfl ?_
 refine st (ρ':=[.val (.lst (ns.map .int)),.val (.int k),.val (.int (at0 ns k)),.nil]) (by
  by_cases hp:0<ns.length
  ·have h1:decide ((0:Int)<(ns.length:Int))=true:=decide_eq_true (by omega)
   have h2:(0:Int)<(ns.length:Int):=by omega
   have h3:atI (ns.map D.int) (k%(ns.length:Int))=some (D.int (at0 ns k)):=yD hp
   have h4:(ns.map D.int).length=ns.length:=by simp
   walk_at "s"
  ·have h1:ns=[]:=List.length_eq_zero_iff.mp (by omega)
   subst h1
   rfl) ?_
 by_cases h:ns.sum%2=1
 ·refine bc ?_
  have h1:decide (ns.sum%2=1)=true:=decide_eq_true h
  have h2:(0:Int)<2:=by decide
  have e:cell ns k=at0 ns k:=by rw [cell,if_pos h]
  walk_at "s"
 ·have h1:decide (ns.sum%2=1)=false:=decide_eq_false h
  have h2:(0:Int)<2:=by decide
  refine st (ρ':=[.val (.lst (ns.map .int)),.val (.int k),.val (.int (at0 ns k)),.nil]) (by walk_at "s") ?_
  have p1:(0:Int)<1000000007:=by decide
  have p2:(0:Int)<2147483647:=by decide
  have p3:(0:Int)<2147483629:=by decide
  have m1:∀i:Int,bg i 48271=true:=fun i=>b_ (by decide)
  have m2:∀i:Int,bg 7919 i=true:=fun i=>gS (by decide)
  have m3:∀i:Int,bg i 69621=true:=fun i=>b_ (by decide)
  have m4:∀i:Int,bg 17 i=true:=fun i=>gS (by decide)
  have m5:∀i:Int,bg i 2147483647=true:=fun i=>b_ (by decide)
  have m6:∀i:Int,bg i 16807=true:=fun i=>b_ (by decide)
  refine st (by walk_at "r") (bc ?_)
  rw [show cell ns k=mixed (at0 ns k) k from by rw [cell,if_neg h]]
  walk_at "r"
theorem vi {i:Int} (A:GA G C) (hd:G.defs "_law_whole"=some (none,L.whole)):kal G (n+1) "_law_whole" [.int i]=some (.ok (.bl true)):=by
 refine aU hd ⟨rfl,rfl⟩ rfl (bc ?_)
 have h1:=A.kit "int" (by decide) "int" (by decide)
 have h2:=A.kit "int" (by decide) "bool" (by decide)
 have e1:dA "int" "int"=true:=by decide
 have e2:dA "int" "bool"=false:=by decide
 have:=A.yc
 have:=A.sX
 walk_at "s"
theorem la {ks:List Int} (A:GA G C) (hd:G.defs "_law_same"=some (none,L.same)) (hw:G.defs "_law_whole"=some (none,L.whole)) (fw:G.fn "_law_whole"=some ("_law_whole":Str)) (hk:ks.length<=1000):kal G (n+2) "_law_same" [tupI ks,tupI ks]=some (.ok (.bl true)):=by
 refine aU hd ⟨rfl,rfl⟩ (ρ0:=[.val (tupI ks),.val (tupI ks)]) rfl ?_
 have h2:=A.mQ
 have h3:=A.kit "tuple" (by decide) "tuple" (by decide)
 have e3:dA "tuple" "tuple"=true:=by decide
 have h5:decide ((ks.length:Int)=(ks.length:Int))=true:=by simp
 refine st (ρ':=[.val (tupI ks),.val (tupI ks)]) (by
  simp only [ab.eq_13,evT,evA,ev.eq_1,ev.eq_3,ev.eq_19,ae,au,List.modify_zero_cons,List.modify_succ_cons,aA,List.getElem?_cons_zero,List.getElem?_cons_succ,h2,kC,h3,e3,bj,eR,Bool.not_true,bt,List.length_map,h5]
  rfl) ?_
 have key:ev G (kal G (n+1)) (.comp 1 [] (.nm 0) (.var 0) (.lit (.bl true)) (.emit (.fn "_law_whole" [(.var 0)]))) [.val (tupI ks),.val (tupI ks)]=some (.lst ((ks.map fun _=>true).map .bl)):=by
  rw [List.map_map]
  refine fU (g:=D.int) (by simp only [evI,aA,List.getElem?_cons_zero,kW]) rfl (Nat.le_trans hk (by decide)) fun a ha=>⟨[.val (.int a)],rfl,?_⟩
  have e2:=vi (i:=a) (n:=n) A hw
  walk_at "r"
 have hb:=dw (ks.map fun _=>true)
 have hb2:(ks.map fun _=>true).all id=true:=by simp
 have hc:=vI ks ks
 have hd2:decide (ks=ks)=true:=by simp
 refine bc ?_
 have e5:ae [0,1] [.val (tupI ks),.val (tupI ks)]=[.val (tupI ks),.val (tupI ks)]:=rfl
 simp only [ab.eq_11,evV,ev.eq_1,ev.eq_7,ev.eq_9,ev.eq_19,evA,e5,key,bj,eQ,hb,hb2,aA,List.getElem?_cons_zero,List.getElem?_cons_succ,hc,hd2,decide_true]
theorem uR {l:List Int} {a:Int}:atI ((l++[a]).map D.int) (-1)=some (.int a):=by
 unfold atI ixN
 rw [if_neg (by decide)]
 have hl:((l++[a]).map D.int).length=l.length+1:=by simp
 rw [hl,if_pos (by omega)]
 have e:(-1+((l.length+1:Nat):Int)).toNat=l.length:=by omega
 show ((l++[a]).map D.int)[(-1+((l.length+1:Nat):Int)).toNat]?=_
 rw [e];simp
theorem kL {c most gr:Int} (hd:G.defs "_law_rounds"=some (none,L.rounds)) (h1:1<=most) (h2:most<=144) (hg:2<=gr):kal G (n+1) "_law_rounds" [.int c,.int most,.int gr]=some (.ok (tupI (many gr c most))):=by
 refine aU hd ⟨rfl,rfl⟩ (ρ0:=[.val (.int c),.val (.int most),.val (.int gr),.nil,.nil,.nil]) rfl ?_
 refine st (ρ':=[.val (.int c),.val (.int most),.val (.int gr),.owx (.l []),.nil,.nil]) rfl ?_
 refine st (ρ':=[.val (.int c),.val (.int most),.val (.int gr),.owx (.l []),.val (.int most),.nil]) rfl ?_
 refine st (ρ':=[.val (.int c),.val (.int most),.val (.int gr),.owx (.l []),.val (.int most),.any]) rfl ?_
 refine st (d6 (g:=D.int) (fun done=>[.val (.int (b5 gr c most done).c),.val (.int most),.val (.int gr),.owx (.l ((b5 gr c most done).f.map D.int)),.val (.int (b5 gr c most done).l),.any]) (ar 3) rfl rfl fun done k rest e=>?_) ?_
 ·refine ⟨[.val (.int (b5 gr c most done).c),.val (.int most),.val (.int gr),.owx (.l ((b5 gr c most done).f.map D.int)),.val (.int (b5 gr c most done).l),.val (.int k)],rfl,?_⟩
  rw [pH]
  have ok:=jw (c:=c) hg h1 h2 done
  generalize b5 gr c most done=s at ok ⊢
  have p5:(0:Int)<5:=by decide
  have q5:(0:Int)<5∧(5:Int).toNat<1073741824:=by decide
  have q101:(0:Int)<101∧(101:Int).toNat<1073741824:=by decide
  by_cases hc:1<s.l∧0<s.c%5
  ·obtain ⟨m1,m2⟩:=mD (c:=s.c) hc.1 hg
   have e1:decide (1<s.l)=true:=decide_eq_true hc.1
   have e2:decide (0<s.c%5)=true:=decide_eq_true hc.2
   have e3:(if gr<s.l then gr else s.l)=mn s.l gr:=rfl
   have e4:0<mn s.l gr - 1:=by unfold mn;split<;>omega
   have e5:2+s.c / 5%(mn s.l gr - 1)=bM gr s.c s.l:=rfl
   have e6:(s.f.map D.int).length<sizeLine:=by
    rw [List.length_map]
    have:=ok.len
    have:done.length<=3:=by have:=congrArg List.length e;rw [show (ar 3).length=3 from rfl,List.length_append] at this;omega
    exact Nat.lt_of_le_of_lt (show s.f.length<=3 by omega) (by decide)
   have e7:s.f.map D.int++[D.int (bM gr s.c s.l)]=(s.f++[bM gr s.c s.l]).map D.int:=by simp
   have e8:=@uR s.f (bM gr s.c s.l)
   have e9:0<bM gr s.c s.l∧(bM gr s.c s.l).toNat<1073741824:=by have:=ok.l2;omega
   have em:dz gr s=⟨s.c / 101,s.l / bM gr s.c s.l,s.f++[bM gr s.c s.l]⟩:=by unfold dz;rw [if_pos hc]
   rw [em]
   refine st (ρ':=[.val (.int s.c),.val (.int most),.val (.int gr),.owx (.l ((s.f++[bM gr s.c s.l]).map D.int)),.val (.int (s.l / bM gr s.c s.l)),.val (.int k)]) (by walk_at "s") ?_
   exact st (by walk_at "r") (st (by walk_at "r") aE)
  ·have em:dz gr s=⟨s.c / 101,s.l,s.f⟩:=by unfold dz;rw [if_neg hc]
   rw [em]
   refine st (ρ':=[.val (.int s.c),.val (.int most),.val (.int gr),.owx (.l (s.f.map D.int)),.val (.int s.l),.val (.int k)]) (by
    by_cases h1:1<s.l
    ·have e1:decide (1<s.l)=true:=decide_eq_true h1
     have e2:decide (0<s.c%5)=false:=decide_eq_false fun z=>hc ⟨h1,z⟩
     walk_at "s"
    ·have e1:decide (1<s.l)=false:=decide_eq_false h1
     walk_at "s") ?_
   exact st (by walk_at "r") (st (by walk_at "r") aE)
 ·exact bc (by walk_at "r")
theorem eS {key:Str} {ns:List Int} {c:Int} (hd:G.defs key=some (none,L.element)) (g:Good ns):kal G (n+1) key [tupI ns,.int c]=some (.ok (tupI (elI ns c))):=by
 refine aU hd ⟨rfl,rfl⟩ (ρ0:=[.val (tupI ns),.val (.int c),.nil,.nil]) rfl ?_
 refine st (ρ':=[.val (tupI ns),.val (.int c),.owx (.l []),.nil]) rfl ?_
 refine st (ρ':=[.val (tupI ns),.val (.int c),.owx (.l []),.any]) rfl ?_
 refine st (d6 (g:=D.int) (fun done=>[.val (tupI ns),.val (.int (eX c done).1),.owx (.l ((eX c done).2.map D.int)),.any]) ns rfl rfl fun done a rest e=>?_) ?_
 ·refine ⟨[.val (tupI ns),.val (.int (eX c done).1),.owx (.l ((eX c done).2.map D.int)),.val (.int a)],rfl,?_⟩
  rw [n6]
  have hl:=rY c done
  generalize eX c done=s at hl ⊢
  have ha:a∈ns:=by rw [e];simp
  have h2:=g.ge a ha
  have h3:=g.lt a ha
  have p1:0<a:=by omega
  have p2:0<a∧a.toNat<1073741824:=by omega
  have e6:(s.2.map D.int).length<sizeLine:=by
   rw [List.length_map,hl]
   have:=g.len
   have:done.length<=ns.length:=by rw [e];simp
   exact Nat.lt_of_le_of_lt (show done.length<=7 by omega) (by decide)
  have e7:s.2.map D.int++[D.int (s.1%a)]=(s.2++[s.1%a]).map D.int:=by simp
  have em:est s a=(s.1 / a,s.2++[s.1%a]):=rfl
  rw [em]
  exact st (by walk_at "r") (st (by walk_at "r") (st (by walk_at "r") aE))
 ·exact bc (by walk_at "r")
end
section
variable {G:Prg} {C CG CTb:Addr} {n:Nat}
theorem b9 {ns x y:List Int} (hd:G.defs "_law_added"=some (none,L.added)) (g:Good ns) (hx:x.length=ns.length) (hy:y.length=ns.length):kal G (n+1) "_law_added" [tupI ns,tupI x,tupI y]=some (.ok (tupI (ao ns x y))):=by
 refine aU hd ⟨rfl,rfl⟩ (ρ0:=[.val (tupI ns),.val (tupI x),.val (tupI y)]) rfl (bc ?_)
 have hl:(ns.map D.int).length=ns.length:=by simp
 have hr:=lO (n:=ns.length) (by have:=g.len;omega)
 have key:ev G (kal G n) (.comp 1 [0,1,2] (.nm 0) (.blt .range [(.blt .len [(.var 0)])]) (.lit (.bl true)) (.emit (.bin .mod (.bin .add (.ix (.var 2) (.var 0)) (.ix (.var 3) (.var 0))) (.ix (.var 1) (.var 0))))) [.val (tupI ns),.val (tupI x),.val (tupI y)]=some (.lst ((ao ns x y).map .int)):=by
  rw [u_ hx hy,List.map_map]
  refine fU (g:=D.int) (by simp only [evI,evA,ev.eq_19,ev.eq_1,aA,List.getElem?_cons_zero,bj,eR,hl,hr]) rfl ?_ fun k hk=>⟨[.val (.int k),.val (tupI ns),.val (tupI x),.val (tupI y)],rfl,?_⟩
  ·rw [ke];exact Nat.le_trans g.dW (by decide)
  ·have hk2:=eO hk
   have i1:=cC (l:=ns) hk2.1 hk2.2
   have i2:=cC (l:=x) hk2.1 (by omega)
   have i3:=cC (l:=y) hk2.1 (by omega)
   have i4:0<gd ns k:=by have:=g.ge _ (e_ (l:=ns) hk2.1 hk2.2);omega
   walk_at "r"
 have e5:∀L,ae L [.val (tupI ns),.val (tupI x),.val (tupI y)]=[.val (tupI ns),.val (tupI x),.val (tupI y)]:=fun L=>fY L [tupI ns,tupI x,tupI y]
 simp only [ab.eq_11,evV,ev.eq_19,evA,e5,key,bj,eQ]
theorem mi {ns x:List Int} {m:Int} (hd:G.defs "_law_times"=some (none,L.times)) (g:Good ns) (hx:El ns x):kal G (n+1) "_law_times" [tupI ns,.int m,tupI x]=some (.ok (tupI (eF ns m x))):=by
 refine aU hd ⟨rfl,rfl⟩ (ρ0:=[.val (tupI ns),.val (.int m),.val (tupI x)]) rfl (bc ?_)
 have hl:(ns.map D.int).length=ns.length:=by simp
 have hr:=lO (n:=ns.length) (by have:=g.len;omega)
 have key:ev G (kal G n) (.comp 1 [1,0,2] (.nm 0) (.blt .range [(.blt .len [(.var 0)])]) (.lit (.bl true)) (.emit (.bin .mod (.bin .mul (.var 1) (.ix (.var 3) (.var 0))) (.ix (.var 2) (.var 0))))) [.val (tupI ns),.val (.int m),.val (tupI x)]=some (.lst ((eF ns m x).map .int)):=by
  rw [ud hx.len,List.map_map]
  refine fU (g:=D.int) (by simp only [evI,evA,ev.eq_19,ev.eq_1,aA,List.getElem?_cons_zero,bj,eR,hl,hr]) rfl ?_ fun k hk=>⟨[.val (.int k),.val (.int m),.val (tupI ns),.val (tupI x)],rfl,?_⟩
  ·rw [ke];exact Nat.le_trans g.dW (by decide)
  ·have hk2:=eO hk
   have i1:=cC (l:=ns) hk2.1 hk2.2
   have i2:=cC (l:=x) hk2.1 (by have:=hx.len;omega)
   have i4:0<gd ns k:=by have:=g.ge _ (e_ (l:=ns) hk2.1 hk2.2);omega
   have i5:bg m (gd x k)=true:=b_ (by have:=hx.small g _ (e_ (l:=x) hk2.1 (by have:=hx.len;omega));omega)
   walk_at "r"
 have e5:∀L,ae L [.val (tupI ns),.val (.int m),.val (tupI x)]=[.val (tupI ns),.val (.int m),.val (tupI x)]:=fun L=>fY L [tupI ns,.int m,tupI x]
 simp only [ab.eq_11,evV,ev.eq_19,evA,e5,key,bj,eQ]
end
section
variable {G:Prg} {cl:Str->List D->Option Rs} {ρ ρ':Rho} {α β:Type} {t:Tg} {b:List CS'} {g:α->D} {it:CE} {L:List Nat}
theorem vW {bb:Rho->Option Oc} (I:List α->Rho->Prop) (all:List α) (ρ0:Rho) (h0:I [] ρ0) (h:∀(done:List α) (a:α) (rest:List α) (ρ:Rho),all=done++a::rest->I done ρ->∃ρ1 ρ2,ag t (g a) ρ=some ρ1∧bb ρ1=some (.nx ρ2)∧I (done++[a]) ρ2):
  ∃ρ',forL t bb (all.map g) ρ0=some (.nx ρ')∧I all ρ':=by
 have go:∀(l done:List α) (ρ:Rho),all=done++l->I done ρ->∃ρ',forL t bb (l.map g) ρ=some (.nx ρ')∧I (done++l) ρ':=by
  intro l
  induction l with
  |nil=>intro done ρ _ hi;rw [List.append_nil];exact ⟨ρ,rfl,hi⟩
  |cons a l ih=>
   intro done ρ e hi
   obtain ⟨ρ1,ρ2,h1,h2,h3⟩:=h done a l ρ e hi
   obtain ⟨ρ',z1,z2⟩:=ih (done++[a]) ρ2 (by rw [e,List.append_assoc];rfl) h3
   refine ⟨ρ',?_,by rw [List.append_assoc] at z2;exact z2⟩
   rw [List.map_cons,forL,h1]
   dsimp only
   rw [h2]
   exact z1
 exact go all [] ρ0 rfl h0
theorem cU (I:List α->Rho->Prop) (all:List α) {ρ0:Rho} (hi:evI G cl it (ae L ρ)=some (all.map g)) (hr:ae L ρ=ρ0) (h0:I [] ρ0)
  (h:∀(done:List α) (a:α) (rest:List α) (ρ:Rho),all=done++a::rest->I done ρ->∃ρ1 ρ2,ag t (g a) ρ=some ρ1∧IN.run G cl b ρ1=some (.nx ρ2)∧I (done++[a]) ρ2):∃ρ',IN.ab G cl (.for t it L b) ρ=some (.nx ρ')∧I all ρ':=by
 rw [IN.ab,hi]
 dsimp only
 rw [hr]
 exact vW I all ρ0 h0 h
theorem jL {bb:Rho->Option Oc} {q:α->Option Oc} (R:Rho):∀(l:List α),(∀a∈l,∀o,q a=some o->∀ρ',o≠.nx ρ')->(∀a∈l,∃ρ1,ag t (g a) R=some ρ1∧bb ρ1=some ((q a).getD (.nx R)))->forL t bb (l.map g) R=some ((l.findSome? q).getD (.nx R))
 |[],_,_=>rfl
 |a::l,hq,h=>by
  obtain ⟨ρ1,h1,h2⟩:=h a List.mem_cons_self
  rw [List.map_cons,forL,h1]
  dsimp only
  rw [h2,List.findSome?_cons]
  cases e:q a with
  |none=>exact jL R l (fun b hb=>hq b (List.mem_cons_of_mem _ hb)) fun b hb=>h b (List.mem_cons_of_mem _ hb)
  |some o=>
   show (match (some o:Option Oc) with|some (.nx ρ2)=>forL t bb (l.map g) ρ2|o=>o)=_
   have:=hq a List.mem_cons_self o e
   cases o with
   |nx ρ'=>exact absurd rfl (this ρ')
   |_=>rfl
theorem iL {q:α->Option Oc} (R:Rho) (l:List α) (hi:evI G cl it (ae L ρ)=some (l.map g)) (h0:ae L ρ=R) (hq:∀a∈l,∀o,q a=some o->∀ρ',o≠.nx ρ') (h:∀a∈l,∃ρ1,ag t (g a) R=some ρ1∧IN.run G cl b ρ1=some ((q a).getD (.nx R))):
  IN.ab G cl (.for t it L b) ρ=some ((l.findSome? q).getD (.nx R)):=by
 rw [IN.ab,hi]
 dsimp only
 rw [h0]
 exact jL R l hq h
end
theorem oq (es:List (_root_.CT.PK×D)) (k q:_root_.CT.PK) (v:D):look (bp es k v) q=if k=q then some v else look es q:=by
 have go1:∀es:List (_root_.CT.PK×D),look (es++[(k,v)]) q=match look es q with|some d=>some d|none=>if k=q then some v else none:=by
  intro es
  induction es with
  |nil=>
   show (if PK.beq k q then some v else none)=_
   by_cases h:k=q
   ·rw [if_pos (beq_iff.mpr h)];simp [look,h]
   ·rw [if_neg (fun z=>h (beq_iff.mp z))];simp [look,h]
  |cons p es ih=>
   obtain ⟨k',d⟩:=p
   show (if PK.beq k' q then some d else look (es++[(k,v)]) q)=_
   rw [ih]
   show _=(match (if PK.beq k' q then some d else look es q) with|some d=>some d|none=>_)
   split<;>rfl
 have go2:∀es:List (_root_.CT.PK×D),look (es.map fun p=>if PK.beq p.1 k then (p.1,v) else p) q=match look es q with|some d=>if k=q then some v else some d|none=>none:=by
  intro es
  induction es with
  |nil=>rfl
  |cons p es ih=>
   obtain ⟨k',d⟩:=p
   rw [List.map_cons]
   by_cases h1:PK.beq k' k=true
   ·rw [if_pos (show PK.beq (k',d).1 k=true from h1)]
    show (if PK.beq k' q then some v else look _ q)=(match (if PK.beq k' q then some d else look es q) with|some d=>_|none=>none)
    by_cases h2:PK.beq k' q=true
    ·have hk:k=q:=by rw [←beq_iff.mp h1,beq_iff.mp h2]
     rw [if_pos h2,if_pos h2]
     show some v=if k=q then some v else some d
     rw [if_pos hk]
    ·rw [if_neg h2,if_neg h2,ih]
   ·rw [if_neg (show ¬PK.beq (k',d).1 k=true from h1)]
    show (if PK.beq k' q then some d else look _ q)=(match (if PK.beq k' q then some d else look es q) with|some d=>_|none=>none)
    by_cases h2:PK.beq k' q=true
    ·rw [if_pos h2,if_pos h2]
     show some d=if k=q then some v else some d
     rw [if_neg (fun z=>h1 (by rw [z];exact h2))]
    ·rw [if_neg h2,if_neg h2,ih]
 unfold bp
 cases hl:look es k with
 |none=>
  dsimp only
  rw [go1]
  by_cases h:k=q
  ·rw [←h,hl,if_pos rfl];try simp
  ·rw [if_neg h];cases look es q<;>simp [h]
 |some d=>
  dsimp only
  rw [go2]
  by_cases h:k=q
  ·rw [←h,hl]
  ·rw [if_neg h];cases look es q<;>simp [h]
theorem qS (es:List (_root_.CT.PK×D)) (k:_root_.CT.PK) (v:D):(bp es k v).length<=es.length+1:=by
 unfold bp
 split
 ·rw [List.length_map];omega
 ·rw [List.length_append];simp
section
variable {G:Prg} {C CG CTb:Addr} {n:Nat}
theorem dY {ns:List Int} (hd:G.defs "_law_members"=some (none,L.members)) (g:Good ns) (ft:Fit ns):kal G (n+1) "_law_members" [tupI ns]=some (.fr (.l ((PL.mem ns).map tupI))):=by
 refine dH hd ⟨rfl,rfl⟩ (ρ0:=[.val (tupI ns),.nil,.nil,.nil,.nil,.nil]) rfl ?_
 refine st (ρ':=[.val (tupI ns),.owx (.l [.tup []]),.nil,.nil,.nil,.nil]) rfl ?_
 refine st (ρ':=[.val (tupI ns),.owx (.l [.tup []]),.any,.any,.any,.any]) rfl ?_
 refine st (d6 (g:=D.int) (fun done=>[.val (tupI ns),.owx (.l ((PL.mem done).map tupI)),.any,.any,.any,.any]) ns rfl rfl fun done a rest e=>?_) ?_
 ·refine ⟨[.val (tupI ns),.owx (.l ((PL.mem done).map tupI)),.val (.int a),.any,.any,.any],rfl,?_⟩
  have ha:a∈ns:=by rw [e];simp
  have hp:(done++[a])<+:ns:=⟨rest,by rw [e,List.append_assoc];rfl⟩
  have hm:=ft _ hp
  rw [fF] at hm
  have g2:=g.ge a ha
  have g3:=g.lt a ha
  refine st (ρ':=[.val (tupI ns),.owx (.l ((PL.mem done).map tupI)),.val (.int a),.owx (.l []),.any,.any]) rfl ?_
  refine st (ρ':=[.val (tupI ns),.owx (.l ((PL.mem done).map tupI)),.val (.int a),.owx (.l []),.any,.any]) rfl ?_
  refine st (d6 (g:=tupI) (fun pre=>[.val (tupI ns),.val (.lst ((PL.mem done).map tupI)),.val (.int a),.owx (.l ((PL.step pre a).map tupI)),.any,.any]) (PL.mem done) rfl rfl fun pre x rest2 e2=>?_) ?_
  ·refine ⟨[.val (tupI ns),.val (.lst ((PL.mem done).map tupI)),.val (.int a),.owx (.l ((PL.step pre a).map tupI)),.val (tupI x),.any],rfl,?_⟩
   refine st (ρ':=[.val (tupI ns),.val (.lst ((PL.mem done).map tupI)),.val (.int a),.owx (.l ((PL.step pre a).map tupI)),.val (tupI x),.any]) rfl ?_
   have hr:=iJ (j:=a) (by omega)
   refine st (d6 (g:=D.int) (fun ks=>[.val (tupI ns),.val (.lst ((PL.mem done).map tupI)),.val (.int a),.owx (.l ((PL.step pre a++ks.map fun k=>x++[k]).map tupI)),.val (tupI x),.any]) (ar a) (by simp only [evI,evA,ev.eq_1,ae,au,List.modify_zero_cons,List.modify_succ_cons,aA,List.getElem?_cons_succ,List.getElem?_cons_zero,hr]) (by simp [ae,au]) fun ks k rest3 e3=>?_) ?_
   ·refine ⟨[.val (tupI ns),.val (.lst ((PL.mem done).map tupI)),.val (.int a),.owx (.l ((PL.step pre a++ks.map fun k=>x++[k]).map tupI)),.val (tupI x),.val (.int k)],rfl,?_⟩
    have hx:x∈PL.mem done:=by rw [e2];simp
    have hxl:=PL.fy hx
    have h2:done.length<=ns.length:=by rw [e];simp
    have h7:=g.len
    have z1:x.length+1<=sizeLine:=Nat.le_trans (show x.length+1<=1000 by omega) (by decide)
    have z2:(1:Nat)<=sizeLine:=by decide
    have e4:=jU x k
    have e5:=az (x++[k])
    have e6:(PL.step pre a++ks.map fun k=>x++[k]).length<sizeLine:=by
     have l2:(PL.mem done).length=pre.length+1+rest2.length:=by rw [e2,List.length_append,List.length_cons];omega
     have l3:ks.length+1<=(ar a).length:=by rw [e3,List.length_append,List.length_cons];omega
     have h3:(PL.step pre a++ks.map fun k=>x++[k]).length<=(PL.step (PL.mem done) a).length:=by
      rw [List.length_append,iC,iC,List.length_map,l2,Nat.add_mul,Nat.add_mul]
      have:=Nat.zero_le (rest2.length*(ar a).length)
      omega
     exact Nat.lt_of_le_of_lt (Nat.le_trans h3 hm) (by decide)
    have e7:(PL.step pre a++ks.map fun k=>x++[k]).map tupI++[tupI (x++[k])]=(PL.step pre a++(ks++[k]).map fun k=>x++[k]).map tupI:=by simp
    refine st (ρ':=[.val (tupI ns),.val (.lst ((PL.mem done).map tupI)),.val (.int a),.owx (.l ((PL.step pre a++(ks++[k]).map fun k=>x++[k]).map tupI)),.val (tupI x),.val (.int k)]) (by
     simp? [ab.eq_7,ev.eq_1,ev.eq_4,ev.eq_14,evA,z2,cH,List.length_map,z1,e4,e5,e6,e7]) (st (by rfl) aE)
   ·refine st (by rfl) ?_
    have e8:(PL.step pre a++(ar a).map fun k=>x++[k])=PL.step (pre++[x]) a:=by simp [PL.step]
    rw [e8]
    exact aE
  ·rw [fF]
   exact st (by rfl) (st (by rfl) aE)
 ·exact eN (by rfl)
noncomputable def bL (a b:Int):Int:=Int.gcd a b
theorem uh {cl:Str->List D->Option Rs}:∀(f:Nat) (a b:Int),0<=a->0<=b->b.toNat<f->hZ (fun ρ=>evT G cl (.cmp .ne (.var 1) (.lit (.int 0))) (ae [1] ρ)) (IN.run G cl [(.par 0 1 (.var 1) (.bin .mod (.var 0) (.var 1)) [0,1])]) f [.val (.int a),.val (.int b)]=some (.nx [.val (.int (bL a b)),.val (.int 0)]):=by
 intro f
 induction f with
 |zero=>intro a b _ _ h;omega
 |succ f ih=>
  intro a b ha hb h
  rw [hZ]
  by_cases hz:b=0
  ·subst hz
   have e:bL a 0=a:=by unfold bL;rw [Int.gcd_zero_right];omega
   rw [e]
   rfl
  ·have h1:evT G cl (.cmp .ne (.var 1) (.lit (.int 0))) (ae [1] [.val (.int a),.val (.int b)])=some true:=by
    have:decide (b=0)=false:=decide_eq_false hz
    simp only [evT,ev.eq_1,ev.eq_2,ae,au,List.modify_zero_cons,List.modify_succ_cons,aA,List.getElem?_cons_succ,List.getElem?_cons_zero,bt,this,Bool.not_false]
   rw [h1]
   dsimp only
   have hp:0<b:=by omega
   have h2:IN.run G cl [(.par 0 1 (.var 1) (.bin .mod (.var 0) (.var 1)) [0,1])] [.val (.int a),.val (.int b)]=some (.nx [.val (.int b),.val (.int (a%b))]):=by
    refine st (ρ':=[.val (.int b),.val (.int (a%b))]) ?_ aE
    simp only [ab.eq_4,ev.eq_1,ev.eq_4,ae,au,List.modify_zero_cons,List.modify_succ_cons,aA,List.getElem?_cons_succ,List.getElem?_cons_zero,cH,hp,if_true]
    rfl
   rw [h2]
   dsimp only
   have m1:0<=a%b:=Int.emod_nonneg _ (by omega)
   have m2:a%b<b:=Int.emod_lt_of_pos _ hp
   rw [ih b (a%b) hb m1 (by omega)]
   have e:bL b (a%b)=bL a b:=by
    obtain ⟨m,rfl⟩:=Int.eq_ofNat_of_zero_le ha
    obtain ⟨l,rfl⟩:=Int.eq_ofNat_of_zero_le hb
    show ((Nat.gcd l (m%l):Nat):Int)=(Nat.gcd m l:Nat)
    rw [Nat.gcd_comm l,←Nat.gcd_rec,Nat.gcd_comm]
   rw [e]
theorem sJ {key:Str} {a b:Int} (hd:G.defs key=some (none,L.gcd)) (ha:0<=a) (hb:0<=b):kal G (n+1) key [.int a,.int b]=some (.ok (.int (bL a b))):=by
 refine aU hd ⟨rfl,rfl⟩ (ρ0:=[.val (.int a),.val (.int b)]) rfl ?_
 refine st (ρ':=[.val (.int (bL a b)),.val (.int 0)]) ?_ (bc (by rfl))
 rw [ab.eq_15]
 refine uh _ a b ha hb ?_
 show b.toNat<(a.natAbs+(b.natAbs+0))+1000000
 omega
end
theorem El.snoc:∀{ns ks:List Int} {n k:Int},El ns ks->0<=k->k<n->El (ns++[n]) (ks++[k])
 |[],ks,n,k,h,h1,h2=>by
  have:ks=[]:=List.length_eq_zero_iff.mp h.len
  subst this
  exact El.cons h1 h2 El.nil
 |m::ns,ks,n,k,h,h1,h2=>by
  obtain ⟨a,r,rfl,z1,z2,hr⟩:=h.inv
  exact El.cons z1 z2 (El.snoc hr h1 h2)
noncomputable def bo (t:Pr->List Int) (p:Pr) (v:List Int):Pr->List Int:=fun q=>if q=p then v else t q
theorem jK {t:Pr->List Int} {l:List Pr} {p:Pr} {v:List Int} (h:p∉l):bp (aa t l) (pkP p) (tupI v)=aa (bo t p v) (l++[p]):=by
 have e:aa t l=aa (bo t p v) l:=by
  unfold aa
  refine List.map_congr_left fun q hq=>?_
  have:q≠p:=fun z=>h (z▸hq)
  simp [bo,this]
 have e2:tupI v=tupI (bo t p v p):=by simp [bo]
 rw [e,e2,fq]
 exact iy h
theorem jh {t:Pr->List Int} {l:List Pr} {p:Pr} (h:p∈l):look (aa t l) (pkP p)=some (tupI (t p)):=by rw [fj];exact qV h
theorem uo {t:Pr->List Int} {l:List Pr} {p:Pr} {v:List Int} (h:p∈l):bp (aa t l) (pkP p) (tupI v)=aa (bo t p v) l:=by
 unfold bp
 rw [jh h]
 dsimp only
 unfold aa
 rw [List.map_map]
 refine List.map_congr_left fun q hq=>?_
 show (if PK.beq (pkP q) (pkP p) then (pkP q,tupI v) else (pkP q,tupI (t q)))=(pkP q,tupI (bo t p v q))
 by_cases e:q=p
 ·rw [e,if_pos (beq_refl _)];simp [bo]
 ·rw [if_neg (fun z=>e (jo (beq_iff.mp z)))];simp [bo,e]
theorem bI {t:Pr->List Int} {l:List Pr} {x y:List Int} (h:(x,y)∈l):ixD (.pdc (aa t l)) (.tup [tupI x,tupI y])=some (tupI (t (x,y))):=by
 rw [fJ,x9,jh h]
theorem aX {l:List (List Int)} {x y:List Int} (hx:x∈l) (hy:y∈l):(x,y)∈prs l:=List.mem_flatMap.mpr ⟨x,hx,List.mem_map.mpr ⟨y,hy,rfl⟩⟩
theorem fv {l:List (List Int)} {p:Pr} (h:p∈prs l):p.1∈l∧p.2∈l:=by
 obtain ⟨x,hx,h⟩:=List.mem_flatMap.mp h
 obtain ⟨y,hy,rfl⟩:=List.mem_map.mp h
 exact ⟨hx,hy⟩
noncomputable def Els (lo:List Int) (t:Pr->List Int) (l:List Pr):Prop:=∀p∈l,El lo (t p)
theorem Els.upd {lo:List Int} {t:Pr->List Int} {l:List Pr} {p:Pr} {v:List Int} (h:Els lo t l) (hv:El lo v):Els lo (bo t p v) l:=fun q hq=>by
 unfold bo
 split
 ·exact hv
 ·exact h q hq
theorem Els.snoc {lo:List Int} {t:Pr->List Int} {l:List Pr} {p:Pr} {v:List Int} (h:Els lo t l) (hv:El lo v):Els lo (bo t p v) (l++[p]):=fun q hq=>by
 unfold bo
 split
 ·exact hv
 ·rename_i hn
  rcases List.mem_append.mp hq with z|z
  ·exact h q z
  ·exact absurd (List.mem_singleton.mp z) hn
section
variable {G:Prg} {C CG CTb:Addr} {n:Nat}
structure TC0 (G:Prg) (C CG CTb:Addr):Prop where
 T:TB G C CG CTb
 car:G.defs "Table.carries"=some (none,P.dR)
 Bg:G.mth CTb "carries"=some ("Table.carries":Str)
theorem ou {lo up:List Int} {t:Pr->List Int} (K:TC0 G C CG CTb) (U:LU lo up):kal G (n+1) "Table.carries" [tabI CTb C lo up t]=some (.fr (.d (aa t (prs (PL.mem up))))):=by
 refine dH K.car ⟨rfl,rfl⟩ (ρ0:=[.val (tabI CTb C lo up t)]) rfl (eN ?_)
 have h1:=K.T.fke
 have hf:cq G (tabI CTb C lo up t) "kept"=some (.pdc (aa t (prs (PL.mem up)))):=by unfold tabI;simp only [cq,h1,if_true,z8]
 have ha:apart ((aa t (prs (PL.mem up))).map fun q=>q.1.hs)=true:=by
  have:=List.all_eq_true.mp pE up (oG U.gu.ge U.p9)
  unfold hashesOf at this
  unfold aa
  rw [List.map_map]
  exact this
 simp only [ab.eq_11,evV,ev.eq_19,evA,ev.eq_18,ev.eq_1,ae,au,List.modify_zero_cons,aA,List.getElem?_cons_zero,hf,ha,if_true]
end
section
variable {G:Prg} {C CG CTb:Addr} {n:Nat}
structure LW (G:Prg):Prop where
 cell:G.defs "_law_cell"=some (none,L.cell)
 nv:G.fn "_law_cell"=some ("_law_cell":Str)
 rounds:G.defs "_law_rounds"=some (none,L.rounds)
 vB:G.fn "_law_rounds"=some ("_law_rounds":Str)
 mem:G.defs "_law_members"=some (none,L.members)
 nB:G.fn "_law_members"=some ("_law_members":Str)
 added:G.defs "_law_added"=some (none,L.added)
 lE:G.fn "_law_added"=some ("_law_added":Str)
 times:G.defs "_law_times"=some (none,L.times)
 oM:G.fn "_law_times"=some ("_law_times":Str)
 elm:G.defs "_law_element"=some (none,L.element)
 qQ:G.fn "_law_element"=some ("_law_element":Str)
theorem wC (x:List Int):b7 (tupI x)=some (.t (x.map .i)):=by
 simp only [b7,fP]
theorem pD (x:List Int):(PK.t (x.map .i)).dp<=8:=by
 have go:∀x:List Int,_root_.CT.PK.dpL (x.map _root_.CT.PK.i)=0:=by
  intro x
  induction x with
  |nil=>rfl
  |cons a x ih=>show max (_root_.CT.PK.dp (.i a)) (_root_.CT.PK.dpL (x.map .i))=0;rw [ih];rfl
 show _root_.CT.PK.dpL (x.map .i)+1<=8
 rw [go];decide
theorem nA {es:List (_root_.CT.PK×D)} {x:List Int}:ixD (.pdc es) (tupI x)=look es (pkT x):=s_ (wC x) (pD x)
noncomputable def Lab (lo:List Int) (es:List (_root_.CT.PK×D)) (l:List (List Int)):Prop:=∀x∈l,∃e,look es (pkT x)=some (tupI e)∧El lo e
theorem Lab.put {lo:List Int} {es:List (_root_.CT.PK×D)} {l:List (List Int)} {x e:List Int} (h:Lab lo es l) (he:El lo e):Lab lo (bp es (pkT x) (tupI e)) (l++[x]):=fun y hy=>by
 rw [oq]
 by_cases q:pkT x=pkT y
 ·rw [if_pos q];exact ⟨e,rfl,he⟩
 ·rw [if_neg q]
  rcases List.mem_append.mp hy with z|z
  ·exact h y z
  ·exact absurd (by rw [List.mem_singleton.mp z]) q
theorem kI {l:List (List Int)}:∀(k:Nat),aT k (l.map tupI)=(l.zipIdx k).map fun p=>D.tup [.int (p.2:Int),tupI p.1]:=fun k=>gM l k
theorem kU:∀(ns:List Int) (acc:List (List Int)) (b:List Int),b∈ns.foldl PL.step acc↔∃a∈acc,∃e,El ns e∧b=a++e
 |[],acc,b=>by
  constructor
  ·intro h;exact ⟨b,h,[],El.nil,by simp⟩
  ·rintro ⟨a,ha,e,he,rfl⟩
   have:e=[]:=List.length_eq_zero_iff.mp he.len
   subst this
   simpa using ha
 |n::ns,acc,b=>by
  rw [List.foldl_cons,kU ns]
  constructor
  ·rintro ⟨a',ha',e,he,rfl⟩
   obtain ⟨a,ha,h⟩:=List.mem_flatMap.mp ha'
   obtain ⟨k,hk,rfl⟩:=List.mem_map.mp h
   have:=eO hk
   exact ⟨a,ha,k::e,El.cons this.1 this.2 he,by simp⟩
  ·rintro ⟨a,ha,e,he,rfl⟩
   obtain ⟨k,r,rfl,h1,h2,hr⟩:=he.inv
   refine ⟨a++[k],List.mem_flatMap.mpr ⟨a,ha,List.mem_map.mpr ⟨k,?_,rfl⟩⟩,r,hr,by simp⟩
   unfold ar
   exact List.mem_map.mpr ⟨k.toNat,List.mem_range.mpr (by omega),by omega⟩
theorem mem_iff {ns b:List Int}:b∈PL.mem ns↔El ns b:=by
 unfold PL.mem
 rw [kU]
 constructor
 ·rintro ⟨a,ha,e,he,rfl⟩
  rw [List.mem_singleton.mp ha];simpa using he
 ·intro h;exact ⟨[],by simp,b,h,by simp⟩
theorem iK:∀(ns:List Int) (acc:List (List Int)),(∀n∈ns,2<=n)->((ns.foldl PL.step acc).length:Int)=acc.length*prod ns
 |[],acc,_=>by show (acc.length:Int)=acc.length*1;omega
 |n::ns,acc,h=>by
  have hn:=h n List.mem_cons_self
  rw [List.foldl_cons,iK ns _ fun m hm=>h m (List.mem_cons_of_mem _ hm),iC,prod_cons]
  have e:((ar n).length:Int)=n:=by unfold ar;rw [List.length_map,List.length_range];omega
  rw [Int.natCast_mul,e,Int.mul_assoc]
theorem cM {ns:List Int} (h:∀n∈ns,2<=n):((PL.mem ns).length:Int)=prod ns:=by
 unfold PL.mem
 rw [iK ns _ h];simp
theorem rB (a b:List Int):prod (a++b)=prod a*prod b:=by
 induction a with
 |nil=>show prod b=1*prod b;omega
 |cons x a ih=>rw [List.cons_append,prod_cons,prod_cons,ih,Int.mul_assoc]
theorem oY {ns:List Int} (h:∀n∈ns,2<=n) (hp:prod ns<=144):Fit ns:=by
 rintro l ⟨r,e⟩
 subst e
 have h1:∀n∈l,2<=n:=fun n hn=>h n (List.mem_append_left _ hn)
 have h2:1<=prod r:=cI fun n hn=>h n (List.mem_append_right _ hn)
 have h3:=cM h1
 rw [rB] at hp
 have h4:=cI h1
 have:prod l*1<=prod l*prod r:=Int.mul_le_mul_of_nonneg_left h2 (by omega)
 omega
theorem wz:ups.all (fun ns=>decide (PL.mem ns).Nodup)=true:=by decide+kernel
theorem y0 {lo up:List Int} (gl:Good lo) (gu:Good up) (hl:prod lo<=16) (hu:prod up<=9):LU lo up where
 gl:=gl
 gu:=gu
 fl:=oY gl.ge gl.le
 fu:=oY gu.ge gu.le
 l16:=by have:=cM gl.ge;omega
 u9:=by have:=cM gu.ge;omega
 nd:=by simpa using List.all_eq_true.mp wz up (oG gu.ge hu)
 p9:=hu
theorem jS {gr c most:Int} (hg:2<=gr) (h1:1<=most) (h2:most<=144):prod (many gr c most)<=most:=by
 have h:=jw (c:=c) hg h1 h2 (ar 3)
 have h3:prod (b5 gr c most (ar 3)).f*1<=prod (b5 gr c most (ar 3)).f*(b5 gr c most (ar 3)).l:=Int.mul_le_mul_of_nonneg_left h.l1 (by have:=h.p1;omega)
 rw [Int.mul_one] at h3
 exact Int.le_trans h3 h.pr
theorem fx {up x y:List Int} (g:Good up) (hx:x∈PL.mem up) (hy:y∈PL.mem up):ao up x y∈PL.mem up:=mem_iff.mpr (El.add g.g2 (mem_iff.mp hx) (mem_iff.mp hy))
theorem km {l pre rest pre2 rest2:List (List Int)} {x y:List Int} (e1:l=pre++x::rest) (e2:l=pre2++y::rest2):∃tail,prs l=((pre.flatMap fun a=>l.map fun b=>(a,b))++pre2.map fun b=>(x,b))++(x,y)::tail:=by
 refine ⟨(rest2.map fun b=>(x,b))++rest.flatMap fun a=>l.map fun b=>(a,b),?_⟩
 have:prs l=(pre++x::rest).flatMap fun a=>l.map fun b=>(a,b):=by rw [←e1];rfl
 rw [this,List.flatMap_append,List.flatMap_cons]
 have e3:(l.map fun b=>(x,b))=(pre2.map fun b=>(x,b))++(x,y)::rest2.map fun b=>(x,b):=by rw [e2,List.map_append,List.map_cons]
 rw [e3]
 simp
theorem il (l:List (List Int)):a9 (.l (l.map tupI))=true:=by
 show aO (l.map tupI)=true
 induction l with
 |nil=>rfl
 |cons x l ih=>show (aO (x.map .int)&&aO (l.map tupI))=true;rw [cf,ih];rfl
theorem qI {lo up:List Int} {t:Pr->List Int} {l:List Pr} {i j:Int} {a:List Int} (W:LW G) (hd:G.defs "_law_paired"=some (none,L.paired)) (gl:Good lo) (gu:Good up) (ht:Els lo t l) (ha:El lo a) (hm:∀p∈l,El up p.1∧El up p.2) (hnd:l.Nodup) (hll:l.length<=1000)
  (hi:0<=i∧i<(up.length:Int)) (hj:0<=j∧j<(up.length:Int)):∃t',kal G (n+2) "_law_paired" [tupI lo,tupI up,.pdc (aa t l),.int i,.int j,tupI a]=some (.fr (.d (aa t' l)))∧Els lo t' l:=by
 have e0:(aa t l).map (fun p=>PK.d p.1)=l.map prD:=by unfold aa;rw [List.map_map];exact List.map_congr_left fun p _=>Am p
 obtain ⟨ρ',h1,t',h2,h3⟩:=cU (G:=G) (cl:=kal G (n+1)) (t:=.tp [.nm 7,.nm 8]) (g:=prD) (it:=.var 2) (L:=[2]) (ρ:=[.val (tupI lo),.val (tupI up),.val (.pdc (aa t l)),.val (.int i),.val (.int j),.val (tupI a),.owx (.d []),.any,.any])
  (b:=[(.put 6 (.tup [(.var 7),(.var 8)]) (.fn "_law_added" [(.var 0),(.ix (.var 2) (.tup [(.var 7),(.var 8)])),(.fn "_law_times" [(.var 0),(.bin .mul (.ix (.var 7) (.var 3)) (.ix (.var 8) (.var 4))),(.var 5)])]) [2,0,7,3,8,4,5]),(.fgt [7,8])])
  (fun done ρ=>∃t',ρ=[.val (tupI lo),.val (tupI up),.val (.pdc (aa t l)),.val (.int i),.val (.int j),.val (tupI a),.owx (.d (aa t' done)),.any,.any]∧Els lo t' done) l (by simp only [evI,ae,au,List.modify_zero_cons,List.modify_succ_cons,aA,List.getElem?_cons_succ,List.getElem?_cons_zero,rA,e0]) rfl ⟨t,rfl,fun p hp=>(nomatch hp)⟩
  fun done p rest ρ e ⟨t1,hρ,hE⟩=>by
   subst hρ
   have hp:p∈l:=by rw [e];simp
   have hn:p∉done:=by
    rw [e] at hnd
    intro z
    exact (List.nodup_append.mp hnd).2.2 p z p List.mem_cons_self rfl
   obtain ⟨hx,hy⟩:=hm p hp
   have hEp:=ht p hp
   obtain ⟨x,y⟩:=p
   have i1:=bI (t:=t) hp
   rw [fJ] at i1
   have i2:atI (x.map D.int) i=some (.int (gd x i)):=cC hi.1 (by have:=hx.len;dsimp only at this;omega)
   have i3:atI (y.map D.int) j=some (.int (gd y j)):=cC hj.1 (by have:=hy.len;dsimp only at this;omega)
   have i4:bg (gd x i) (gd y j)=true:=b_ (by have:=hy.small gu _ (e_ (l:=y) hj.1 (by have:=hy.len;dsimp only at this;omega));omega)
   have f1:=W.oM
   have f2:=W.lE
   have c1:=mi (n:=n) (m:=gd x i*gd y j) W.times gl ha
   have em:=ha.mul (m:=gd x i*gd y j) gl.g2
   have c2:=b9 (n:=n) (x:=t (x,y)) (y:=eF lo (gd x i*gd y j) a) W.added gl hEp.len em.len
   have ev1:=hEp.add gl.g2 em
   generalize ao lo (t (x,y)) (eF lo (gd x i*gd y j) a)=v at c2 ev1
   have g3:=jK (t:=t1) (v:=v) hn
   have g4:=eK (x,y)
   have g5:=eM (x,y)
   have g8:(PK.t [pkT x,pkT y]).dp<=8:=g5
   have g9:bp (aa t1 done) (PK.t [pkT x,pkT y]) (tupI v)=aa (bo t1 (x,y) v) (done++[(x,y)]):=g3
   have g6:(aa t1 done).length<sizeLine:=by
    unfold aa
    rw [List.length_map]
    have l1:done.length<=l.length:=by rw [e];simp
    exact Nat.lt_of_le_of_lt (Nat.le_trans l1 hll) (by decide)
   have g7:=az v
   have hz2:(2:Nat)<=sizeLine:=by decide
   refine ⟨[.val (tupI lo),.val (tupI up),.val (.pdc (aa t l)),.val (.int i),.val (.int j),.val (tupI a),.owx (.d (aa t1 done)),.val (tupI x),.val (tupI y)],_,rfl,?_,bo t1 (x,y) v,rfl,hE.snoc ev1⟩
   refine st (ρ':=[.val (tupI lo),.val (tupI up),.val (.pdc (aa t l)),.val (.int i),.val (.int j),.val (tupI a),.owx (.d (aa (bo t1 (x,y) v) (done++[(x,y)]))),.val (tupI x),.val (tupI y)]) (by
    simp? [ab.eq_5,evA,ev.eq_1,ev.eq_4,ev.eq_14,ev.eq_16,ev.eq_20,hz2,i1,i2,i3,je,cH,i4,fnR,f1,c1,f2,c2,fJ,g7,g4,g8,g6,and_self,g9]) (st (by rfl) aE)
 refine ⟨t',?_,h3⟩
 subst h2
 refine dH hd ⟨rfl,rfl⟩ (ρ0:=[.val (tupI lo),.val (tupI up),.val (.pdc (aa t l)),.val (.int i),.val (.int j),.val (tupI a),.nil,.nil,.nil]) rfl ?_
 refine st (ρ':=[.val (tupI lo),.val (tupI up),.val (.pdc (aa t l)),.val (.int i),.val (.int j),.val (tupI a),.owx (.d []),.nil,.nil]) rfl (st (by rfl) (st h1 (eN (by rfl))))
theorem Ah {lo:List Int} {a b c:Int} (hd:G.defs "_law_odd_element"=some (none,L.dC)) (hg:G.defs "_law_gcd"=some (none,L.gcd)) (fg:G.fn "_law_gcd"=some ("_law_gcd":Str)) (gl:Good lo) (ha:0<=a) (hb:0<=b):
  ∃v,kal G (n+2) "_law_odd_element" [tupI lo,.int a,.int b,.int c]=some (.ok (tupI v))∧El lo v:=by
 obtain ⟨ρ',h1,c',v,h2,h3⟩:=cU (G:=G) (cl:=kal G (n+1)) (t:=.nm 5) (g:=D.int) (it:=.var 0) (L:=[0]) (ρ:=[.val (tupI lo),.val (.int a),.val (.int b),.val (.int c),.owx (.l []),.any,.any])
  (b:=[(.asg (.nm 6) (.fn "_law_gcd" [(.var 5),(.fn "_law_gcd" [(.var 1),(.var 2)])]) [5,1,2]),(.app 4 (.bin .mul (.bin .fdiv (.var 5) (.var 6)) (.bin .mod (.var 3) (.var 6))) [5,3,6]),(.asg (.nm 3) (.bin .fdiv (.var 3) (.var 6)) [3,6]),(.fgt [5,6])])
  (fun done ρ=>∃c' v,ρ=[.val (tupI lo),.val (.int a),.val (.int b),.val (.int c'),.owx (.l (v.map D.int)),.any,.any]∧El done v) lo (by simp only [evI,ae,au,List.modify_zero_cons,aA,List.getElem?_cons_zero,kW]) rfl ⟨c,[],rfl,El.nil⟩
  fun done m rest ρ e ⟨c',v,hρ,hE⟩=>by
   subst hρ
   have hm:m∈lo:=by rw [e];simp
   have m1:=gl.ge m hm
   have m2:=gl.lt m hm
   have q1:0<=bL a b:=by unfold bL;omega
   have w1:=sJ (n:=n) hg ha hb
   have w2:=sJ (n:=n) (a:=m) (b:=bL a b) hg (by omega) q1
   have hp:0<bL m (bL a b)∧bL m (bL a b)<=m∧bL m (bL a b)∣m:=by
    unfold bL
    have d1:=Int.gcd_dvd_left (a:=m) (b:=(Int.gcd a b:Int))
    have d2:0<Int.gcd m (Int.gcd a b:Int):=Int.gcd_pos_of_ne_zero_left _ (by omega)
    exact ⟨by omega,Int.le_of_dvd (by omega) d1,d1⟩
   generalize bL m (bL a b)=d at w2 hp
   obtain ⟨p1,p2,k,p3⟩:=hp
   have hk:m / d=k:=by rw [p3];exact Int.mul_ediv_cancel_left _ (by omega)
   have r1:0<=c'%d:=Int.emod_nonneg _ (by omega)
   have r2:c'%d<d:=Int.emod_lt_of_pos _ p1
   have k1:0<k:=by
    rcases Int.lt_or_le 0 k with z|z
    ·exact z
    ·have:d*k<=0:=Int.mul_nonpos_of_nonneg_of_nonpos (by omega) z
     omega
   have b1:0<=m / d*(c'%d):=by rw [hk];exact Int.mul_nonneg (by omega) r1
   have b2:m / d*(c'%d)<m:=by
    rw [hk]
    have:k*(c'%d)<k*d:=Int.mul_lt_mul_of_pos_left r2 k1
    rw [Int.mul_comm k d,←p3] at this
    exact this
   have s1:0<d∧d.toNat<1073741824:=by omega
   have s2:bg (m / d) (c'%d)=true:=b_ (by omega)
   have s3:(v.map D.int).length<sizeLine:=by
    rw [List.length_map,hE.len]
    have:done.length<=lo.length:=by rw [e];simp
    have:=gl.len
    exact Nat.lt_of_le_of_lt (show done.length<=7 by omega) (by decide)
   have s4:v.map D.int++[D.int (m / d*(c'%d))]=(v++[m / d*(c'%d)]).map D.int:=by simp
   refine ⟨[.val (tupI lo),.val (.int a),.val (.int b),.val (.int c'),.owx (.l (v.map D.int)),.val (.int m),.any],_,rfl,?_,c' / d,v++[m / d*(c'%d)],rfl,hE.snoc b1 b2⟩
   refine st (ρ':=[.val (tupI lo),.val (.int a),.val (.int b),.val (.int c'),.owx (.l (v.map D.int)),.val (.int m),.val (.int d)]) (by
    simp? [ab.eq_1,evV,evA,ev.eq_1,ev.eq_20,fnR,fg,w1,w2,ai]) ?_
   refine st (ρ':=[.val (tupI lo),.val (.int a),.val (.int b),.val (.int c'),.owx (.l ((v++[m / d*(c'%d)]).map D.int)),.val (.int m),.val (.int d)]) (by
    simp? [ab.eq_7,ev.eq_1,ev.eq_4,cH,s1,and_self,s2,ai,s3,s4]) ?_
   refine st (ρ':=[.val (tupI lo),.val (.int a),.val (.int b),.val (.int (c' / d)),.owx (.l ((v++[m / d*(c'%d)]).map D.int)),.val (.int m),.val (.int d)]) (by
    simp? [ab.eq_1,evV,ev.eq_1,ev.eq_4,cH,s1,and_self,ai]) (st (by rfl) aE)
 refine ⟨v,?_,h3⟩
 subst h2
 refine aU hd ⟨rfl,rfl⟩ (ρ0:=[.val (tupI lo),.val (.int a),.val (.int b),.val (.int c),.nil,.nil,.nil]) rfl ?_
 refine st (ρ':=[.val (tupI lo),.val (.int a),.val (.int b),.val (.int c),.owx (.l []),.nil,.nil]) rfl (st (by rfl) (st h1 (bc (by walk_at "r"))))
theorem qH {β:Type} {f:Pr->Option β} {l:List (List Int)}:(prs l).findSome? f=l.findSome? fun x=>l.findSome? fun y=>f (x,y):=by
 unfold prs
 have go:∀m:List (List Int),(m.flatMap fun x=>l.map fun y=>(x,y)).findSome? f=m.findSome? fun x=>l.findSome? fun y=>f (x,y):=by
  intro m
  induction m with
  |nil=>rfl
  |cons x m ih=>
   rw [List.flatMap_cons,List.findSome?_append,ih,List.findSome?_cons,List.findSome?_map]
   show (l.findSome? fun y=>f (x,y)).or _=_
   cases l.findSome? fun y=>f (x,y)<;>rfl
 exact go l
end
section
variable {G:Prg} {C CG CTb:Addr} {n:Nat}
theorem l_ {d:D}:au (.val d)=.val d:=rfl
theorem uP {lo up:List Int} {c0 c1:Int} (W:LW G) (hd:G.defs "_law_table"=some (none,L.table)) (U:LU lo up):∃t,kal G (n+2) "_law_table" [tupI lo,tupI up,.lst [.int c0,.int c1]]=some (.fr (.d (aa t (prs (PL.mem up)))))∧Els lo t (prs (PL.mem up)):=by
 have h1:=W.nB
 have h2:=dY (n:=n) W.mem U.gu U.fu
 have f1:=W.qQ
 have f2:=W.lE
 have f3:=W.oM
 have hz2:(2:Nat)<=sizeLine:=by decide
 have hfree:a9 (.l ((PL.mem up).map tupI))=true:=il _
 obtain ⟨ρ1,k1,es,s6,rfl,hLab,hesl⟩:∃ρ',IN.ab G (kal G (n+1)) (L.table.body.getD 3 .pass) [.val (tupI lo),.val (tupI up),.val (.lst [.int c0,.int c1]),.owx (.l ((PL.mem up).map tupI)),.owx (.d []),.any,.nil,.nil,.nil,.nil,.nil]=some (.nx ρ')∧
   ∃es s6,ρ'=[.val (tupI lo),.val (tupI up),.val (.lst [.int c0,.int c1]),.val (.lst ((PL.mem up).map tupI)),.owx (.d es),.any,s6,.nil,.nil,.nil,.nil]∧Lab lo es (((PL.mem up).zipIdx).map (·.1))∧es.length<=((PL.mem up).zipIdx).length:=by
  refine cU (g:=fun p:List Int×Nat=>D.tup [.int (p.2:Int),tupI p.1]) (fun done ρ=>∃es s6,ρ=[.val (tupI lo),.val (tupI up),.val (.lst [.int c0,.int c1]),.val (.lst ((PL.mem up).map tupI)),.owx (.d es),.any,s6,.nil,.nil,.nil,.nil]∧Lab lo es (done.map (·.1))∧es.length<=done.length) ((PL.mem up).zipIdx) ?_ rfl ⟨[],.nil,rfl,fun x hx=>(nomatch hx),Nat.le_refl _⟩ fun done p rest ρ e ⟨es,s6,hρ,hE,hl⟩=>?_
  ·have:aT 0 ((PL.mem up).map tupI)=((PL.mem up).zipIdx 0).map fun p=>D.tup [.int (p.2:Int),tupI p.1]:=kI 0
   rw [←this];rfl
  ·subst hρ
   obtain ⟨x,k⟩:=p
   have hk:k<1000:=by
    have:(x,k)∈(PL.mem up).zipIdx:=by rw [e];simp
    have:=List.mem_zipIdx this
    have:=U.u9
    omega
   have m1:bg 7 (k:Int)=true:=gS (by decide)
   have m2:(0:Int)<7*(k:Int)+1∧(7*(k:Int)+1).toNat<1073741824:=by omega
   have ix1:atI [D.int c0,D.int c1] 1=some (.int c1):=rfl
   have el:=eS (n:=n) (c:=c1 / (7*(k:Int)+1)) W.elm U.gl
   have hel:=iS (c:=c1 / (7*(k:Int)+1)) U.gl.g2
   generalize elI lo (c1 / (7*(k:Int)+1))=v at el hel
   have g4:=wC x
   have g8:=pD x
   have g6:es.length<sizeLine:=by
    have l1:done.length<=((PL.mem up).zipIdx).length:=by rw [e];simp
    rw [List.length_zipIdx] at l1
    have:=U.u9
    exact Nat.lt_of_le_of_lt (show es.length<=9 by omega) (by decide)
   have g7:=az v
   refine ⟨[.val (tupI lo),.val (tupI up),.val (.lst [.int c0,.int c1]),.val (.lst ((PL.mem up).map tupI)),.owx (.d es),.val (.int (k:Int)),.val (tupI x),.nil,.nil,.nil,.nil],_,rfl,?_,bp es (pkT x) (tupI v),.val (tupI x),rfl,?_,?_⟩
   ·refine st (ρ':=[.val (tupI lo),.val (tupI up),.val (.lst [.int c0,.int c1]),.val (.lst ((PL.mem up).map tupI)),.owx (.d (bp es (pkT x) (tupI v))),.val (.int (k:Int)),.val (tupI x),.nil,.nil,.nil,.nil]) (by
     simp? [ab.eq_5,evA,ev.eq_1,ev.eq_2,ev.eq_4,ev.eq_16,ev.eq_20,iV,ix1,cH,m1,m2,and_self,fnR,f1,el,g7,g4,g8,g6]
     rfl) (st (by rfl) aE)
   ·rw [List.map_append];exact hE.put hel
   ·have:=qS es (pkT x) (tupI v)
    rw [List.length_append];simp;omega
 have hLab':Lab lo es (PL.mem up):=by rw [List.zipIdx_map_fst] at hLab;exact hLab
 obtain ⟨ρ2,k2,t,s6',s4,rfl,hEls,q4⟩:∃ρ',IN.ab G (kal G (n+1)) (L.table.body.getD 6 .pass) [.val (tupI lo),.val (tupI up),.val (.lst [.int c0,.int c1]),.val (.lst ((PL.mem up).map tupI)),.owx (.d es),.any,s6,.owx (.d []),.any,.any,.any]=some (.nx ρ')∧
   ∃t s6' s4,ρ'=[.val (tupI lo),.val (tupI up),.val (.lst [.int c0,.int c1]),.val (.lst ((PL.mem up).map tupI)),s4,.any,s6',.owx (.d (aa t ((PL.mem up).flatMap fun a=>(PL.mem up).map fun b=>(a,b)))),.any,.any,.any]∧Els lo t ((PL.mem up).flatMap fun a=>(PL.mem up).map fun b=>(a,b))∧au s4=.val (.pdc es):=by
  refine cU (g:=tupI) (fun done ρ=>∃t s6' s4,ρ=[.val (tupI lo),.val (tupI up),.val (.lst [.int c0,.int c1]),.val (.lst ((PL.mem up).map tupI)),s4,.any,s6',.owx (.d (aa t (done.flatMap fun a=>(PL.mem up).map fun b=>(a,b)))),.any,.any,.any]∧Els lo t (done.flatMap fun a=>(PL.mem up).map fun b=>(a,b))∧au s4=.val (.pdc es)) (PL.mem up) rfl rfl ⟨fun _=>[],s6,_,rfl,fun p hp=>(nomatch hp),rfl⟩ fun done x rest ρ e ⟨t,s6',s4,hρ,hE,q4⟩=>?_
  subst hρ
  have hx:x∈PL.mem up:=by rw [e];simp
  refine ⟨[.val (tupI lo),.val (tupI up),.val (.lst [.int c0,.int c1]),.val (.lst ((PL.mem up).map tupI)),s4,.any,.val (tupI x),.owx (.d (aa t (done.flatMap fun a=>(PL.mem up).map fun b=>(a,b)))),.any,.any,.any],?_⟩
  obtain ⟨ρ3,k3,t',s4',rfl,hE',q4'⟩:∃ρ',IN.ab G (kal G (n+1)) (match L.table.body.getD 6 .pass with|.for _ _ _ b=>b.getD 1 .pass|s=>s) [.val (tupI lo),.val (tupI up),.val (.lst [.int c0,.int c1]),.val (.lst ((PL.mem up).map tupI)),s4,.any,.val (tupI x),.owx (.d (aa t (done.flatMap fun a=>(PL.mem up).map fun b=>(a,b)))),.any,.any,.any]=some (.nx ρ')∧
    ∃t' s4',ρ'=[.val (tupI lo),.val (tupI up),.val (.lst [.int c0,.int c1]),.val (.lst ((PL.mem up).map tupI)),s4',.any,.val (tupI x),.owx (.d (aa t' ((done.flatMap fun a=>(PL.mem up).map fun b=>(a,b))++(PL.mem up).map fun b=>(x,b)))),.any,.any,.any]∧Els lo t' ((done.flatMap fun a=>(PL.mem up).map fun b=>(a,b))++(PL.mem up).map fun b=>(x,b))∧au s4'=.val (.pdc es):=by
   refine cU (g:=tupI) (ρ0:=[.val (tupI lo),.val (tupI up),.val (.lst [.int c0,.int c1]),.val (.lst ((PL.mem up).map tupI)),s4,.any,.val (tupI x),.owx (.d (aa t ((done.flatMap fun a=>(PL.mem up).map fun b=>(a,b))))),.any,.any,.any]) (fun done2 ρ=>∃t' s4',ρ=[.val (tupI lo),.val (tupI up),.val (.lst [.int c0,.int c1]),.val (.lst ((PL.mem up).map tupI)),s4',.any,.val (tupI x),.owx (.d (aa t' ((done.flatMap fun a=>(PL.mem up).map fun b=>(a,b))++done2.map fun b=>(x,b)))),.any,.any,.any]∧Els lo t' ((done.flatMap fun a=>(PL.mem up).map fun b=>(a,b))++done2.map fun b=>(x,b))∧au s4'=.val (.pdc es)) (PL.mem up) rfl rfl ⟨t,s4,by rw [List.map_nil,List.append_nil],by rw [List.map_nil,List.append_nil];exact hE,q4⟩ fun done2 y rest2 ρ e2 ⟨t',s4',hρ,hE',q4'⟩=>?_
   subst hρ
   have hy:y∈PL.mem up:=by rw [e2];simp
   obtain ⟨ex,lx,elx⟩:=hLab' x hx
   obtain ⟨ey,ly,ely⟩:=hLab' y hy
   obtain ⟨ez,lz,elz⟩:=hLab' _ (fx U.gu hx hy)
   have qx:ixD (.pdc es) (tupI x)=some (tupI ex):=by rw [nA,lx]
   have qy:ixD (.pdc es) (tupI y)=some (tupI ey):=by rw [nA,ly]
   have qz:ixD (.pdc es) (tupI (ao up x y))=some (tupI ez):=by rw [nA,lz]
   have xu:=mem_iff.mp hx
   have yu:=mem_iff.mp hy
   have w1:=b9 (n:=n) W.added U.gl elx.len ely.len
   have v1:=elx.add U.gl.g2 ely
   generalize ao lo ex ey=h1' at w1 v1
   have w2:=b9 (n:=n) W.added U.gu xu.len yu.len
   have w3:=mi (n:=n) (m:= -1) W.times U.gl elz
   have v3:=elz.mul (m:= -1) U.gl.g2
   generalize eF lo (-1) ez=h3 at w3 v3
   have w4:=b9 (n:=n) W.added U.gl v1.len v3.len
   have v4:=v1.add U.gl.g2 v3
   generalize ao lo h1' h3=h4 at w4 v4
   have nl1:=az h1'
   have nl4:=az h4
   obtain ⟨ρ5,k5,h5,rfl,v5⟩:∃ρ',IN.ab G (kal G (n+1)) (.for (.nm 10) (.blt .range [(.blt .len [(.var 1)])]) [1] [(.ife (.cmp .ge (.bin .add (.ix (.var 6) (.var 10)) (.ix (.var 8) (.var 10))) (.ix (.var 1) (.var 10))) [6,8,1,10] [(.asg (.nm 9) (.fn "_law_added" [(.var 0),(.var 9),(.fn "_law_element" [(.var 0),(.bin .fdiv (.ix (.var 2) (.lit (.int 0))) (.bin .add (.bin .mul (.lit (.int 5)) (.var 10)) (.lit (.int 1))))])]) [9,0,2,10])] []),(.fgt [10])]) [.val (tupI lo),.val (tupI up),.val (.lst [.int c0,.int c1]),.val (.lst ((PL.mem up).map tupI)),s4',.any,.val (tupI x),.owx (.d (aa t' ((done.flatMap fun a=>(PL.mem up).map fun b=>(a,b))++done2.map fun b=>(x,b)))),.val (tupI y),.val (tupI h4),.any]=some (.nx ρ')∧∃h5,ρ'=[.val (tupI lo),.val (tupI up),.val (.lst [.int c0,.int c1]),.val (.lst ((PL.mem up).map tupI)),s4',.any,.val (tupI x),.owx (.d (aa t' ((done.flatMap fun a=>(PL.mem up).map fun b=>(a,b))++done2.map fun b=>(x,b)))),.val (tupI y),.val (tupI h5),.any]∧El lo h5:=by
    have hl:up.length<=1000000:=Nat.le_trans U.gu.dW (by decide)
    have b1:=lO hl
    have b2:(up.map D.int).length=up.length:=by simp
    refine cU (g:=D.int) (fun _ ρ=>∃h5,ρ=[.val (tupI lo),.val (tupI up),.val (.lst [.int c0,.int c1]),.val (.lst ((PL.mem up).map tupI)),s4',.any,.val (tupI x),.owx (.d (aa t' ((done.flatMap fun a=>(PL.mem up).map fun b=>(a,b))++done2.map fun b=>(x,b)))),.val (tupI y),.val (tupI h5),.any]∧El lo h5) (ar up.length) (by
     simp? [evI,evA,ev.eq_19,ev.eq_1,bj,eR,b2,b1]) rfl ⟨h4,rfl,v4⟩ fun _ k rest3 ρ e3 ⟨h5,hρ,v5⟩=>?_
    subst hρ
    have hk:k∈ar (up.length:Int):=by rw [e3];simp
    have hk2:=eO hk
    have i1:atI (x.map D.int) k=some (.int (gd x k)):=cC hk2.1 (by rw [xu.len];exact hk2.2)
    have i2:atI (y.map D.int) k=some (.int (gd y k)):=cC hk2.1 (by rw [yu.len];exact hk2.2)
    have i3:atI (up.map D.int) k=some (.int (gd up k)):=cC hk2.1 hk2.2
    have i4:atI [D.int c0,D.int c1] 0=some (.int c0):=rfl
    have k9:k<1000:=by have:=U.gu.dW;omega
    have m1:bg 5 k=true:=gS (by decide)
    have m2:(0:Int)<5*k+1∧(5*k+1).toNat<1073741824:=by omega
    have el:=eS (n:=n) (c:=c0 / (5*k+1)) W.elm U.gl
    have hel:=iS (c:=c0 / (5*k+1)) U.gl.g2
    generalize elI lo (c0 / (5*k+1))=v at el hel
    have w6:=b9 (n:=n) W.added U.gl v5.len hel.len
    have v6:=v5.add U.gl.g2 hel
    generalize ao lo h5 v=h6 at w6 v6
    have nl6:=az h6
    refine ⟨[.val (tupI lo),.val (tupI up),.val (.lst [.int c0,.int c1]),.val (.lst ((PL.mem up).map tupI)),s4',.any,.val (tupI x),.owx (.d (aa t' ((done.flatMap fun a=>(PL.mem up).map fun b=>(a,b))++done2.map fun b=>(x,b)))),.val (tupI y),.val (tupI h5),.val (.int k)],[.val (tupI lo),.val (tupI up),.val (.lst [.int c0,.int c1]),.val (.lst ((PL.mem up).map tupI)),s4',.any,.val (tupI x),.owx (.d (aa t' ((done.flatMap fun a=>(PL.mem up).map fun b=>(a,b))++done2.map fun b=>(x,b)))),.val (tupI y),.val (tupI (if gd up k<=gd x k+gd y k then h6 else h5)),.any],rfl,?_,_,rfl,by split<;>assumption⟩
    refine st (ρ':=[.val (tupI lo),.val (tupI up),.val (.lst [.int c0,.int c1]),.val (.lst ((PL.mem up).map tupI)),s4',.any,.val (tupI x),.owx (.d (aa t' ((done.flatMap fun a=>(PL.mem up).map fun b=>(a,b))++done2.map fun b=>(x,b)))),.val (tupI y),.val (tupI (if gd up k<=gd x k+gd y k then h6 else h5)),.val (.int k)]) ?_ (st (by rfl) aE)
    by_cases hc:gd up k<=gd x k+gd y k
    ·have hd1:decide (gd up k<=gd x k+gd y k)=true:=decide_eq_true hc
     rw [if_pos hc]
     simp? [ab.eq_13,ab.eq_1,IN.run,evT,evV,evA,ev.eq_1,ev.eq_2,ev.eq_4,ev.eq_9,ev.eq_16,ev.eq_20,cH,bt,je,iV,i1,i2,i3,i4,m1,m2,and_self,hd1,fnR,f1,el,f2,w6,nl6]
    ·have hd1:decide (gd up k<=gd x k+gd y k)=false:=decide_eq_false hc
     rw [if_neg hc]
     simp? [ab.eq_13,ab.eq_1,IN.run,evT,evV,evA,ev.eq_1,ev.eq_2,ev.eq_4,ev.eq_9,ev.eq_16,ev.eq_20,cH,bt,je,iV,i1,i2,i3,i4,m1,m2,and_self,hd1,fnR,f1,el,f2,w6,nl6]
   obtain ⟨tail,hsp⟩:=km e e2
   have hnd:(prs (PL.mem up)).Nodup:=dN U.nd
   have hn:(x,y)∉(done.flatMap fun a=>(PL.mem up).map fun b=>(a,b))++done2.map fun b=>(x,b):=by
    rw [hsp] at hnd
    intro z
    exact (List.nodup_append.mp hnd).2.2 _ z _ List.mem_cons_self rfl
   have g3:=jK (t:=t') (v:=h5) hn
   have g9:bp (aa t' ((done.flatMap fun a=>(PL.mem up).map fun b=>(a,b))++done2.map fun b=>(x,b))) (PK.t [pkT x,pkT y]) (tupI h5)=aa (bo t' (x,y) h5) (((done.flatMap fun a=>(PL.mem up).map fun b=>(a,b))++done2.map fun b=>(x,b))++[(x,y)]):=g3
   have g4:=eK (x,y)
   have g8:(PK.t [pkT x,pkT y]).dp<=8:=eM (x,y)
   have g6:(aa t' ((done.flatMap fun a=>(PL.mem up).map fun b=>(a,b))++done2.map fun b=>(x,b))).length<sizeLine:=by
    unfold aa
    rw [List.length_map]
    have l1:((done.flatMap fun a=>(PL.mem up).map fun b=>(a,b))++done2.map fun b=>(x,b)).length<=(prs (PL.mem up)).length:=by rw [hsp];exact Nat.le_of_lt (by rw [List.length_append (bs:=_::_)];exact Nat.lt_add_of_pos_right (Nat.succ_pos _))
    have l2:(prs (PL.mem up)).length<=81:=by rw [c9];exact Nat.mul_le_mul U.u9 U.u9
    exact Nat.lt_of_le_of_lt (Nat.le_trans l1 l2) (by decide)
   have g7:=az h5
   have e5:((done.flatMap fun a=>(PL.mem up).map fun b=>(a,b))++done2.map fun b=>(x,b))++[(x,y)]=(done.flatMap fun a=>(PL.mem up).map fun b=>(a,b))++(done2++[y]).map fun b=>(x,b):=by rw [List.map_append,List.append_assoc];rfl
   rw [e5] at g9
   have hE2:=hE'.snoc (p:=(x,y)) v5
   rw [e5] at hE2
   refine ⟨[.val (tupI lo),.val (tupI up),.val (.lst [.int c0,.int c1]),.val (.lst ((PL.mem up).map tupI)),s4',.any,.val (tupI x),.owx (.d (aa t' ((done.flatMap fun a=>(PL.mem up).map fun b=>(a,b))++done2.map fun b=>(x,b)))),.val (tupI y),.any,.any],_,rfl,?_,bo t' (x,y) h5,s4',rfl,hE2,q4'⟩
   refine st (ρ':=[.val (tupI lo),.val (tupI up),.val (.lst [.int c0,.int c1]),.val (.lst ((PL.mem up).map tupI)),s4',.any,.val (tupI x),.owx (.d (aa t' ((done.flatMap fun a=>(PL.mem up).map fun b=>(a,b))++done2.map fun b=>(x,b)))),.val (tupI y),.val (tupI h1'),.any]) (by
    simp only [ab.eq_1,evV,evA,ev.eq_1,ev.eq_16,ev.eq_20,q4',qx,qy,fnR,f2,w1,nl1,ae,l_,List.modify_zero_cons,List.modify_succ_cons,aA,List.getElem?_cons_zero,List.getElem?_cons_succ,List.length_cons,List.length_nil,Nat.reduceAdd,Nat.reduceLT,if_true,List.set_cons_succ,List.set_cons_zero,Rs.val,kp,ag]) ?_
   refine st (ρ':=[.val (tupI lo),.val (tupI up),.val (.lst [.int c0,.int c1]),.val (.lst ((PL.mem up).map tupI)),s4',.any,.val (tupI x),.owx (.d (aa t' ((done.flatMap fun a=>(PL.mem up).map fun b=>(a,b))++done2.map fun b=>(x,b)))),.val (tupI y),.val (tupI h4),.any]) (by
    simp only [ab.eq_1,evV,evA,ev.eq_1,ev.eq_2,ev.eq_5,ev.eq_16,ev.eq_20,q4',qz,fnR,f2,f3,w2,w3,w4,nl4,ae,l_,List.modify_zero_cons,List.modify_succ_cons,aA,List.getElem?_cons_zero,List.getElem?_cons_succ,List.length_cons,List.length_nil,Nat.reduceAdd,Nat.reduceLT,if_true,List.set_cons_succ,List.set_cons_zero,Rs.val,kp,ag]) ?_
   refine st (by rfl) (st k5 ?_)
   refine st (ρ':=[.val (tupI lo),.val (tupI up),.val (.lst [.int c0,.int c1]),.val (.lst ((PL.mem up).map tupI)),s4',.any,.val (tupI x),.owx (.d (aa (bo t' (x,y) h5) ((done.flatMap fun a=>(PL.mem up).map fun b=>(a,b))++(done2++[y]).map fun b=>(x,b)))),.val (tupI y),.val (tupI h5),.any]) (by
    simp? [ab.eq_5,evA,ev.eq_1,ev.eq_14,hz2,fJ,g7,g4,g8,g6,and_self,g9]) (st (by rfl) aE)
  refine ⟨_,rfl,st (by rfl) (st k3 (st (by rfl) aE)),t',.val (tupI x),s4',?_,?_,q4'⟩
  ·rw [List.flatMap_append,List.flatMap_cons,List.flatMap_nil,List.append_nil];rfl
  ·rw [List.flatMap_append,List.flatMap_cons,List.flatMap_nil,List.append_nil];exact hE'
 refine ⟨t,?_,hEls⟩
 refine dH hd ⟨rfl,rfl⟩ (ρ0:=[.val (tupI lo),.val (tupI up),.val (.lst [.int c0,.int c1]),.nil,.nil,.nil,.nil,.nil,.nil,.nil,.nil]) rfl ?_
 refine st (ρ':=[.val (tupI lo),.val (tupI up),.val (.lst [.int c0,.int c1]),.owx (.l ((PL.mem up).map tupI)),.nil,.nil,.nil,.nil,.nil,.nil,.nil]) (by
  simp? [ab.eq_1,evV,evA,ev.eq_1,fnR,h1,h2,hfree]) ?_
 refine st (ρ':=[.val (tupI lo),.val (tupI up),.val (.lst [.int c0,.int c1]),.owx (.l ((PL.mem up).map tupI)),.owx (.d []),.nil,.nil,.nil,.nil,.nil,.nil]) rfl (st (by rfl) (st k1 ?_))
 refine st (ρ':=[.val (tupI lo),.val (tupI up),.val (.lst [.int c0,.int c1]),.val (.lst ((PL.mem up).map tupI)),.owx (.d es),.any,s6,.owx (.d []),.nil,.nil,.nil]) rfl (st (by rfl) (st k2 (eN (by rfl))))
end
section
variable {G:Prg} {C CG CTb:Addr} {n:Nat}
theorem oW {l:List (List Int)} {c:Int} (h:0<l.length):∃m∈l,atI (l.map tupI) (c%(l.length:Int))=some (tupI m):=by
 have h1:0<=c%(l.length:Int):=Int.emod_nonneg _ (by omega)
 have h2:c%(l.length:Int)<(l.length:Int):=Int.emod_lt_of_pos _ (by omega)
 obtain ⟨j,hj⟩:=Int.eq_ofNat_of_zero_le h1
 rw [hj] at h2 ⊢
 have h3:j<l.length:=by omega
 refine ⟨l[j],List.getElem_mem h3,?_⟩
 refine jz ?_
 simp [h3]
theorem iz (t:Pr->List Int) (l:List Pr):a9 (.d (aa t l))=true:=by
 show (aa t l).all (fun p=>ai p.2)=true
 unfold aa
 rw [List.all_map,List.all_eq_true]
 exact fun p _=>az _
theorem lJ (p:Pr):ai (prD p)=true:=by
 show (ai (tupI p.1)&&(ai (tupI p.2)&&true))=true
 rw [az,az];rfl
end
end PL
open PySem IN CT
noncomputable def P.bh:IN.Def:={slots:=11,aB:=1,body:=[
(.asg (.nm 1) (.fld (.var 0) "lower") [0]),
(.asg (.nm 2) (.mth (.var 0) "carries" []) [0]),
(.asg (.nm 3) (.mth (.fld (.var 0) "upper") "members" []) [0]),
(.asg (.nm 4) (.fn "pairs_of" [(.fld (.var 0) "upper")]) [0]),
(.asg (.nm 7) (.cT 2 [0] (.tp [(.nm 0),(.nm 1)]) (.var 4) (.tup [(.var 0),(.var 1)]) (.mth (.fld (.var 2) "upper") "sum_of" [(.var 0),(.var 1)])) [0,4]),
(.fgt [5,6,8,9,10]),
(.for (.tp [(.nm 5),(.nm 6)]) (.var 4) [4] [(.fgt [8,9,10]),(.for (.nm 8) (.var 3) [3] [(.asg (.nm 9) (.mth (.var 1) "sum_of" [(.ix (.var 2) (.tup [(.var 5),(.var 6)])),(.ix (.var 2) (.tup [(.ix (.var 7) (.tup [(.var 5),(.var 6)])),(.var 8)]))]) [1,2,7,5,6,8]),(.asg (.nm 10) (.mth (.var 1) "sum_of" [(.ix (.var 2) (.tup [(.var 6),(.var 8)])),(.ix (.var 2) (.tup [(.var 5),(.ix (.var 7) (.tup [(.var 6),(.var 8)]))]))]) [1,2,5,7,6,8]),(.ife (.cmp .ne (.var 9) (.var 10)) [9,10] [(.ret (.tup [(.var 5),(.var 6),(.var 8)]) [5,6,8])] []),(.fgt [8,9,10])]),(.fgt [5,6,8,9,10])]),
(.ret (.lit .non) [])]}
noncomputable def L.d7:IN.Def:={slots:=11,aB:=4,body:=[
(.asg (.nm 4) (.lit (.int 1)) []),
(.fgt [5]),
(.for (.nm 5) (.var 0) [0] [(.asg (.nm 4) (.bin .mul (.var 4) (.var 5)) [4,5]),(.fgt [5])]),
(.asg (.nm 6) .fK []),
(.fgt [7,8,9,10]),
(.for (.tp [(.nm 7),(.nm 8)]) (.blt .enum [(.fn "_law_members" [(.var 1)])]) [1] [(.asg (.nm 9) (.fn "_law_cell" [(.var 2),(.bin .add (.var 3) (.var 7))]) [2,3,7]),(.fgt [10]),(.for (.nm 10) (.fn "_law_members" [(.var 1)]) [1] [(.put 6 (.tup [(.var 8),(.var 10)]) (.fn "_law_element" [(.var 0),(.var 9)]) [8,10,0,9]),(.asg (.nm 9) (.bin .fdiv (.var 9) (.var 4)) [9,4]),(.fgt [10])]),(.fgt [7,8,9,10])]),
(.ret (.var 6) [6])]}
noncomputable def L.b8:IN.Def:={slots:=10,aB:=3,body:=[
(.asg (.nm 3) (.fn "_law_members" [(.var 1)]) [1]),
(.fgt [4,5,6,7,8,9]),
(.for (.nm 4) (.var 3) [3] [(.fgt [5,6,7,8,9]),(.for (.nm 5) (.var 3) [3] [(.asg (.nm 6) (.ix (.var 2) (.tup [(.var 4),(.var 5)])) [2,4,5]),(.asg (.nm 7) (.fn "_law_added" [(.var 1),(.var 4),(.var 5)]) [1,4,5]),(.fgt [8,9]),(.for (.nm 8) (.var 3) [3] [(.asg (.nm 9) (.fn "_law_added" [(.var 0),(.var 6),(.ix (.var 2) (.tup [(.var 7),(.var 8)]))]) [0,6,2,7,8]),(.ife (.cmp .ne (.var 9) (.fn "_law_added" [(.var 0),(.ix (.var 2) (.tup [(.var 5),(.var 8)])),(.ix (.var 2) (.tup [(.var 4),(.fn "_law_added" [(.var 1),(.var 5),(.var 8)])]))])) [9,0,2,4,1,5,8] [(.ret (.tup [(.var 4),(.var 5),(.var 8)]) [4,5,8])] []),(.fgt [8,9])]),(.fgt [5,6,7,8,9])]),(.fgt [4,5,6,7,8,9])]),
(.ret (.lit .non) [])]}
noncomputable def L.bw:IN.Def:={slots:=12,aB:=1,body:=[
(.asg (.nm 1) (.fn "_law_rounds" [(.fn "_law_cell" [(.var 0),(.lit (.int 0))]),(.lit (.int 16)),(.lit (.int 16))]) [0]),
(.asg (.nm 2) (.fn "_law_rounds" [(.fn "_law_cell" [(.var 0),(.lit (.int 1))]),(.ix (.lst [(.lit (.int 6)),(.lit (.int 6)),(.lit (.int 4)),(.lit (.int 9)),(.lit (.int 6)),(.lit (.int 6)),(.lit (.int 4)),(.lit (.int 5))]) (.bin .mod (.fn "_law_cell" [(.var 0),(.lit (.int 2))]) (.lit (.int 8)))),(.lit (.int 6))]) [0]),
(.asg (.nm 3) (.fn "_law_members" [(.var 2)]) [2]),
(.asg (.nm 4) (.fn "_law_table" [(.var 1),(.var 2),(.lst [(.fn "_law_cell" [(.var 0),(.lit (.int 3))]),(.fn "_law_cell" [(.var 0),(.lit (.int 4))])])]) [1,2,0]),
(.asg (.nm 5) (.fn "_law_cell" [(.var 0),(.lit (.int 5))]) [0]),
(.ife (.and (.cmp .eq (.bin .mod (.var 5) (.lit (.int 2))) (.lit (.int 1))) (.cmp .gt (.blt .len [(.var 2)]) (.lit (.int 1)))) [5,2] [(.asg (.nm 6) (.bin .mod (.bin .fdiv (.var 5) (.lit (.int 2))) (.bin .sub (.blt .len [(.var 2)]) (.lit (.int 1)))) [5,2]),(.asg (.nm 7) (.fn "_law_odd_element" [(.var 1),(.ix (.var 2) (.var 6)),(.ix (.var 2) (.bin .add (.var 6) (.lit (.int 1)))),(.fn "_law_cell" [(.var 0),(.lit (.int 6))])]) [1,2,6,0]),(.asg (.nm 4) (.fn "_law_paired" [(.var 1),(.var 2),(.var 4),(.var 6),(.bin .add (.var 6) (.lit (.int 1))),(.var 7)]) [1,2,4,6,7])] []),
(.fgt [8,9]),
(.for (.nm 8) (.blt .range [(.bin .mod (.bin .fdiv (.var 5) (.lit (.int 8))) (.lit (.int 3)))]) [5] [(.asg (.nm 9) (.fn "_law_cell" [(.var 0),(.bin .add (.lit (.int 7)) (.var 8))]) [0,8]),(.put 4 (.tup [(.ix (.var 3) (.bin .mod (.var 9) (.blt .len [(.var 3)]))),(.ix (.var 3) (.bin .mod (.bin .fdiv (.var 9) (.lit (.int 9))) (.blt .len [(.var 3)])))]) (.fn "_law_element" [(.var 1),(.bin .fdiv (.var 9) (.lit (.int 81)))]) [3,1,9]),(.fgt [8,9])]),
(.ife (.cmp .eq (.bin .mod (.bin .fdiv (.var 5) (.lit (.int 24))) (.lit (.int 5))) (.lit (.int 1))) [5] [(.asg (.nm 4) (.fn "_law_carries" [(.var 1),(.var 2),(.var 0),(.lit (.int 10))]) [1,2,0])] []),
(.asg (.nm 10) (.fn "_law_break" [(.var 1),(.var 2),(.var 4)]) [1,2,4]),
(.asg (.nm 11) (.fn "break_of_three" [(.fn "Table" [(.fn "Rounds" [(.var 1)]),(.fn "Rounds" [(.var 2)]),(.var 4)])]) [1,2,4]),
(.ife (.or (.isN (.var 10)) (.isN (.var 11))) [10,11] [(.ret (.and (.isN (.var 10)) (.isN (.var 11))) [10,11])] []),
(.ife (.or (.nt (.blt .isin [(.var 11),(.gl "tuple")])) (.cmp .ne (.blt .len [(.var 11)]) (.lit (.int 3)))) [11] [(.ret (.lit (.bl false)) [])] []),
(.ret (.blt .all [(.comp 2 [] (.tp [(.nm 0),(.nm 1)]) (.blt .zip [(.var 11),(.var 10)]) (.lit (.bl true)) (.emit (.fn "_law_same" [(.var 0),(.var 1)])))]) [11,10])]}
namespace PL
open PySem PySem.Spec L2 CT IN
open PyProof.Rows hiding St
section
variable {G:Prg} {cl:Str->List D->Option Rs} {ρ ρ':Rho} {s:CS'} {r b:List CS'} {α:Type} {t:Tg} {g:α->D} {it:CE} {L:List Nat}
theorem uO {i:Int}:ai (.int i)=true:=rfl
theorem uH {i:Bool}:ai (.bl i)=true:=rfl
theorem tE:ai .non=true:=rfl
theorem vg {i:Str}:ai (.str i)=true:=rfl
theorem kj {C:Addr} {ns:List Int}:ai (grp C ns)=true:=by
 show (ai (tupI ns)&&true)=true
 rw [show ai (tupI ns)=true from cf ns];rfl
theorem y8 {i j:Int}:bt .lt (.int i) (.int j)=some (decide (i<j)):=rfl
theorem y4 {i j:Int}:bt .le (.int i) (.int j)=some (decide (i<=j)):=rfl
theorem zE {i j:Int}:bt .gt (.int i) (.int j)=some (decide (j<i)):=rfl
theorem Ac {i j:Int}:bt .ge (.int i) (.int j)=some (decide (j<=i)):=rfl
theorem zY {i j:Int}:bt .eq (.int i) (.int j)=some (decide (i=j)):=rfl
theorem zp {i j:Int}:bt .ne (.int i) (.int j)=some (!decide (i=j)):=rfl
noncomputable def nxt:Option Oc->(Rho->Option Oc)->Option Oc
 |some (.nx ρ),k=>k ρ
 |o,_=>o
theorem zO:IN.run G cl (s::r) ρ=nxt (IN.ab G cl s ρ) (IN.run G cl r):=by
 rw [IN.run]
 cases IN.ab G cl s ρ with
 |none=>rfl
 |some o=>cases o<;>rfl
theorem xq {k:Rho->Option Oc}:nxt (some (.nx ρ)) k=k ρ:=rfl
theorem xr {k:Rho->Option Oc} {d:D}:nxt (some (.rt d)) k=some (.rt d):=rfl
theorem wc {k:Rho->Option Oc} {c:Ow}:nxt (some (.fr c)) k=some (.fr c):=rfl
theorem xI {k:Rho->Option Oc} {d:D}:nxt (some (.xc ρ d)) k=some (.xc ρ d):=rfl
theorem iX {bb:Rho->Option Oc} {q:α->Option Oc} (I:Rho->Prop):∀(l:List α) (ρ:Rho),I ρ->(∀a∈l,∀o,q a=some o->∀ρ',o≠.nx ρ')->
  (∀a∈l,∀ρ,I ρ->∃ρ1,ag t (g a) ρ=some ρ1∧((∃o,q a=some o∧bb ρ1=some o)∨(q a=none∧∃ρ2,I ρ2∧bb ρ1=some (.nx ρ2))))->∃ρ',I ρ'∧forL t bb (l.map g) ρ=some ((l.findSome? q).getD (.nx ρ'))
 |[],ρ,i,_,_=>⟨ρ,i,rfl⟩
 |a::l,ρ,i,hq,h=>by
  obtain ⟨ρ1,h1,h2⟩:=h a List.mem_cons_self ρ i
  rw [List.map_cons,forL,h1,List.findSome?_cons]
  dsimp only
  rcases h2 with ⟨o,e,hb⟩|⟨e,ρ2,i2,hb⟩
  ·rw [hb,e]
   refine ⟨ρ,i,?_⟩
   have:=hq a List.mem_cons_self o e
   cases o with
   |nx ρ'=>exact absurd rfl (this ρ')
   |_=>rfl
  ·rw [hb,e]
   exact iX I l ρ2 i2 (fun b hb=>hq b (List.mem_cons_of_mem _ hb)) fun b hb=>h b (List.mem_cons_of_mem _ hb)
theorem vN {q:α->Option Oc} (I:Rho->Prop) (l:List α) (hi:evI G cl it (ae L ρ)=some (l.map g)) (h0:I (ae L ρ)) (hq:∀a∈l,∀o,q a=some o->∀ρ',o≠.nx ρ')
  (h:∀a∈l,∀ρ,I ρ->∃ρ1,ag t (g a) ρ=some ρ1∧((∃o,q a=some o∧IN.run G cl b ρ1=some o)∨(q a=none∧∃ρ2,I ρ2∧IN.run G cl b ρ1=some (.nx ρ2)))):
  ∃ρ',I ρ'∧IN.ab G cl (.for t it L b) ρ=some ((l.findSome? q).getD (.nx ρ')):=by
 obtain ⟨ρ',i,e⟩:=iX I l _ h0 hq h
 exact ⟨ρ',i,by rw [IN.ab,hi];exact e⟩
theorem lX {f:D->Option (_root_.CT.PK×D)} {u:List Int×List Int->List Int}:∀(l done:List (List Int×List Int)),(done++l).Nodup->(done++l).length<=1000->(∀p∈l,f (prD p)=some (pkP p,tupI (u p)))->jq f (l.map prD) (aa u done)=some (aa u (done++l))
 |[],done,_,_,_=>by rw [List.append_nil];rfl
 |p::l,done,hn,hl,h=>by
  have hp:p∉done:=fun z=>(List.nodup_append.mp hn).2.2 _ z _ List.mem_cons_self rfl
  rw [List.map_cons,jq,h p List.mem_cons_self]
  dsimp only
  have hz:(aa u done).length<sizeLine:=by
   unfold aa
   rw [List.length_map]
   rw [List.length_append] at hl
   exact Nat.lt_of_le_of_lt (show done.length<=1000 by omega) (by decide)
  rw [if_pos hz,fq,iy hp,lX l (done++[p]) (by rw [List.append_assoc];exact hn) (by rw [List.append_assoc];exact hl) fun q hq=>h q (List.mem_cons_of_mem _ hq),List.append_assoc]
  rfl
theorem wq {w:Nat} {cap:List Nat} {kx vx:CE} {l:List (List Int×List Int)} {u:List Int×List Int->List Int} (hi:evI G cl it ρ=some (l.map prD)) (hw:((tks t).all fun k=>k<w)=true) (hnd:l.Nodup) (hz:l.length<=1000)
  (hb:∀p∈l,∃ρ1,ag t (prD p) (cN w cap ρ)=some ρ1∧ev G cl kx ρ1=some (prD p)∧ev G cl vx ρ1=some (tupI (u p))) (pk:∀p:List Int×List Int,b7 (prD p)=some (pkP p)) (dp:∀p:List Int×List Int,(pkP p).dp<=8):ev G cl (.cT w cap t it kx vx) ρ=some (.pdc (aa u l)):=by
 rw [ev,hi]
 dsimp only
 rw [if_pos hw]
 have e0:aa u []=[]:=rfl
 rw [←e0]
 rw [lX (u:=u) l [] hnd hz fun p hp=>?_]
 ·rfl
 ·obtain ⟨ρ1,h1,h2,h3⟩:=hb p hp
  rw [h1]
  dsimp only
  rw [h2,h3]
  unfold rC
  have e:b7 (prD p)=some (.t [pkT p.1,pkT p.2]):=pk p
  have e2:(PK.t [pkT p.1,pkT p.2]).dp<=8:=dp p
  simp only [e,e2,if_true]
  rfl
end
local macro_rules|`(tactic|dsimp? [$ls,*])=>`(tactic|simp only [$ls,*,zO,aE,xq,xr,wc,xI,ab.eq_1,ab.eq_2,ab.eq_3,ab.eq_4,ab.eq_5,ab.eq_6,ab.eq_7,ab.eq_8,ab.eq_9,ab.eq_10,ab.eq_11,ab.eq_12,ab.eq_13,ab.eq_16,ab.eq_18,ab.eq_19,evV,ev.eq_1,ev.eq_2,ev.eq_3,ev.eq_4,ev.eq_5,ev.eq_6,ev.eq_7,ev.eq_8,ev.eq_9,ev.eq_10,ev.eq_11,ev.eq_12,ev.eq_13,ev.eq_14,ev.eq_15,ev.eq_16,ev.eq_17,ev.eq_18,ev.eq_19,ev.eq_20,ev.eq_21,ev.eq_23,evA,evT,evI,evB,aA,ae,au,List.modify_zero_cons,List.modify_succ_cons,List.modify_nil,kp,uO,uH,tE,vg,az,lJ,kj,il,iz,ag,aN,ik,List.set_cons_zero,List.set_cons_succ,List.set_nil,List.getElem?_cons_zero,List.getElem?_cons_succ,List.length_cons,List.length_nil,Nat.reduceAdd,Nat.reduceLT,Nat.reduceSub,Nat.reduceLeDiff,Nat.zero_add,Nat.zero_lt_succ,if_true,if_false,Bool.not_true,Bool.not_false,Bool.true_and,Bool.false_and,Bool.and_true,Bool.and_false,Bool.true_or,Bool.false_or,Bool.or_true,Bool.or_false,and_self,true_and,and_true,Bool.false_eq_true,cH,y8,y4,zE,Ac,zY,zp,eQ,eR,gF,kW,rA,iV,je,bj,fnR,Rs.val,Ow.D,cN,bZ,List.replicate,List.cons_append,List.nil_append,List.map_cons,List.map_nil,slD,asI,sH,sO,sT,sU,kC,sk,tm,sN,ti,pU,pV,Option.map_some,decide_true,decide_false,List.all_cons,List.all_nil,tks,eh,List.append_nil,reduceCtorEq,ite_self])
section
variable {G:Prg} {C CG CTb:Addr} {n:Nat}
theorem vQ {x y z:D} {xs ys zs:List D} (h1:bq x=some xs) (h2:bq y=some ys) (h3:bq z=some zs):f_ .zip [x,y,z]=some (a7 xs ys zs):=by
 show (match bq x,bq y,bq z with|some xs,some ys,some zs=>some (a7 xs ys zs)|_,_,_=>none)=_
 rw [h1,h2,h3]
theorem uJ {ns x y:List Int} (hd:G.defs "Rounds.sum_of"=some (none,P.bR)) (fok:G.fok C "rounds"=true) (g:Good ns):kal G (n+1) "Rounds.sum_of" [grp C ns,tupI x,tupI y]=some (.ok (tupI (ao ns x y))):=by
 refine aU hd ⟨rfl,rfl⟩ (ρ0:=[.val (grp C ns),.val (tupI x),.val (tupI y)]) rfl (bc ?_)
 have hf:cq G (grp C ns) "rounds"=some (tupI ns):=by unfold grp;simp only [cq,fok,if_true,r_]
 have hz:f_ .zip [tupI x,tupI y,tupI ns]=some ((x.zip (y.zip ns)).map fun p=>D.tup [.int p.1,.int p.2.1,.int p.2.2]):=by rw [←j8];exact vQ rfl rfl rfl
 have key:ev G (kal G n) (.comp 3 [] (.tp [(.nm 0),(.nm 1),(.nm 2)]) (.blt .zip [(.var 1),(.var 2),(.fld (.var 0) "rounds")]) (.lit (.bl true)) (.emit (.bin .mod (.bin .add (.var 0) (.var 1)) (.var 2)))) [.val (grp C ns),.val (tupI x),.val (tupI y)]=some (.lst ((x.zip (y.zip ns)).map fun p=>D.int ((p.1+p.2.1)%p.2.2))):=by
  refine fU (g:=fun p:Int×Int×Int=>D.tup [.int p.1,.int p.2.1,.int p.2.2]) (by simp only [evI,evA,ev.eq_1,ev.eq_18,aA,List.getElem?_cons_zero,List.getElem?_cons_succ,hf,hz]) rfl ?_ fun p hp=>⟨[.val (.int p.1),.val (.int p.2.1),.val (.int p.2.2)],rfl,?_⟩
  ·have:=g.dW
   rw [List.length_zip,List.length_zip]
   exact Nat.le_trans (show min x.length (min y.length ns.length)<=1000 by omega) (by decide)
  ·have hp2:0<p.2.2:=by have:=g.ge _ (rG hp);omega
   simp only [ev.eq_4,ev.eq_1,aA,List.getElem?_cons_zero,List.getElem?_cons_succ,cH,hp2,if_true]
 simp only [ab.eq_11,evV,ev.eq_19,evA,ae,au,List.modify_zero_cons,List.modify_succ_cons,key,bj,eQ]
 unfold ao tupI
 rw [List.map_map]
 rfl
theorem l9 {ns x y:List Int} (hd:G.defs "Rounds.sum_of"=some (none,P.bR)) (hm:G.mth C "sum_of"=some ("Rounds.sum_of":Str)) (fok:G.fok C "rounds"=true) (g:Good ns):ba G (kal G (n+1)) (grp C ns) "sum_of" [tupI x,tupI y]=some (.ok (tupI (ao ns x y))):=by
 have h2:=uJ (n:=n) (x:=x) (y:=y) hd fok g
 have h3:(rf ns).lookup ("sum_of":Str)=none:=rfl
 unfold grp at h2 ⊢
 simp only [ba,h3,hm,h2]
noncomputable def bk3 (lo up:List Int) (t:Pr->List Int) (p:Pr) (z:List Int):Bool:=!decide (ao lo (t p) (t (ao up p.1 p.2,z))=ao lo (t (p.2,z)) (t (p.1,ao up p.2 z)))
noncomputable abbrev Tr:=Pr×List Int
noncomputable def trD (w:Tr):D:=.tup [tupI w.1.1,tupI w.1.2,tupI w.2]
noncomputable def f3 (lo up:List Int) (t:Pr->List Int) (p:Pr) (z:List Int):Option Tr:=if bk3 lo up t p z then some (p,z) else none
noncomputable def br3 (lo up:List Int) (t:Pr->List Int):Option Tr:=(prs (PL.mem up)).findSome? fun p=>(PL.mem up).findSome? (f3 lo up t p)
noncomputable def o3 (w:Option Tr):Option Oc:=w.map fun w=>Oc.rt (trD w)
noncomputable def d3 (w:Option Tr):D:=match w with
 |some w=>trD w
 |none=>.non
theorem gE {w:Option Tr} {o:Oc} (h:o3 w=some o):∀ρ',o≠.nx ρ':=by
 cases w with
 |none=>cases h
 |some w=>cases h;exact fun ρ' z=>nomatch z
theorem ee {α:Type} (f:α->Option Tr):∀l:List α,(l.findSome? fun a=>o3 (f a))=o3 (l.findSome? f)
 |[]=>rfl
 |a::l=>by
  rw [List.findSome?_cons,List.findSome?_cons]
  cases f a with
  |none=>exact ee f l
  |some w=>rfl
structure TD (G:Prg) (C CG CTb:Addr):Prop extends TC0 G C CG CTb where
 b3:G.defs "break_of_three"=some (none,P.bh)
 sm:G.defs "Rounds.sum_of"=some (none,P.bR)
 msm:G.mth C "sum_of"=some ("Rounds.sum_of":Str)
theorem qp {lo up:List Int} {t:Pr->List Int} (K:TD G C CG CTb) (U:LU lo up):kal G (n+3) "break_of_three" [tabI CTb C lo up t]=some (.ok (d3 (br3 lo up t))):=by
 refine aU K.b3 ⟨rfl,rfl⟩ (ρ0:=[.val (tabI CTb C lo up t),.nil,.nil,.nil,.nil,.nil,.nil,.nil,.nil,.nil,.nil]) rfl ?_
 have hm:ba G (kal G (n+2)) (tabI CTb C lo up t) "carries" []=some (.fr (.d (aa t (prs (PL.mem up))))):=by
  have h1:=K.Bg
  have h2:=ou (n:=n+1) (t:=t) K.toTC0 U
  have h3:(tf C lo up t).lookup ("carries":Str)=none:=rfl
  unfold tabI at h2 ⊢
  simp only [ba,h3,h1,h2]
 have hfl:cq G (tabI CTb C lo up t) "lower"=some (grp C lo):=by have f1:=K.T.flo;unfold tabI;simp only [cq,f1,if_true,vT]
 have hfu:cq G (tabI CTb C lo up t) "upper"=some (grp C up):=by have f1:=K.T.fup;unfold tabI;simp only [cq,f1,if_true,zI]
 have hmm:=jn (n:=n+1) K.T.B U.gu U.fu
 have g1:=K.T.fpr
 have g2:=ma (n:=n) K.T U.gu U.fu U.u9
 have ng:=kj (C:=C) (ns:=lo)
 have fr1:a9 (.d (aa t (prs (PL.mem up))))=true:=iz _ _
 have fr2:a9 (.l ((PL.mem up).map tupI))=true:=il _
 have fr3:a9 (.l ((prs (PL.mem up)).map prD))=true:=by
  show aO ((prs (PL.mem up)).map prD)=true
  generalize prs (PL.mem up)=l
  induction l with
  |nil=>rfl
  |cons p l ih=>show (ai (prD p)&&aO (l.map prD))=true;rw [lJ,ih];rfl
 have hz2:(2:Nat)<=sizeLine:=by decide
 have hz3:(3:Nat)<=sizeLine:=by decide
 have l81:(prs (PL.mem up)).length<=1000:=by rw [c9];exact Nat.le_trans (Nat.mul_le_mul U.u9 U.u9) (by decide)
 have hsu:∀(x y:List Int),ba G (kal G (n+2)) (grp C up) "sum_of" [tupI x,tupI y]=some (.ok (tupI (ao up x y))):=fun x y=>l9 (n:=n+1) K.sm K.msm K.T.B.A.fok U.gu
 have hsl:∀(x y:List Int),ba G (kal G (n+2)) (grp C lo) "sum_of" [tupI x,tupI y]=some (.ok (tupI (ao lo x y))):=fun x y=>l9 (n:=n+1) K.sm K.msm K.T.B.A.fok U.gl
 generalize htb:tabI CTb C lo up t=tb at hm hfl hfu
 have hdc:ev G (kal G (n+2)) (.cT 2 [0] (.tp [(.nm 0),(.nm 1)]) (.var 4) (.tup [(.var 0),(.var 1)]) (.mth (.fld (.var 2) "upper") "sum_of" [(.var 0),(.var 1)])) [.val tb,.val (grp C lo),.owx (.d (aa t (prs (PL.mem up)))),.owx (.l ((PL.mem up).map tupI)),.val (.lst ((prs (PL.mem up)).map prD)),.nil,.nil,.nil,.nil,.nil,.nil]=some (.pdc (aa (fun p=>ao up p.1 p.2) (prs (PL.mem up)))):=by
  refine wq rfl rfl (dN U.nd) l81 (fun p hp=>⟨[.val (tupI p.1),.val (tupI p.2),.val tb],rfl,?_,?_⟩) (fun p=>eK p) fun p=>eM p
  ·simp only [ev.eq_14,evA,ev.eq_1,aA,List.getElem?_cons_zero,List.getElem?_cons_succ,List.length_cons,List.length_nil,Nat.reduceAdd,hz2,if_true,fJ]
  ·simp only [ev.eq_21,evA,ev.eq_1,ev.eq_18,aA,List.getElem?_cons_zero,List.getElem?_cons_succ,hfu,hsu,Rs.val]
 have fr4:a9 (.d (aa (fun p=>ao up p.1 p.2) (prs (PL.mem up))))=true:=iz _ _
 unfold P.bh
 dsimp? [hfl,ng,hm,fr1,hfu,hmm,fr2,g1,g2,fr3,hdc,fr4]
 obtain ⟨ρ',i',key⟩:∃ρ',True∧IN.ab G (kal G (n+2)) (P.bh.body.getD 6 .pass) [.val tb,.val (grp C lo),.owx (.d (aa t (prs (PL.mem up)))),.owx (.l ((PL.mem up).map tupI)),.owx (.l ((prs (PL.mem up)).map prD)),.any,.any,.owx (.d (aa (fun p=>ao up p.1 p.2) (prs (PL.mem up)))),.any,.any,.any]=
   some (((prs (PL.mem up)).findSome? fun p=>o3 ((PL.mem up).findSome? (f3 lo up t p))).getD (.nx ρ')):=by
  have:=vN (G:=G) (cl:=kal G (n+2)) (t:=.tp [.nm 5,.nm 6]) (g:=prD) (it:=.var 4) (L:=[4]) (ρ:=[.val tb,.val (grp C lo),.owx (.d (aa t (prs (PL.mem up)))),.owx (.l ((PL.mem up).map tupI)),.owx (.l ((prs (PL.mem up)).map prD)),.any,.any,.owx (.d (aa (fun p=>ao up p.1 p.2) (prs (PL.mem up)))),.any,.any,.any])
   (b:=match P.bh.body.getD 6 .pass with|.for _ _ _ b=>b|_=>[]) (q:=fun p=>o3 ((PL.mem up).findSome? (f3 lo up t p))) (fun ρ=>∃s3,au s3=.val (.lst ((PL.mem up).map tupI))∧ρ=[.val tb,.val (grp C lo),.owx (.d (aa t (prs (PL.mem up)))),s3,.val (.lst ((prs (PL.mem up)).map prD)),.any,.any,.owx (.d (aa (fun p=>ao up p.1 p.2) (prs (PL.mem up)))),.any,.any,.any])
   (prs (PL.mem up)) rfl ⟨_,rfl,rfl⟩ (fun p _ o h=>gE h) fun p hp ρ ⟨s3,q3,e⟩=>?_
  ·obtain ⟨ρ',_,e⟩:=this;exact ⟨ρ',trivial,e⟩
  ·subst e
   obtain ⟨x,y⟩:=p
   obtain ⟨hx,hy⟩:=fv hp
   refine ⟨[.val tb,.val (grp C lo),.owx (.d (aa t (prs (PL.mem up)))),s3,.val (.lst ((prs (PL.mem up)).map prD)),.val (tupI x),.val (tupI y),.owx (.d (aa (fun p=>ao up p.1 p.2) (prs (PL.mem up)))),.any,.any,.any],rfl,?_⟩
   have inner:IN.ab G (kal G (n+2)) (.for (.nm 8) (.var 3) [3] [(.asg (.nm 9) (.mth (.var 1) "sum_of" [(.ix (.var 2) (.tup [(.var 5),(.var 6)])),(.ix (.var 2) (.tup [(.ix (.var 7) (.tup [(.var 5),(.var 6)])),(.var 8)]))]) [1,2,7,5,6,8]),(.asg (.nm 10) (.mth (.var 1) "sum_of" [(.ix (.var 2) (.tup [(.var 6),(.var 8)])),(.ix (.var 2) (.tup [(.var 5),(.ix (.var 7) (.tup [(.var 6),(.var 8)]))]))]) [1,2,5,7,6,8]),(.ife (.cmp .ne (.var 9) (.var 10)) [9,10] [(.ret (.tup [(.var 5),(.var 6),(.var 8)]) [5,6,8])] []),(.fgt [8,9,10])])
     [.val tb,.val (grp C lo),.owx (.d (aa t (prs (PL.mem up)))),s3,.val (.lst ((prs (PL.mem up)).map prD)),.val (tupI x),.val (tupI y),.owx (.d (aa (fun p=>ao up p.1 p.2) (prs (PL.mem up)))),.any,.any,.any]=some (((PL.mem up).findSome? fun z=>o3 (f3 lo up t (x,y) z)).getD (.nx [.val tb,.val (grp C lo),.owx (.d (aa t (prs (PL.mem up)))),.val (.lst ((PL.mem up).map tupI)),.val (.lst ((prs (PL.mem up)).map prD)),.val (tupI x),.val (tupI y),.owx (.d (aa (fun p=>ao up p.1 p.2) (prs (PL.mem up)))),.any,.any,.any])):=by
    refine iL (g:=tupI) _ (PL.mem up) ?_ ?_ (fun z _ o h=>gE h) fun z hz=>⟨[.val tb,.val (grp C lo),.owx (.d (aa t (prs (PL.mem up)))),.val (.lst ((PL.mem up).map tupI)),.val (.lst ((prs (PL.mem up)).map prD)),.val (tupI x),.val (tupI y),.owx (.d (aa (fun p=>ao up p.1 p.2) (prs (PL.mem up)))),.val (tupI z),.any,.any],rfl,?_⟩
    ·simp only [evI,ae,List.modify_succ_cons,List.modify_zero_cons,q3,aA,List.getElem?_cons_succ,List.getElem?_cons_zero,gF]
    ·simp only [ae,List.modify_succ_cons,List.modify_zero_cons,q3]
    have a1:=fx U.gu hx hy
    have a2:=fx U.gu hy hz
    have i1:=bI (t:=t) (aX hx hy)
    have i2:=bI (t:=fun p=>ao up p.1 p.2) (aX hx hy)
    have i3:=bI (t:=t) (aX a1 hz)
    have i4:=bI (t:=t) (aX hy hz)
    have i5:=bI (t:=fun p=>ao up p.1 p.2) (aX hy hz)
    have i6:=bI (t:=t) (aX hx a2)
    have s1:=hsl (t (x,y)) (t (ao up x y,z))
    have s2:=hsl (t (y,z)) (t (x,ao up y z))
    have n1:=az (ao lo (t (x,y)) (t (ao up x y,z)))
    have n2:=az (ao lo (t (y,z)) (t (x,ao up y z)))
    have cm:=mj (ao lo (t (x,y)) (t (ao up x y,z))) (ao lo (t (y,z)) (t (x,ao up y z)))
    unfold f3 bk3
    dsimp only
    cases hb:decide (ao lo (t (x,y)) (t (ao up x y,z))=ao lo (t (y,z)) (t (x,ao up y z))) with
    |true=>
     rw [hb] at cm
     dsimp? [i1,i2,i3,i4,i5,i6,s1,s2,n1,n2,cm,hz2,hz3]
     rfl
    |false=>
     rw [hb] at cm
     dsimp? [i1,i2,i3,i4,i5,i6,s1,s2,n1,n2,cm,hz2,hz3]
     rfl
   rw [ee] at inner
   show (∃o,o3 ((PL.mem up).findSome? (f3 lo up t (x,y)))=some o∧IN.run G (kal G (n+2)) [(.fgt [8,9,10]),_,(.fgt [5,6,8,9,10])] _=some o)∨_
   cases hq:(PL.mem up).findSome? (f3 lo up t (x,y)) with
   |none=>
    rw [hq] at inner
    refine .inr ⟨rfl,_,⟨.val (.lst ((PL.mem up).map tupI)),rfl,rfl⟩,?_⟩
    exact st (by rfl) (st inner (st (by rfl) aE))
   |some w=>
    rw [hq] at inner
    exact .inl ⟨_,rfl,st (by rfl) (bc inner)⟩
 rw [ee] at key
 have e3:br3 lo up t=(prs (PL.mem up)).findSome? fun p=>(PL.mem up).findSome? (f3 lo up t p):=rfl
 rw [←e3] at key
 refine (congrArg (fun o=>nxt o _) key).trans ?_
 cases br3 lo up t with
 |none=>show IN.run G (kal G (n+2)) [(.ret (.lit .non) [])] ρ'=_;dsimp? [d3]
 |some w=>rfl
end
section
variable {G:Prg} {C CG CTb:Addr} {n:Nat}
theorem pX {lo up:List Int} {t:Pr->List Int} (W:LW G) (hd:G.defs "_law_break"=some (none,L.b8)) (U:LU lo up) (ht:Els lo t (prs (PL.mem up))):kal G (n+2) "_law_break" [tupI lo,tupI up,.pdc (aa t (prs (PL.mem up)))]=some (.ok (d3 (br3 lo up t))):=by
 refine aU hd ⟨rfl,rfl⟩ (ρ0:=[.val (tupI lo),.val (tupI up),.val (.pdc (aa t (prs (PL.mem up)))),.nil,.nil,.nil,.nil,.nil,.nil,.nil]) rfl ?_
 have h1:=W.nB
 have h2:=dY (n:=n) W.mem U.gu U.fu
 have f2:=W.lE
 have hz2:(2:Nat)<=sizeLine:=by decide
 have hz3:(3:Nat)<=sizeLine:=by decide
 unfold L.b8
 dsimp? [h1,h2]
 generalize htb:D.pdc (aa t (prs (PL.mem up)))=tb
 have key:IN.ab G (kal G (n+1)) (L.b8.body.getD 2 .pass) [.val (tupI lo),.val (tupI up),.val tb,.owx (.l ((PL.mem up).map tupI)),.any,.any,.any,.any,.any,.any]=
   some (((PL.mem up).findSome? fun x=>o3 ((PL.mem up).findSome? fun y=>(PL.mem up).findSome? (f3 lo up t (x,y)))).getD (.nx [.val (tupI lo),.val (tupI up),.val tb,.val (.lst ((PL.mem up).map tupI)),.any,.any,.any,.any,.any,.any])):=by
  refine iL (g:=tupI) _ (PL.mem up) rfl rfl (fun x _ o h=>gE h) fun x hx=>⟨[.val (tupI lo),.val (tupI up),.val tb,.val (.lst ((PL.mem up).map tupI)),.val (tupI x),.any,.any,.any,.any,.any],rfl,?_⟩
  have in2:IN.ab G (kal G (n+1)) (match L.b8.body.getD 2 .pass with|.for _ _ _ b=>b.getD 1 .pass|s=>s) [.val (tupI lo),.val (tupI up),.val tb,.val (.lst ((PL.mem up).map tupI)),.val (tupI x),.any,.any,.any,.any,.any]=
    some (((PL.mem up).findSome? fun y=>o3 ((PL.mem up).findSome? (f3 lo up t (x,y)))).getD (.nx [.val (tupI lo),.val (tupI up),.val tb,.val (.lst ((PL.mem up).map tupI)),.val (tupI x),.any,.any,.any,.any,.any])):=by
   refine iL (g:=tupI) _ (PL.mem up) rfl rfl (fun x _ o h=>gE h) fun y hy=>⟨[.val (tupI lo),.val (tupI up),.val tb,.val (.lst ((PL.mem up).map tupI)),.val (tupI x),.val (tupI y),.any,.any,.any,.any],rfl,?_⟩
   have i1:=bI (t:=t) (aX hx hy)
   have xu:=mem_iff.mp hx
   have yu:=mem_iff.mp hy
   have w1:=b9 (n:=n) W.added U.gu xu.len yu.len
   have in3:IN.ab G (kal G (n+1)) (.for (.nm 8) (.var 3) [3] [(.asg (.nm 9) (.fn "_law_added" [(.var 0),(.var 6),(.ix (.var 2) (.tup [(.var 7),(.var 8)]))]) [0,6,2,7,8]),(.ife (.cmp .ne (.var 9) (.fn "_law_added" [(.var 0),(.ix (.var 2) (.tup [(.var 5),(.var 8)])),(.ix (.var 2) (.tup [(.var 4),(.fn "_law_added" [(.var 1),(.var 5),(.var 8)])]))])) [9,0,2,4,1,5,8] [(.ret (.tup [(.var 4),(.var 5),(.var 8)]) [4,5,8])] []),(.fgt [8,9])]) [.val (tupI lo),.val (tupI up),.val tb,.val (.lst ((PL.mem up).map tupI)),.val (tupI x),.val (tupI y),.val (tupI (t (x,y))),.val (tupI (ao up x y)),.any,.any]=
     some (((PL.mem up).findSome? fun z=>o3 (f3 lo up t (x,y) z)).getD (.nx [.val (tupI lo),.val (tupI up),.val tb,.val (.lst ((PL.mem up).map tupI)),.val (tupI x),.val (tupI y),.val (tupI (t (x,y))),.val (tupI (ao up x y)),.any,.any])):=by
    refine iL (g:=tupI) _ (PL.mem up) rfl rfl (fun x _ o h=>gE h) fun z hz=>⟨[.val (tupI lo),.val (tupI up),.val tb,.val (.lst ((PL.mem up).map tupI)),.val (tupI x),.val (tupI y),.val (tupI (t (x,y))),.val (tupI (ao up x y)),.val (tupI z),.any],rfl,?_⟩
    have zu:=mem_iff.mp hz
    have a1:=fx U.gu hx hy
    have a2:=fx U.gu hy hz
    have i3:=bI (t:=t) (aX a1 hz)
    have i4:=bI (t:=t) (aX hy hz)
    have i6:=bI (t:=t) (aX hx a2)
    rw [htb] at i3 i4 i6
    have w2:=b9 (n:=n) W.added U.gl (ht _ (aX hx hy)).len (ht _ (aX a1 hz)).len
    have w3:=b9 (n:=n) W.added U.gu yu.len zu.len
    have w4:=b9 (n:=n) W.added U.gl (ht _ (aX hy hz)).len (ht _ (aX hx a2)).len
    have cm:=mj (ao lo (t (x,y)) (t (ao up x y,z))) (ao lo (t (y,z)) (t (x,ao up y z)))
    unfold f3 bk3
    dsimp only
    cases hb:decide (ao lo (t (x,y)) (t (ao up x y,z))=ao lo (t (y,z)) (t (x,ao up y z))) with
    |true=>
     rw [hb] at cm
     dsimp? [i3,i4,i6,w2,w3,w4,f2,cm,hz2,hz3]
     rfl
    |false=>
     rw [hb] at cm
     dsimp? [i3,i4,i6,w2,w3,w4,f2,cm,hz2,hz3]
     rfl
   rw [ee] at in3
   rw [htb] at i1
   show IN.run G (kal G (n+1)) [(.asg (.nm 6) (.ix (.var 2) (.tup [(.var 4),(.var 5)])) [2,4,5]),(.asg (.nm 7) (.fn "_law_added" [(.var 1),(.var 4),(.var 5)]) [1,4,5]),(.fgt [8,9]),_,(.fgt [5,6,7,8,9])] _=_
   dsimp? [i1,w1,f2,hz2,in3]
   cases (PL.mem up).findSome? (f3 lo up t (x,y)) with
   |none=>rfl
   |some w=>rfl
  rw [ee] at in2
  cases hq:(PL.mem up).findSome? fun y=>(PL.mem up).findSome? (f3 lo up t (x,y)) with
  |none=>
   rw [hq] at in2
   exact st (by rfl) (st in2 (st (by rfl) aE))
  |some w=>
   rw [hq] at in2
   exact st (by rfl) (bc in2)
 rw [ee] at key
 have e3:br3 lo up t=(PL.mem up).findSome? fun x=>(PL.mem up).findSome? fun y=>(PL.mem up).findSome? (f3 lo up t (x,y)):=by
  unfold br3
  exact qH
 rw [←e3] at key
 refine (congrArg (fun o=>nxt o _) key).trans ?_
 cases br3 lo up t with
 |none=>show IN.run G (kal G (n+1)) [(.ret (.lit .non) [])] [.val (tupI lo),.val (tupI up),.val tb,.val (.lst ((PL.mem up).map tupI)),.any,.any,.any,.any,.any,.any]=_;dsimp? [d3]
 |some w=>rfl
theorem nq {lo up ns:List Int} {at':Int} (W:LW G) (hd:G.defs "_law_carries"=some (none,L.d7)) (U:LU lo up) (p16:prod lo<=16):∃t,kal G (n+2) "_law_carries" [tupI lo,tupI up,.lst (ns.map .int),.int at']=some (.fr (.d (aa t (prs (PL.mem up)))))∧Els lo t (prs (PL.mem up)):=by
 have h1:=W.nB
 have h2:=dY (n:=n) W.mem U.gu U.fu
 have f1:=W.qQ
 have f2:=W.nv
 have hz2:(2:Nat)<=sizeLine:=by decide
 have pg:=cI U.gl.ge
 have m0:(0:Int)<prod lo∧(prod lo).toNat<1073741824:=by omega
 have k0:IN.ab G (kal G (n+1)) (L.d7.body.getD 2 .pass) [.val (tupI lo),.val (tupI up),.val (.lst (ns.map .int)),.val (.int at'),.val (.int 1),.any,.nil,.nil,.nil,.nil,.nil]=some (.nx [.val (tupI lo),.val (tupI up),.val (.lst (ns.map .int)),.val (.int at'),.val (.int (prod lo)),.any,.nil,.nil,.nil,.nil,.nil]):=by
  refine d6 (g:=D.int) (fun done=>[.val (tupI lo),.val (tupI up),.val (.lst (ns.map .int)),.val (.int at'),.val (.int (prod done)),.any,.nil,.nil,.nil,.nil,.nil]) lo rfl rfl fun done a rest e=>⟨[.val (tupI lo),.val (tupI up),.val (.lst (ns.map .int)),.val (.int at'),.val (.int (prod done)),.val (.int a),.nil,.nil,.nil,.nil,.nil],rfl,?_⟩
  have hm:bg (prod done) a=true:=b_ (by have:=U.gl.lt a (by rw [e];simp);have:=U.gl.ge a (by rw [e];simp);omega)
  rw [eL]
  dsimp? [hm]
 obtain ⟨ρ2,k2,t,rfl,hEls⟩:∃ρ',IN.ab G (kal G (n+1)) (L.d7.body.getD 5 .pass) [.val (tupI lo),.val (tupI up),.val (.lst (ns.map .int)),.val (.int at'),.val (.int (prod lo)),.any,.owx (.d []),.any,.any,.any,.any]=some (.nx ρ')∧
   ∃t,ρ'=[.val (tupI lo),.val (tupI up),.val (.lst (ns.map .int)),.val (.int at'),.val (.int (prod lo)),.any,.owx (.d (aa t (((PL.mem up).zipIdx.map (·.1)).flatMap fun a=>(PL.mem up).map fun b=>(a,b)))),.any,.any,.any,.any]∧Els lo t (((PL.mem up).zipIdx.map (·.1)).flatMap fun a=>(PL.mem up).map fun b=>(a,b)):=by
  refine cU (g:=fun p:List Int×Nat=>D.tup [.int (p.2:Int),tupI p.1]) (fun done ρ=>∃t,ρ=[.val (tupI lo),.val (tupI up),.val (.lst (ns.map .int)),.val (.int at'),.val (.int (prod lo)),.any,.owx (.d (aa t ((done.map (·.1)).flatMap fun a=>(PL.mem up).map fun b=>(a,b)))),.any,.any,.any,.any]∧Els lo t ((done.map (·.1)).flatMap fun a=>(PL.mem up).map fun b=>(a,b))) ((PL.mem up).zipIdx) ?_ rfl ⟨fun _=>[],rfl,fun p hp=>(nomatch hp)⟩ fun done p rest ρ e ⟨t,hρ,hE⟩=>?_
  ·have:aT 0 ((PL.mem up).map tupI)=((PL.mem up).zipIdx 0).map fun p=>D.tup [.int (p.2:Int),tupI p.1]:=kI 0
   rw [←this]
   simp only [evI,evA,ev.eq_20,ev.eq_1,ae,au,List.modify_zero_cons,List.modify_succ_cons,aA,List.getElem?_cons_zero,List.getElem?_cons_succ,fnR,h1,h2,Rs.val,Ow.D]
   rfl
  ·subst hρ
   obtain ⟨x,k⟩:=p
   have e':PL.mem up=(done.map (·.1))++x::rest.map (·.1):=by
    have:=congrArg (List.map (·.1)) e
    rw [List.zipIdx_map_fst,List.map_append,List.map_cons] at this
    exact this
   have hx:x∈PL.mem up:=by rw [e'];simp
   have c1:=lB (G:=G) (ns:=ns) (k:=at'+(k:Int)) (n:=n) W.cell
   generalize cell ns (at'+(k:Int))=c at c1
   refine ⟨[.val (tupI lo),.val (tupI up),.val (.lst (ns.map .int)),.val (.int at'),.val (.int (prod lo)),.any,.owx (.d (aa t ((done.map (·.1)).flatMap fun a=>(PL.mem up).map fun b=>(a,b)))),.val (.int (k:Int)),.val (tupI x),.any,.any],?_⟩
   have ef:((done++[(x,k)]).map (·.1)).flatMap (fun a=>(PL.mem up).map fun b=>(a,b))=((done.map (·.1)).flatMap fun a=>(PL.mem up).map fun b=>(a,b))++(PL.mem up).map fun b=>(x,b):=by
    rw [List.map_append,List.flatMap_append]
    simp only [List.map_cons,List.map_nil,List.flatMap_cons,List.flatMap_nil,List.append_nil]
   rw [ef]
   generalize (done.map (·.1))=dn at hE e' ⊢
   obtain ⟨ρ3,k3,t',c',rfl,hE'⟩:∃ρ',IN.ab G (kal G (n+1)) (.for (.nm 10) (.fn "_law_members" [(.var 1)]) [1] [(.put 6 (.tup [(.var 8),(.var 10)]) (.fn "_law_element" [(.var 0),(.var 9)]) [8,10,0,9]),(.asg (.nm 9) (.bin .fdiv (.var 9) (.var 4)) [9,4]),(.fgt [10])]) [.val (tupI lo),.val (tupI up),.val (.lst (ns.map .int)),.val (.int at'),.val (.int (prod lo)),.any,.owx (.d (aa t (dn.flatMap fun a=>(PL.mem up).map fun b=>(a,b)))),.val (.int (k:Int)),.val (tupI x),.val (.int c),.any]=some (.nx ρ')∧
     ∃t' c',ρ'=[.val (tupI lo),.val (tupI up),.val (.lst (ns.map .int)),.val (.int at'),.val (.int (prod lo)),.any,.owx (.d (aa t' ((dn.flatMap fun a=>(PL.mem up).map fun b=>(a,b))++(PL.mem up).map fun b=>(x,b)))),.val (.int (k:Int)),.val (tupI x),.val (.int c'),.any]∧Els lo t' ((dn.flatMap fun a=>(PL.mem up).map fun b=>(a,b))++(PL.mem up).map fun b=>(x,b)):=by
    refine cU (g:=tupI) (ρ0:=[.val (tupI lo),.val (tupI up),.val (.lst (ns.map .int)),.val (.int at'),.val (.int (prod lo)),.any,.owx (.d (aa t (dn.flatMap fun a=>(PL.mem up).map fun b=>(a,b)))),.val (.int (k:Int)),.val (tupI x),.val (.int c),.any]) (fun done2 ρ=>∃t' c',ρ=[.val (tupI lo),.val (tupI up),.val (.lst (ns.map .int)),.val (.int at'),.val (.int (prod lo)),.any,.owx (.d (aa t' ((dn.flatMap fun a=>(PL.mem up).map fun b=>(a,b))++done2.map fun b=>(x,b)))),.val (.int (k:Int)),.val (tupI x),.val (.int c'),.any]∧Els lo t' ((dn.flatMap fun a=>(PL.mem up).map fun b=>(a,b))++done2.map fun b=>(x,b))) (PL.mem up) (by
     simp only [evI,evA,ev.eq_1,ae,au,List.modify_zero_cons,List.modify_succ_cons,aA,List.getElem?_cons_zero,List.getElem?_cons_succ,fnR,h1,h2,Rs.val,Ow.D,gF]) rfl ⟨t,c,by rw [List.map_nil,List.append_nil],by rw [List.map_nil,List.append_nil];exact hE⟩ fun done2 y rest2 ρ e2 ⟨t',c',hρ,hE'⟩=>?_
    subst hρ
    have hy:y∈PL.mem up:=by rw [e2];simp
    have el:=eS (n:=n) (c:=c') W.elm U.gl
    have hel:=iS (c:=c') U.gl.g2
    generalize elI lo c'=v at el hel
    obtain ⟨tail,hsp⟩:=km e' e2
    have hnd:(prs (PL.mem up)).Nodup:=dN U.nd
    have hn:(x,y)∉(dn.flatMap fun a=>(PL.mem up).map fun b=>(a,b))++done2.map fun b=>(x,b):=by
     rw [hsp] at hnd
     intro z
     exact (List.nodup_append.mp hnd).2.2 _ z _ List.mem_cons_self rfl
    have g3:=jK (t:=t') (v:=v) hn
    have g9:bp (aa t' ((dn.flatMap fun a=>(PL.mem up).map fun b=>(a,b))++done2.map fun b=>(x,b))) (PK.t [pkT x,pkT y]) (tupI v)=aa (bo t' (x,y) v) (((dn.flatMap fun a=>(PL.mem up).map fun b=>(a,b))++done2.map fun b=>(x,b))++[(x,y)]):=g3
    have g4:=eK (x,y)
    have g8:(PK.t [pkT x,pkT y]).dp<=8:=eM (x,y)
    have g6:(aa t' ((dn.flatMap fun a=>(PL.mem up).map fun b=>(a,b))++done2.map fun b=>(x,b))).length<sizeLine:=by
     unfold aa
     rw [List.length_map]
     have l1:=congrArg List.length hsp
     rw [c9,List.length_append,List.length_cons] at l1
     have l2:=Nat.mul_le_mul U.u9 U.u9
     exact Nat.lt_of_le_of_lt (show _<=81 by omega) (by decide)
    have hE2:=hE'.snoc (p:=(x,y)) hel
    generalize hpre:(dn.flatMap fun a=>(PL.mem up).map fun b=>(a,b))++(done2.map fun b=>(x,b))=pre at g3 g9 g6 hE2
    refine ⟨[.val (tupI lo),.val (tupI up),.val (.lst (ns.map .int)),.val (.int at'),.val (.int (prod lo)),.any,.owx (.d (aa t' pre)),.val (.int (k:Int)),.val (tupI x),.val (.int c'),.val (tupI y)],_,rfl,?_,bo t' (x,y) v,c' / prod lo,rfl,?_⟩
    ·rw [List.map_append,←List.append_assoc,hpre]
     dsimp? [f1,el,hz2,fJ,g4,g8,g6,g9,m0]
    ·rw [List.map_append,←List.append_assoc,hpre]
     exact hE2
   refine ⟨_,rfl,?_,t',rfl,hE'⟩
   dsimp? [f2,c1,k3]
 have e4:((PL.mem up).zipIdx.map (·.1)).flatMap (fun a=>(PL.mem up).map fun b=>(a,b))=prs (PL.mem up):=by rw [List.zipIdx_map_fst];rfl
 rw [e4] at hEls k2
 refine ⟨t,?_,hEls⟩
 refine dH hd ⟨rfl,rfl⟩ (ρ0:=[.val (tupI lo),.val (tupI up),.val (.lst (ns.map .int)),.val (.int at'),.nil,.nil,.nil,.nil,.nil,.nil,.nil]) rfl ?_
 exact st (by rfl) (st (by rfl) (st k0 (st (by rfl) (st (by rfl) (st k2 (eN (by rfl)))))))
end
section
variable {G:Prg} {C CG CTb:Addr} {n:Nat}
structure LY (G:Prg):Prop where
 gcd:G.defs "_law_gcd"=some (none,L.gcd)
 AW:G.fn "_law_gcd"=some ("_law_gcd":Str)
 odd:G.defs "_law_odd_element"=some (none,L.dC)
 A_:G.fn "_law_odd_element"=some ("_law_odd_element":Str)
 par:G.defs "_law_paired"=some (none,L.paired)
 A0:G.fn "_law_paired"=some ("_law_paired":Str)
 brk:G.defs "_law_break"=some (none,L.b8)
 AO:G.fn "_law_break"=some ("_law_break":Str)
 tab:G.defs "_law_table"=some (none,L.table)
 AV:G.fn "_law_table"=some ("_law_table":Str)
 car:G.defs "_law_carries"=some (none,L.d7)
 A8:G.fn "_law_carries"=some ("_law_carries":Str)
 whole:G.defs "_law_whole"=some (none,L.whole)
 lT:G.fn "_law_whole"=some ("_law_whole":Str)
 same:G.defs "_law_same"=some (none,L.same)
 zj:G.fn "_law_same"=some ("_law_same":Str)
 fb3:G.fn "break_of_three"=some ("break_of_three":Str)
theorem ze (c:Int):∃m,atI [D.int 6,.int 6,.int 4,.int 9,.int 6,.int 6,.int 4,.int 5] (c%8)=some (.int m)∧1<=m∧m<=9:=by
 have h:c%8=0∨c%8=1∨c%8=2∨c%8=3∨c%8=4∨c%8=5∨c%8=6∨c%8=7:=by omega
 rcases h with h|h|h|h|h|h|h|h<;>rw [h]<;>exact ⟨_,rfl,by decide,by decide⟩
theorem r9 (w:Option Tr):ai (d3 w)=true:=by
 cases w with
 |none=>rfl
 |some w=>show (ai (tupI w.1.1)&&(ai (tupI w.1.2)&&(ai (tupI w.2)&&true)))=true;rw [az,az,az];rfl
theorem vL {lo up:List Int} {t:Pr->List Int} {w:Tr} (h:br3 lo up t=some w):w.1.1∈PL.mem up∧w.1.2∈PL.mem up∧w.2∈PL.mem up:=by
 obtain ⟨p,hp,h2⟩:=List.exists_of_findSome?_eq_some h
 obtain ⟨z,hz,h3⟩:=List.exists_of_findSome?_eq_some h2
 unfold f3 at h3
 split at h3
 ·cases h3;exact ⟨(fv hp).1,(fv hp).2,hz⟩
 ·cases h3
theorem zl {ns lo up:List Int} {pk:Int} {s6 s7:Sl} {t:Pr->List Int} (W:LW G) (U:LU lo up) (hm0:0<(PL.mem up).length) (ht:Els lo t (prs (PL.mem up))):
  ∃ρ',IN.ab G (kal G (n+1)) (L.bw.body.getD 7 .pass) [.val (.lst (ns.map .int)),.val (tupI lo),.val (tupI up),.owx (.l ((PL.mem up).map tupI)),.owx (.d (aa t (prs (PL.mem up)))),.val (.int pk),s6,s7,.any,.any,.nil,.nil]=some (.nx ρ')∧∃t',ρ'=[.val (.lst (ns.map .int)),.val (tupI lo),.val (tupI up),.owx (.l ((PL.mem up).map tupI)),.owx (.d (aa t' (prs (PL.mem up)))),.val (.int pk),s6,s7,.any,.any,.nil,.nil]∧Els lo t' (prs (PL.mem up)):=by
 have p8:(0:Int)<8∧(8:Int).toNat<1073741824:=by decide
 have p3:(0:Int)<3∧(3:Int).toNat<1073741824:=by decide
 have b1:f_ .range [.int (pk / 8%3)]=some ((ar (pk / 8%3)).map D.int):=iJ (by omega)
 refine cU (g:=D.int) (ρ0:=[.val (.lst (ns.map .int)),.val (tupI lo),.val (tupI up),.owx (.l ((PL.mem up).map tupI)),.owx (.d (aa t (prs (PL.mem up)))),.val (.int pk),s6,s7,.any,.any,.nil,.nil]) (fun _ ρ=>∃t',ρ=[.val (.lst (ns.map .int)),.val (tupI lo),.val (tupI up),.owx (.l ((PL.mem up).map tupI)),.owx (.d (aa t' (prs (PL.mem up)))),.val (.int pk),s6,s7,.any,.any,.nil,.nil]∧Els lo t' (prs (PL.mem up))) (ar (pk / 8%3)) (by dsimp? [p8,p3,b1]) rfl ⟨t,rfl,ht⟩ fun _ k rest ρ e ⟨t1,hρ,h1⟩=>?_
 subst hρ
 have c1:=lB (G:=G) (ns:=ns) (k:=7+k) (n:=n) W.cell
 have f1:=W.nv
 have f2:=W.qQ
 generalize cell ns (7+k)=c at c1
 obtain ⟨x,hx,a1⟩:=oW (c:=c) hm0
 obtain ⟨y,hy,a2⟩:=oW (c:=c / 9) hm0
 have hp:=aX hx hy
 have c2:=eS (n:=n) (c:=c / 81) W.elm U.gl
 have hel:=iS (c:=c / 81) U.gl.g2
 generalize elI lo (c / 81)=v at c2 hel
 have g1:=uo (t:=t1) (v:=v) hp
 have g1':bp (aa t1 (prs (PL.mem up))) (PK.t [pkT x,pkT y]) (tupI v)=aa (bo t1 (x,y) v) (prs (PL.mem up)):=g1
 have h2:=h1.upd (p:=(x,y)) hel
 have lm:((PL.mem up).map tupI).length=(PL.mem up).length:=by simp
 have u9:=U.u9
 have m1:(0:Int)<((PL.mem up).length:Int)∧((PL.mem up).length:Int).toNat<1073741824:=by omega
 have p9:(0:Int)<9∧(9:Int).toNat<1073741824:=by decide
 have p81:(0:Int)<81∧(81:Int).toNat<1073741824:=by decide
 have hz2:(2:Nat)<=sizeLine:=by decide
 have g4:=eK (x,y)
 have g8:(PK.t [pkT x,pkT y]).dp<=8:=eM (x,y)
 have z1:(aa t1 (prs (PL.mem up))).length<sizeLine:=by
  unfold aa
  rw [List.length_map,c9]
  exact Nat.lt_of_le_of_lt (Nat.mul_le_mul u9 u9) (by decide)
 refine ⟨[.val (.lst (ns.map .int)),.val (tupI lo),.val (tupI up),.owx (.l ((PL.mem up).map tupI)),.owx (.d (aa t1 (prs (PL.mem up)))),.val (.int pk),s6,s7,.val (.int k),.any,.nil,.nil],_,rfl,?_,_,rfl,h2⟩
 dsimp? [f1,c1,f2,c2,a1,a2,lm,m1,p9,p81,hz2,fJ,g4,g8,z1,g1']
theorem uw {key:Str} {ns:List Int} (hd:G.defs key=some (none,L.bw)) (K:TD G C CG CTb) (W:LW G) (X:LY G):kal G (n+5) key [.lst (ns.map .int)]=some (.ok (.bl true)):=by
 refine aU hd ⟨rfl,rfl⟩ (ρ0:=[.val (.lst (ns.map .int)),.nil,.nil,.nil,.nil,.nil,.nil,.nil,.nil,.nil,.nil,.nil]) rfl ?_
 have hc:∀k,kal G (n+4) "_law_cell" [.lst (ns.map .int),.int k]=some (.ok (.int (cell ns k))):=fun k=>lB (n:=n+3) W.cell
 obtain ⟨ms,ixm,ms1,ms9⟩:=ze (cell ns 2)
 have gl:Good (many 16 (cell ns 0) 16):=j1 (by decide) (by decide) (by decide)
 have gu:Good (many 6 (cell ns 1) ms):=j1 (by decide) ms1 (by omega)
 have pl:prod (many 16 (cell ns 0) 16)<=16:=jS (by decide) (by decide) (by decide)
 have U:=y0 gl gu pl (Int.le_trans (jS (by decide) ms1 (by omega)) ms9)
 have r1:=kL (n:=n+3) (c:=cell ns 0) (most:=16) (gr:=16) W.rounds (by decide) (by decide) (by decide)
 have r2:=kL (n:=n+3) (c:=cell ns 1) (most:=ms) (gr:=6) W.rounds ms1 (by omega) (by decide)
 generalize many 16 (cell ns 0) 16=lo at gl U r1 pl
 generalize many 6 (cell ns 1) ms=up at gu U r2
 have f1:=W.nv
 have f2:=W.vB
 have f3:=W.nB
 have f4:=X.AV
 have f5:=X.A_
 have f6:=X.A0
 have f7:=X.AO
 have f8:=X.A8
 have r3:=dY (n:=n+3) W.mem U.gu U.fu
 have hz2:(2:Nat)<=sizeLine:=by decide
 have hz8:(8:Nat)<=sizeLine:=by decide
 have p8:(0:Int)<8∧(8:Int).toNat<1073741824:=by decide
 obtain ⟨t,r4,ht⟩:=uP (n:=n+2) (c0:=cell ns 3) (c1:=cell ns 4) W X.tab U
 generalize hpk:cell ns 5=pk
 have c5:=hc 5
 rw [hpk] at c5
 obtain ⟨s6,s7,t1,k1,ht1⟩:∃s6 s7 t1,IN.ab G (kal G (n+4)) (L.bw.body.getD 5 .pass) [.val (.lst (ns.map .int)),.val (tupI lo),.val (tupI up),.owx (.l ((PL.mem up).map tupI)),.owx (.d (aa t (prs (PL.mem up)))),.val (.int pk),.nil,.nil,.nil,.nil,.nil,.nil]=some (.nx [.val (.lst (ns.map .int)),.val (tupI lo),.val (tupI up),.owx (.l ((PL.mem up).map tupI)),.owx (.d (aa t1 (prs (PL.mem up)))),.val (.int pk),s6,s7,.nil,.nil,.nil,.nil])∧Els lo t1 (prs (PL.mem up)):=by
  have p2:(0:Int)<2∧(2:Int).toNat<1073741824:=by decide
  have lu:(up.map D.int).length=up.length:=by simp
  have c6:=hc 6
  by_cases h1:pk%2=1
  ·have d1:decide (pk%2=1)=true:=decide_eq_true h1
   by_cases h2:1<(up.length:Int)
   ·have d2:decide (1<(up.length:Int))=true:=decide_eq_true h2
    have u7:=U.gu.len
    have p3:(0:Int)<(up.length:Int) - 1∧((up.length:Int) - 1).toNat<1073741824:=by omega
    have hi0:0<=pk / 2%((up.length:Int) - 1):=Int.emod_nonneg _ (by omega)
    have hi1:pk / 2%((up.length:Int) - 1)<(up.length:Int) - 1:=Int.emod_lt_of_pos _ (by omega)
    generalize hig:pk / 2%((up.length:Int) - 1)=i at hi0 hi1
    have i1:atI (up.map D.int) i=some (.int (gd up i)):=cC hi0 (by omega)
    have i2:atI (up.map D.int) (i+1)=some (.int (gd up (i+1))):=cC (by omega) (by omega)
    have g1:=U.gu.ge _ (e_ (l:=up) hi0 (by omega))
    have g2:=U.gu.ge _ (e_ (l:=up) (k:=i+1) (by omega) (by omega))
    obtain ⟨a,e1,ha⟩:=Ah (n:=n+2) (c:=cell ns 6) X.odd X.gcd X.AW U.gl (a:=gd up i) (b:=gd up (i+1)) (by omega) (by omega)
    obtain ⟨t1,e2,ht1⟩:=qI (n:=n+2) (t:=t) (l:=prs (PL.mem up)) (i:=i) (j:=i+1) (a:=a) W X.par U.gl U.gu ht ha (fun p hp=>⟨mem_iff.mp (fv hp).1,mem_iff.mp (fv hp).2⟩) (dN U.nd) (by rw [c9];exact Nat.le_trans (Nat.mul_le_mul U.u9 U.u9) (by decide)) (by omega) (by omega)
    refine ⟨.val (.int i),.val (tupI a),t1,?_,ht1⟩
    unfold L.bw
    dsimp? [List.getD_cons_succ,List.getD_cons_zero,p2,p3,lu,d1,d2,hig,i1,i2,f1,c6,f5,e1,f6,e2]
   ·have d2:decide (1<(up.length:Int))=false:=decide_eq_false h2
    refine ⟨.nil,.nil,t,?_,ht⟩
    unfold L.bw
    dsimp? [List.getD_cons_succ,List.getD_cons_zero,p2,lu,d1,d2]
  ·have d1:decide (pk%2=1)=false:=decide_eq_false h1
   refine ⟨.nil,.nil,t,?_,ht⟩
   unfold L.bw
   dsimp? [List.getD_cons_succ,List.getD_cons_zero,p2,lu,d1]
 have hm0:0<(PL.mem up).length:=by
  have h1:=cM U.gu.ge
  have h2:=cI U.gu.ge
  omega
 obtain ⟨_,k2,t2,rfl,ht2⟩:=zl (n:=n+3) (ns:=ns) (pk:=pk) (s6:=s6) (s7:=s7) W U hm0 ht1
 obtain ⟨t3,k3,ht3⟩:∃t3,IN.ab G (kal G (n+4)) (L.bw.body.getD 8 .pass) [.val (.lst (ns.map .int)),.val (tupI lo),.val (tupI up),.owx (.l ((PL.mem up).map tupI)),.owx (.d (aa t2 (prs (PL.mem up)))),.val (.int pk),s6,s7,.any,.any,.nil,.nil]=some (.nx [.val (.lst (ns.map .int)),.val (tupI lo),.val (tupI up),.owx (.l ((PL.mem up).map tupI)),.owx (.d (aa t3 (prs (PL.mem up)))),.val (.int pk),s6,s7,.any,.any,.nil,.nil])∧Els lo t3 (prs (PL.mem up)):=by
  have p24:(0:Int)<24∧(24:Int).toNat<1073741824:=by decide
  have p5:(0:Int)<5∧(5:Int).toNat<1073741824:=by decide
  by_cases h1:pk / 24%5=1
  ·have d1:decide (pk / 24%5=1)=true:=decide_eq_true h1
   obtain ⟨t3,e3,ht3⟩:=nq (n:=n+2) (ns:=ns) (at':=10) W X.car U pl
   refine ⟨t3,?_,ht3⟩
   unfold L.bw
   dsimp? [List.getD_cons_succ,List.getD_cons_zero,p24,p5,d1,f8,e3]
  ·have d1:decide (pk / 24%5=1)=false:=decide_eq_false h1
   refine ⟨t2,?_,ht2⟩
   unfold L.bw
   dsimp? [List.getD_cons_succ,List.getD_cons_zero,p24,p5,d1]
 have k4:=pX (n:=n+2) (t:=t3) W X.brk U ht3
 have q1:=K.T.B.A.k6.1
 have q2:=K.T.B.A.k6.2
 have i1:=nY (n:=n+1) (t:=tupI lo) K.T.B.A rfl U.gl
 have i2:=nY (n:=n+1) (t:=tupI up) K.T.B.A rfl U.gu
 have q3:=K.T.k6.1
 have q4:=K.T.k6.2
 have i3:=va (n:=n) (es:=aa t3 (prs (PL.mem up))) (t:=t3) K.T U (fun p hp=>jh hp) ht3
 have q5:=X.fb3
 have k5:=qp (n:=n+1) (t:=t3) K U
 have nd:=r9 (br3 lo up t3)
 unfold L.bw at k1 k2 k3 ⊢
 simp only [List.getD_cons_succ,List.getD_cons_zero] at k1 k2 k3
 dsimp? [f1,hc,f2,r1,ixm,p8,hz8,r2,f3,r3,f4,r4,hz2,hpk,k1,k2,k3,f7,k4,nd,q1,q2,i1,i2,q3,q4,i3,q5,k5]
 cases hw:br3 lo up t3 with
 |none=>rfl
 |some w=>
  obtain ⟨m1,m2,m3⟩:=vL hw
  obtain ⟨⟨x,y⟩,z⟩:=w
  have lx:x.length<=1000:=by rw [fy m1];exact U.gu.dW
  have ly:y.length<=1000:=by rw [fy m2];exact U.gu.dW
  have lz:z.length<=1000:=by rw [fy m3];exact U.gu.dW
  have s1:=la (n:=n+2) K.T.B.A X.same X.whole X.lT lx
  have s2:=la (n:=n+2) K.T.B.A X.same X.whole X.lT ly
  have s3:=la (n:=n+2) K.T.B.A X.same X.whole X.lT lz
  have fs:=X.zj
  have e0:d3 (some ((x,y),z))=trD ((x,y),z):=rfl
  have n1:cQ (trD ((x,y),z))=false:=rfl
  have g1:=K.T.B.A.mQ
  have g2:b6 G (trD ((x,y),z)) (.ty "tuple")=some true:=K.T.B.A.kit "tuple" (by decide) "tuple" (by decide)
  have g3:bq (trD ((x,y),z))=some [tupI x,tupI y,tupI z]:=rfl
  have g5:decide (((3:Nat):Int)=3)=true:=by decide
  have kc:∀s3 s4,ev G (kal G (n+4)) (.comp 2 [] (.tp [(.nm 0),(.nm 1)]) (.blt .zip [(.var 11),(.var 10)]) (.lit (.bl true)) (.emit (.fn "_law_same" [(.var 0),(.var 1)]))) [.val (.lst (ns.map .int)),.val (tupI lo),.val (tupI up),s3,s4,.val (.int pk),s6,s7,.any,.any,.val (trD ((x,y),z)),.val (trD ((x,y),z))]=some (.lst ([x,y,z].map fun _=>D.bl true)):=fun s3 s4=>by
   refine fU (g:=fun v=>D.tup [tupI v,tupI v]) rfl rfl (show 3<=sizeLine by decide) fun v hv=>⟨[.val (tupI v),.val (tupI v)],rfl,?_⟩
   have sv:kal G (n+4) "_law_same" [tupI v,tupI v]=some (.ok (.bl true)):=by
    simp only [List.mem_cons,List.not_mem_nil,or_false] at hv
    rcases hv with rfl|rfl|rfl<;>assumption
   dsimp? [fs,sv]
  have hb:boolsOf ([x,y,z].map fun _=>D.bl true)=some [true,true,true]:=rfl
  rw [e0]
  dsimp? [n1,g1,g2,g3,g5,kc,hb,id_eq]
  rfl
end
end PL
namespace R10
open PySem PySem.Spec L2 CT IN
open PyProof.Rows hiding St
noncomputable def top (i:Nat):Stmt:=PySem.Challenge.pw_carrytower_k10_three_that_break.main.body.getD i (.Pass ⟨0,0,0,0⟩)
noncomputable def src:Src where
 gl:=[("int",.ty "int"),("bool",.ty "bool"),("list",.ty "list"),("tuple",.ty "tuple"),("LEAST_ROUND",.int 2),("MOST_MEMBERS",.int 144),("MOST_LOWER",.int 16),("MOST_UPPER",.int 9),("Rounds",.cl 297),("Group",.cl 228)]
 fn:=["is_whole","product","are_rounds","need_lower","need_upper","pairs_of","picked_carries","break_of_three","_law_cell","_law_whole","_law_rounds","_law_members","_law_added","_law_times","_law_same","_law_element","_law_carries","_law_table","_law_gcd","_law_paired","_law_odd_element","_law_break","law"]
 ini:=[("Rounds",(297,"Rounds.__init__")),("Table",(370,"Table.__init__"))]
 mth:=[((297,"members"),"Rounds.members"),((297,"has"),"Rounds.has"),((297,"is_even"),"Rounds.is_even"),((297,"size"),"Group.size"),((297,"sum_of"),"Rounds.sum_of"),((370,"carries"),"Table.carries")]
 fok:=[(297,"rounds"),(370,"lower"),(370,"upper"),(370,"kept")]
 qr:=[((297,297),true),((297,228),true)]
 defs:=[("is_whole",(none,P.iw)),("product",(none,P.product)),("are_rounds",(none,P.fV)),("need_lower",(none,P.fG)),("need_upper",(none,P.fT)),("pairs_of",(none,P.h_)),("picked_carries",(none,P.c4)),("break_of_three",(none,P.bh)),("_law_cell",(none,L.cell)),("_law_whole",(none,L.whole)),("_law_rounds",(none,L.rounds)),("_law_members",(none,L.members)),("_law_added",(none,L.added)),("_law_times",(none,L.times)),("_law_same",(none,L.same)),("_law_element",(none,L.element)),("_law_carries",(none,L.d7)),("_law_table",(none,L.table)),("_law_gcd",(none,L.gcd)),("_law_paired",(none,L.paired)),("_law_odd_element",(none,L.dC)),("_law_break",(none,L.b8)),("law",(none,L.bw)),("Rounds.__init__",(some 297,P.cY)),("Table.__init__",(some 370,P.c8)),("Rounds.members",(none,P.c_)),("Rounds.has",(none,P.d4)),("Rounds.is_even",(none,P.du)),("Group.size",(none,P.fS)),("Rounds.sum_of",(none,P.bR)),("Table.carries",(none,P.dR))]
noncomputable abbrev G:Prg:=src.prg
local macro_rules|`(tactic|walk_at "c")=>`(tactic|exact ⟨rfl,rfl,rfl,by decide+kernel,rfl,by decide+kernel,by decide+kernel⟩)
theorem t0:DT G "is_whole" none P.iw "is_whole" "is_whole" (top 12) ["thing"]:=⟨⟨["thing"],by walk_at "c",by kernel_rfl,rfl⟩,fun _ _ _ _ _ _=>cP fun _=>rfl,rfl,rfl,rfl⟩
theorem t1:DT G "product" none P.product "product" "product" (top 13) ["numbers"]:=⟨⟨["numbers","whole","n"],by walk_at "c",by kernel_rfl,rfl⟩,fun _ _ _ _ _ _=>cP fun _=>rfl,rfl,rfl,rfl⟩
theorem t2:DT G "are_rounds" none P.fV "are_rounds" "are_rounds" (top 14) ["thing"]:=⟨⟨["thing"],by walk_at "c",by kernel_rfl,rfl⟩,fun _ _ _ _ _ _=>cP fun _=>rfl,rfl,rfl,rfl⟩
theorem t3:DT G "need_lower" none P.fG "need_lower" "need_lower" (top 20) ["lower"]:=⟨⟨["lower"],by walk_at "c",by kernel_rfl,rfl⟩,fun _ _ _ _ _ _=>cP fun _=>rfl,rfl,rfl,rfl⟩
theorem t4:DT G "need_upper" none P.fT "need_upper" "need_upper" (top 21) ["upper"]:=⟨⟨["upper"],by walk_at "c",by kernel_rfl,rfl⟩,fun _ _ _ _ _ _=>cP fun _=>rfl,rfl,rfl,rfl⟩
theorem t5:DT G "pairs_of" none P.h_ "pairs_of" "pairs_of" (top 22) ["group"]:=⟨⟨["group","members"],by walk_at "c",by kernel_rfl,rfl⟩,fun _ _ _ _ _ _=>cP fun _=>rfl,rfl,rfl,rfl⟩
theorem t6:DT G "picked_carries" none P.c4 "picked_carries" "picked_carries" (top 23) ["lower","upper","carries"]:=⟨⟨["lower","upper","carries","picked","x","y","carried"],by walk_at "c",by kernel_rfl,rfl⟩,fun _ _ _ _ _ _=>hB fun _ _ _=>rfl,rfl,rfl,rfl⟩
theorem t7:DT G "break_of_three" none P.bh "break_of_three" "break_of_three" (top 25) ["table"]:=⟨⟨["table","lower","carries","members","pairs","x","y","sums","z","one","other"],by walk_at "c",by kernel_rfl,rfl⟩,fun _ _ _ _ _ _=>cP fun _=>rfl,rfl,rfl,rfl⟩
theorem t8:DT G "_law_cell" none L.cell "_law_cell" "_law_cell" (top 27) ["_law_script","_law_k"]:=⟨⟨["_law_script","_law_k","_law_cell_here","_law_first"],by walk_at "c",by kernel_rfl,rfl⟩,fun _ _ _ _ _ _=>jy fun _ _=>rfl,rfl,rfl,rfl⟩
theorem t9:DT G "_law_whole" none L.whole "_law_whole" "_law_whole" (top 28) ["_law_found"]:=⟨⟨["_law_found"],by walk_at "c",by kernel_rfl,rfl⟩,fun _ _ _ _ _ _=>cP fun _=>rfl,rfl,rfl,rfl⟩
theorem t10:DT G "_law_rounds" none L.rounds "_law_rounds" "_law_rounds" (top 29) ["_law_cell_here","_law_most","_law_greatest"]:=⟨⟨["_law_cell_here","_law_most","_law_greatest","_law_found","_law_left","_law_k"],by walk_at "c",by kernel_rfl,rfl⟩,fun _ _ _ _ _ _=>hB fun _ _ _=>rfl,rfl,rfl,rfl⟩
theorem t11:DT G "_law_members" none L.members "_law_members" "_law_members" (top 30) ["_law_rounds_here"]:=⟨⟨["_law_rounds_here","_law_found","_law_number","_law_longer","_law_x","_law_here"],by walk_at "c",by kernel_rfl,rfl⟩,fun _ _ _ _ _ _=>cP fun _=>rfl,rfl,rfl,rfl⟩
theorem t12:DT G "_law_added" none L.added "_law_added" "_law_added" (top 31) ["_law_rounds_here","_law_x","_law_y"]:=⟨⟨["_law_rounds_here","_law_x","_law_y"],by walk_at "c",by kernel_rfl,rfl⟩,fun _ _ _ _ _ _=>hB fun _ _ _=>rfl,rfl,rfl,rfl⟩
theorem t13:DT G "_law_times" none L.times "_law_times" "_law_times" (top 32) ["_law_rounds_here","_law_n","_law_x"]:=⟨⟨["_law_rounds_here","_law_n","_law_x"],by walk_at "c",by kernel_rfl,rfl⟩,fun _ _ _ _ _ _=>hB fun _ _ _=>rfl,rfl,rfl,rfl⟩
theorem t14:DT G "_law_same" none L.same "_law_same" "_law_same" (top 33) ["_law_found","_law_due"]:=⟨⟨["_law_found","_law_due"],by walk_at "c",by kernel_rfl,rfl⟩,fun _ _ _ _ _ _=>jy fun _ _=>rfl,rfl,rfl,rfl⟩
theorem t15:DT G "_law_element" none L.element "_law_element" "_law_element" (top 34) ["_law_rounds_here","_law_cell_here"]:=⟨⟨["_law_rounds_here","_law_cell_here","_law_found","_law_number"],by walk_at "c",by kernel_rfl,rfl⟩,fun _ _ _ _ _ _=>jy fun _ _=>rfl,rfl,rfl,rfl⟩
theorem t16:DT G "_law_carries" none L.d7 "_law_carries" "_law_carries" (top 35) ["_law_lower","_law_upper","_law_script","_law_at"]:=⟨⟨["_law_lower","_law_upper","_law_script","_law_at","_law_many","_law_number","_law_table_here","_law_k","_law_x","_law_cell_here","_law_y"],by walk_at "c",by kernel_rfl,rfl⟩,fun _ _ _ _ _ _=>qN fun _ _ _ _=>rfl,rfl,rfl,rfl⟩
theorem t17:DT G "_law_table" none L.table "_law_table" "_law_table" (top 36) ["_law_lower","_law_upper","_law_cells"]:=⟨⟨["_law_lower","_law_upper","_law_cells","_law_some","_law_given","_law_k","_law_x","_law_table_here","_law_y","_law_here","_law_at"],by walk_at "c",by kernel_rfl,rfl⟩,fun _ _ _ _ _ _=>hB fun _ _ _=>rfl,rfl,rfl,rfl⟩
theorem t18:DT G "_law_gcd" none L.gcd "_law_gcd" "_law_gcd" (top 37) ["_law_one","_law_other"]:=⟨⟨["_law_one","_law_other"],by walk_at "c",by kernel_rfl,rfl⟩,fun _ _ _ _ _ _=>jy fun _ _=>rfl,rfl,rfl,rfl⟩
theorem t19:DT G "_law_paired" none L.paired "_law_paired" "_law_paired" (top 38) ["_law_lower","_law_upper","_law_table_here","_law_i","_law_j","_law_a"]:=⟨⟨["_law_lower","_law_upper","_law_table_here","_law_i","_law_j","_law_a","_law_found","_law_x","_law_y"],by walk_at "c",by kernel_rfl,rfl⟩,fun _ _ _ _ _ _=>A5 fun _ _ _ _ _ _=>rfl,rfl,rfl,rfl⟩
theorem t20:DT G "_law_odd_element" none L.dC "_law_odd_element" "_law_odd_element" (top 39) ["_law_lower","_law_one","_law_other","_law_cell_here"]:=⟨⟨["_law_lower","_law_one","_law_other","_law_cell_here","_law_found","_law_number","_law_part"],by walk_at "c",by kernel_rfl,rfl⟩,fun _ _ _ _ _ _=>qN fun _ _ _ _=>rfl,rfl,rfl,rfl⟩
theorem t21:DT G "_law_break" none L.b8 "_law_break" "_law_break" (top 40) ["_law_lower","_law_upper","_law_table_here"]:=⟨⟨["_law_lower","_law_upper","_law_table_here","_law_some","_law_x","_law_y","_law_here","_law_joint","_law_z","_law_one"],by walk_at "c",by kernel_rfl,rfl⟩,fun _ _ _ _ _ _=>hB fun _ _ _=>rfl,rfl,rfl,rfl⟩
theorem t22:DT G "law" none L.bw "law" "law" (top 41) ["_law_script"]:=⟨⟨["_law_script","_law_lower","_law_upper","_law_some","_law_table_here","_law_way","_law_i","_law_a","_law_k","_law_cell_here","_law_due","_law_found"],by walk_at "c",by kernel_rfl,rfl⟩,fun _ _ _ _ _ _=>cP fun _=>rfl,rfl,rfl,rfl⟩
theorem t23:DT G "Rounds.__init__" (some 297) P.cY "__init__" "Rounds.__init__" (inClass (top 16) 0) ["self","rounds"]:=⟨⟨["self","rounds"],by walk_at "c",by kernel_rfl,rfl⟩,fun _ _ _ _ _ _=>jy fun _ _=>rfl,rfl,rfl,rfl⟩
theorem t24:DT G "Table.__init__" (some 370) P.c8 "__init__" "Table.__init__" (inClass (top 24) 0) ["self","lower","upper","carries"]:=⟨⟨["self","lower","upper","carries"],by walk_at "c",by kernel_rfl,rfl⟩,fun _ _ _ _ _ _=>qN fun _ _ _ _=>rfl,rfl,rfl,rfl⟩
theorem t25:DT G "Rounds.members" none P.c_ "members" "Rounds.members" (inClass (top 16) 1) ["self"]:=⟨⟨["self","found","n"],by walk_at "c",by kernel_rfl,rfl⟩,fun _ _ _ _ _ _=>cP fun _=>rfl,rfl,rfl,rfl⟩
theorem t26:DT G "Rounds.has" none P.d4 "has" "Rounds.has" (inClass (top 16) 2) ["self","thing"]:=⟨⟨["self","thing"],by walk_at "c",by kernel_rfl,rfl⟩,fun _ _ _ _ _ _=>jy fun _ _=>rfl,rfl,rfl,rfl⟩
theorem t27:DT G "Rounds.is_even" none P.du "is_even" "Rounds.is_even" (inClass (top 16) 6) ["self"]:=⟨⟨["self"],by walk_at "c",by kernel_rfl,rfl⟩,fun _ _ _ _ _ _=>cP fun _=>rfl,rfl,rfl,rfl⟩
theorem t28:DT G "Group.size" none P.fS "size" "Group.size" (inClass (top 15) 8) ["self"]:=⟨⟨["self"],by walk_at "c",by kernel_rfl,rfl⟩,fun _ _ _ _ _ _=>cP fun _=>rfl,rfl,rfl,rfl⟩
theorem t29:DT G "Rounds.sum_of" none P.bR "sum_of" "Rounds.sum_of" (inClass (top 16) 7) ["self","x","y"]:=⟨⟨["self","x","y"],by walk_at "c",by kernel_rfl,rfl⟩,fun _ _ _ _ _ _=>hB fun _ _ _=>rfl,rfl,rfl,rfl⟩
theorem t30:DT G "Table.carries" none P.dR "carries" "Table.carries" (inClass (top 24) 4) ["self"]:=⟨⟨["self"],by walk_at "c",by kernel_rfl,rfl⟩,fun _ _ _ _ _ _=>cP fun _=>rfl,rfl,rfl,rfl⟩
theorem xH (ns:List Int):kal G 5 "law" [.lst (ns.map .int)]=some (.ok (.bl true)):=by
 have A:PL.GA G 297:=⟨rfl,rfl,rfl,rfl,rfl,rfl,rfl,rfl,rfl,rfl,rfl,rfl,fun n hn c hc=>if_pos ⟨hn,hc⟩,rfl,⟨rfl,rfl⟩,rfl⟩
 have B:PL.GB G 297:=⟨A,rfl,rfl,rfl,rfl,rfl,rfl,rfl,rfl⟩
 have T:PL.TB G 297 228 370:=⟨B,rfl,rfl,rfl,rfl,rfl,rfl,rfl,rfl,rfl,rfl,rfl,rfl,rfl,rfl,rfl,⟨rfl,rfl⟩,rfl,rfl,rfl⟩
 have K:PL.TD G 297 228 370:=⟨⟨T,rfl,rfl⟩,rfl,rfl,rfl⟩
 have W:PL.LW G:=⟨rfl,rfl,rfl,rfl,rfl,rfl,rfl,rfl,rfl,rfl,rfl,rfl⟩
 have X:PL.LY G:=⟨rfl,rfl,rfl,rfl,rfl,rfl,rfl,rfl,rfl,rfl,rfl,rfl,rfl,rfl,rfl,rfl,rfl⟩
 exact PL.uw (n:=0) rfl K W X
end R10
namespace R10
open PySem PySem.Spec PySem.W L2 CT IN
open PyProof.Rows hiding St
theorem al_ {α:Type} {p:α->Prop} {a:α} {l:List α} (h:p a) (t:∀x∈l,p x):∀x∈a::l,p x:=List.forall_mem_cons.mpr ⟨h,t⟩
theorem all_mk {l:PySem.W.OpenLaw} {w:World} {K:PySem.W.Frag} {h:Heap} {mg:Str->Option Value} {fa:Addr} {kLEAST_ROUND kMOST_MEMBERS kMOST_LOWER kMOST_UPPER:Tok} (X:K.In h) (Y:h.Ns mainGlobals mg) (hfa:mg "law"=some (.ref fa))
  (aRounds:nsIn K mainGlobals "Rounds"=some (some (.ref 297)))
  (aGroup:nsIn K mainGlobals "Group"=some (some (.ref 228)))
  (aTable:nsIn K mainGlobals "Table"=some (some (.ref 370)))
  (et0:GF K "is_whole" (top 12))
  (et1:GF K "product" (top 13))
  (et2:GF K "are_rounds" (top 14))
  (et3:GF K "need_lower" (top 20))
  (et4:GF K "need_upper" (top 21))
  (et5:GF K "pairs_of" (top 22))
  (et6:GF K "picked_carries" (top 23))
  (et7:GF K "break_of_three" (top 25))
  (et8:GF K "_law_cell" (top 27))
  (et9:GF K "_law_whole" (top 28))
  (et10:GF K "_law_rounds" (top 29))
  (et11:GF K "_law_members" (top 30))
  (et12:GF K "_law_added" (top 31))
  (et13:GF K "_law_times" (top 32))
  (et14:GF K "_law_same" (top 33))
  (et15:GF K "_law_element" (top 34))
  (et16:GF K "_law_carries" (top 35))
  (et17:GF K "_law_table" (top 36))
  (et18:GF K "_law_gcd" (top 37))
  (et19:GF K "_law_paired" (top 38))
  (et20:GF K "_law_odd_element" (top 39))
  (et21:GF K "_law_break" (top 40))
  (et22:GF K "law" (top 41))
  (et23:MF K 297 "__init__" "Rounds.__init__" (inClass (top 16) 0))
  (et24:MF K 370 "__init__" "Table.__init__" (inClass (top 24) 0))
  (et25:MF K 297 "members" "Rounds.members" (inClass (top 16) 1))
  (et26:MF K 297 "has" "Rounds.has" (inClass (top 16) 2))
  (et27:MF K 297 "is_even" "Rounds.is_even" (inClass (top 16) 6))
  (et28:MF K 297 "size" "Group.size" (inClass (top 15) 8))
  (et29:MF K 297 "sum_of" "Rounds.sum_of" (inClass (top 16) 7))
  (et30:MF K 370 "carries" "Table.carries" (inClass (top 24) 4))
  (oRounds:lA K 297=true)
  (oTable:lA K 370=true)
  (mkRounds:makesIn K 297=true)
  (kcRounds:keepIn K (.ref 297)=true)
  (mkTable:makesIn K 370=true)
  (kcTable:keepIn K (.ref 370)=true)
  (n0:findIn K (.ref 297) "rounds"=some none)
  (n1:findIn K (.ref 370) "lower"=some none)
  (n2:findIn K (.ref 370) "upper"=some none)
  (n3:findIn K (.ref 370) "kept"=some none)
  (vLEAST_ROUND:nsIn K mainGlobals "LEAST_ROUND"=some (some (.int 2 kLEAST_ROUND)))
  (vMOST_MEMBERS:nsIn K mainGlobals "MOST_MEMBERS"=some (some (.int 144 kMOST_MEMBERS)))
  (vMOST_LOWER:nsIn K mainGlobals "MOST_LOWER"=some (some (.int 16 kMOST_LOWER)))
  (vMOST_UPPER:nsIn K mainGlobals "MOST_UPPER"=some (some (.int 9 kMOST_UPPER)))
  (q0:kitOne K (.ref 297) (.ref 297)=some true)
  (q1:kitOne K (.ref 297) (.ref 228)=some true)
  (ty:yU K=true)
  (zs:kM.all (fun x=>nsIn K mainGlobals x==some none)=true)
  (zbool:nsIn K mainGlobals "bool"=some none):
  ∃fd:FuncData,(∀(s:Shared) (v:Value),BindsTo s fd ⟨[v],[]⟩ [("_law_script",v)])∧∀base:Heap,K.In base->base.Ns mainGlobals mg->aC l.prog w K mg base CX0 18 fa fd ["_law_script"] (spD K (lG G 5)):=by
 have z:∀x∈kM,mg x=none:=fun x hx=>mg_none_of X Y (beq_iff_eq.mp (List.all_eq_true.mp zs x hx))
 exact yz (n:=5) X Y hfa (fun base=>yB (s:=src) z
  (al_ ⟨z _ (by decide),rfl⟩ (al_ ⟨mg_none_of X Y zbool,rfl⟩ (al_ ⟨z _ (by decide),rfl⟩ (al_ ⟨z _ (by decide),rfl⟩ (al_ ⟨_,mg_of X Y vLEAST_ROUND⟩ (al_ ⟨_,mg_of X Y vMOST_MEMBERS⟩ (al_ ⟨_,mg_of X Y vMOST_LOWER⟩ (al_ ⟨_,mg_of X Y vMOST_UPPER⟩ (al_ (mg_of X Y aRounds) (al_ (mg_of X Y aGroup) (List.forall_mem_nil _))))))))))) ty
  (al_ ⟨q0,eI oRounds⟩ (al_ ⟨q1,eI oRounds⟩ (List.forall_mem_nil _)))
  (al_ (GF.row X Y t0 et0) (al_ (GF.row X Y t1 et1) (al_ (GF.row X Y t2 et2) (al_ (GF.row X Y t3 et3) (al_ (GF.row X Y t4 et4) (al_ (GF.row X Y t5 et5) (al_ (GF.row X Y t6 et6) (al_ (GF.row X Y t7 et7) (al_ (GF.row X Y t8 et8) (al_ (GF.row X Y t9 et9) (al_ (GF.row X Y t10 et10) (al_ (GF.row X Y t11 et11) (al_ (GF.row X Y t12 et12) (al_ (GF.row X Y t13 et13) (al_ (GF.row X Y t14 et14) (al_ (GF.row X Y t15 et15) (al_ (GF.row X Y t16 et16) (al_ (GF.row X Y t17 et17) (al_ (GF.row X Y t18 et18) (al_ (GF.row X Y t19 et19) (al_ (GF.row X Y t20 et20) (al_ (GF.row X Y t21 et21) (al_ (GF.row X Y t22 et22) (List.forall_mem_nil _))))))))))))))))))))))))
  (al_ (MF.ini X Y aRounds mkRounds kcRounds t23 et23) (al_ (MF.ini X Y aTable mkTable kcTable t24 et24) (List.forall_mem_nil _)))
  (al_ (MF.row oRounds t25 et25) (al_ (MF.row oRounds t26 et26) (al_ (MF.row oRounds t27 et27) (al_ (MF.row oRounds t28 et28) (al_ (MF.row oRounds t29 et29) (al_ (MF.row oTable t30 et30) (List.forall_mem_nil _)))))))
  (al_ ⟨(eI oRounds).cl,n0⟩ (al_ ⟨(eI oTable).cl,n1⟩ (al_ ⟨(eI oTable).cl,n2⟩ (al_ ⟨(eI oTable).cl,n3⟩ (List.forall_mem_nil _)))))) t22 et22
theorem walk {l:PySem.W.OpenLaw} {q:Program} {loose:List Str} {XP:(Str->Option Value)->Heap->Prop} {YP:World->Heap->Prop} {d:DefRec} {K:Params->PySem.W.Frag} (hn:l.most=some 63) (hdf:d.params.defaults=[])
  (hY:∀(w:World) (h:Heap),YP w h->(K w.params).In h)
  (F:∀(w:World) (mg:Str->Option Value) (fa:Addr) (h:Heap),(K w.params).In h->h.Ns mainGlobals mg->mg d.name=some (.ref fa)->
   ∃fd:FuncData,(∀(s:Shared) (u:Value),BindsTo s fd ⟨[u],[]⟩ [("_law_script",u)])∧∀base:Heap,(K w.params).In base->base.Ns mainGlobals mg->aC l.prog w (K w.params) mg base CX0 18 fa fd ["_law_script"] (spD (K w.params) (lG G 5))):
  PySem.W.WalkO q loose XP YP l.row.toRowW d [] (fun f vs=>PySem.call f vs):=
 L2.tV (n:=63) (k:=18) (x:="_law_script") (CX:=fun _=>CX0) (sp:=fun w=>spD (K w.params) (lG G 5)) hn (by decide) hdf ⟨rfl,by decide,by decide⟩ hY F (fun _ _ a ns _ _ hS=>wI (xH ns) hS) fun _ _ _ _ _ z=>z
end R10
local macro_rules|`(universe $_)=>do
 let b:=`PySem.Challenge.cw_carrytower_k10_three_that_break_holds
 let c<- ((List.range 629).map (b.str s!"o_{·}")++["tree_100","tree_370","tree_85","sts_49","sts_101","heap_629","sts_528","sts_444","sts_131","tree_130","env_41","sts_374","sts_172","tree_70","tree_47","sts_116","heap_46","tree_171","tree_471","tree_628","tree_443","tree_607","thread_370","tree_285","heap_39","sts_472","tree_115","sts_71","tree_527","sts_86","sts_608","view_39"].map b.str++[`PySem.Challenge.pw_carrytower_k10_three_that_break]).mapM fun x=>do
  let n:=Lean.mkIdent (.str `PySem.W.Fast s!"tw{x.hash}")
  `(command|theorem $n:ident:True:=trivial)
 return Lean.mkNullNode (c.toArray.map (·.raw))
universe u
open PySem PySem.W PyProof.Rows
local macro_rules|`(tactic|walk_at "g")=>`(tactic|(refine' IN.y7 ?a ?l ?c ?k;(case a=>k_is);(case l=>k_is);(case c=>k_is);(case k=>k_is)))
local macro_rules|`(tactic|walk_at "m")=>`(tactic|(refine' IN.zP ?a ?i ?l ?c ?k;(case a=>k_is);(case i=>k_is);(case l=>k_is);(case c=>k_is);(case k=>k_is)))
set_option maxRecDepth 100000 in
set_option maxHeartbeats 0 in
theorem PySem.Challenge.cw_carrytower_k10_three_that_break_holds : PySem.Challenge.rw_carrytower_k10_three_that_break.Holds := by
 w_on;o_law;k_head;(case hw=>w_witness2)
 k_fill
 refine R10.walk (l:=PySem.Challenge.rw_carrytower_k10_three_that_break) rfl rfl (fun w h Y=>PySem.W.kIn_of Y) ?F
 case F=>
  intro w mg fa h KX G hmg
  refine' R10.all_mk KX G hmg ?aRounds ?aGroup ?aTable ?et0 ?et1 ?et2 ?et3 ?et4 ?et5 ?et6 ?et7 ?et8 ?et9 ?et10 ?et11 ?et12 ?et13 ?et14 ?et15 ?et16 ?et17 ?et18 ?et19 ?et20 ?et21 ?et22 ?et23 ?et24 ?et25 ?et26 ?et27 ?et28 ?et29 ?et30 ?oRounds ?oTable ?mkRounds ?kcRounds ?mkTable ?kcTable ?n0 ?n1 ?n2 ?n3 ?vLEAST_ROUND ?vMOST_MEMBERS ?vMOST_LOWER ?vMOST_UPPER ?q0 ?q1 ?ty ?zs ?zbool
  (case aRounds=>k_is)
  (case aGroup=>k_is)
  (case aTable=>k_is)
  (case et0=>walk_at "g")
  (case et1=>walk_at "g")
  (case et2=>walk_at "g")
  (case et3=>walk_at "g")
  (case et4=>walk_at "g")
  (case et5=>walk_at "g")
  (case et6=>walk_at "g")
  (case et7=>walk_at "g")
  (case et8=>walk_at "g")
  (case et9=>walk_at "g")
  (case et10=>walk_at "g")
  (case et11=>walk_at "g")
  (case et12=>walk_at "g")
  (case et13=>walk_at "g")
  (case et14=>walk_at "g")
  (case et15=>walk_at "g")
  (case et16=>walk_at "g")
  (case et17=>walk_at "g")
  (case et18=>walk_at "g")
  (case et19=>walk_at "g")
  (case et20=>walk_at "g")
  (case et21=>walk_at "g")
  (case et22=>walk_at "g")
  (case et23=>walk_at "m")
  (case et24=>walk_at "m")
  (case et25=>walk_at "m")
  (case et26=>walk_at "m")
  (case et27=>walk_at "m")
  (case et28=>walk_at "m")
  (case et29=>walk_at "m")
  (case et30=>walk_at "m")
  (case oRounds=>kernel_rfl)
  (case oTable=>kernel_rfl)
  (case mkRounds=>k_is)
  (case kcRounds=>k_is)
  (case mkTable=>k_is)
  (case kcTable=>k_is)
  (case n0=>k_is)
  (case n1=>k_is)
  (case n2=>k_is)
  (case n3=>k_is)
  (case vLEAST_ROUND=>k_is)
  (case vMOST_MEMBERS=>k_is)
  (case vMOST_LOWER=>k_is)
  (case vMOST_UPPER=>k_is)
  (case q0=>kernel_rfl)
  (case q1=>kernel_rfl)
  (case ty=>kernel_rfl)
  (case zs=>kernel_rfl)
  (case zbool=>k_is)
