import PyProof.Rows.All
import Wide.All
import OpenK.AllK
import Wide.FinOn
import Lean
import PyProof.EqAt
import PyProof.EqKinds
import PyProof.TupleCall
import PyProof.CompUse
import PyProof.Cells
import PyProof.CompFree
import PyProof.PlainList
import PyProof.ListMulRoad
import PyProof.AutoListH
import PyProof.TupleIter
import PyProof.FactsAll.tuple_2
import KE.KIsAll
import OpenK.KOwn
import PyProof.ExcInit
import PyProof.ExcArgsOwn
import PyProof.ExcAttrAll.ValueError
import PyProof.DictRoadsH
import PyProof.P3Eq
import KE.KDictOf
import PyProof.DictIter
import PyProof.ZipIter
import PyProof.NeData
import PyProof.Rows.SumAny
import PyProof.EnumMake
import PyProof.Draws
import PyProof.EnumFor
import PyProof.EnumStmt
import PyProof.Rows.SeqMore
import PyProof.DictCompW
import PyProof.DictTruth
import PyProof.MeetsDictList
import KE.KEqDict
import PySem.Challenge.RW_carrytower_k05_like_groups
set_option autoImplicit true
set_option relaxedAutoImplicit true
set_option Elab.async false
set_option linter.all false
set_option maxRecDepth 100000
set_option maxHeartbeats 4000000
set_option exponentiation.threshold 200000
set_option bootstrap.genMatcherCode false
set_option genSizeOf false
set_option compiler.extract_closed false
theorem auR (_:True:=by rfl):True:=⟨⟩
theorem auD (_:True:=by decide):True:=⟨⟩
local macro_rules|`($t⁻¹)=>`(autoParam $t auR._auto_1)
local macro_rules|`(~~~$t)=>`(autoParam $t auD._auto_1)
noncomputable abbrev At:=@PySem.wpAny_bind
noncomputable abbrev AC:=@PySem.wpAny_pure
noncomputable abbrev AT:=@PySem.wpAny_mono
noncomputable abbrev BT:=@PySem.Heap.get?_push_of_some
noncomputable abbrev Ch:=@PySem.Heap.get?_push_size
noncomputable abbrev Cl:=@PySem.Heap.lt_size
noncomputable abbrev Da:=@PySem.wpAny_holding
noncomputable abbrev Db:=@List.mem_append_right
noncomputable abbrev Do:=@List.mem_append_left
noncomputable abbrev En:=@List.mem_cons_of_mem
theorem Eo:type_of% @List.mem_cons_self:=@List.mem_cons_self
theorem Ep:type_of% @List.mem_append:=@List.mem_append
noncomputable abbrev Er:=@List.mem_cons
noncomputable abbrev Es:=@List.mem_map
noncomputable abbrev Et:=@List.mem_singleton
noncomputable abbrev Eu:=@List.getElem?_eq_some_iff
noncomputable abbrev Ev:=@List.length_eq_zero_iff
noncomputable abbrev Ew:=@List.getElem?_set_self
theorem Ex:type_of% @List.getElem?_set_ne:=@List.getElem?_set_ne
theorem Ey:type_of% @List.length_append:=@List.length_append
theorem Ez:type_of% @List.length_map:=@List.length_map
theorem EA:type_of% @List.all_eq_true:=@List.all_eq_true
theorem EB:type_of% @List.append_assoc:=@List.append_assoc
noncomputable abbrev EC:=@Nat.lt_of_lt_of_le
noncomputable abbrev ED:=@Nat.lt_of_le_of_lt
noncomputable abbrev EE:=@Nat.le_trans
noncomputable abbrev EF:=@Nat.ne_of_lt
noncomputable abbrev EG:=@Nat.le_refl
noncomputable abbrev EH:=@decide_eq_true
noncomputable abbrev EI:=@decide_eq_false
noncomputable abbrev EJ:=@Bool.and_eq_true_iff
noncomputable abbrev EK:=@Bool.false_ne_true
noncomputable abbrev EL:=@Option.some.inj
namespace L2
open PySem PySem.Spec PyProof.Rows
noncomputable abbrev Key:=Sum Int Str
noncomputable def vT:Key->Value->Bool
 |.inl k,v=>Value.isInt k v
 |.inr x,v=>Value.isStrOf x v
noncomputable def DJ (w:World):Key->Int
 |.inl k=>hashInt k
 |.inr x=>hashStr w x
theorem a9:∀{k:Key} {v:Value},vT k v=true->(∃i t,k=Sum.inl i∧v=Value.int i t)∨(∃x t,k=Sum.inr x∧v=Value.str x t)
 |.inl i,v,h=>by
  obtain ⟨t,e⟩:=Value.isInt_shape (k:=i) (v:=v) h;exact .inl ⟨i,t,rfl,e⟩
 |.inr x,v,h=>by
  obtain ⟨t,e⟩:=Value.isStrOf_shape (x:=x) (v:=v) h;exact .inr ⟨x,t,rfl,e⟩
theorem Ao (a b:Int):decide ((Sum.inl a:Key)=Sum.inl b)=(a==b):=by
 by_cases e:a=b
 ·subst e;simp
 ·have h:¬(Sum.inl a:Key)=Sum.inl b:=fun q=>e (Sum.inl.inj q);rw [EI h];exact (beq_eq_false_iff_ne.mpr e).symm
theorem Ar (a b:Str):decide ((Sum.inr a:Key)=Sum.inr b)=decide (a=b):=by
 by_cases e:a=b
 ·subst e;simp
 ·have h:¬(Sum.inr a:Key)=Sum.inr b:=fun q=>e (Sum.inr.inj q);rw [EI h,EI e]
theorem Ap (a:Int) (b:Str):decide ((Sum.inl a:Key)=Sum.inr b)=false:=EI (fun q=>nomatch q)
theorem Aq (a:Str) (b:Int):decide ((Sum.inr a:Key)=Sum.inl b)=false:=EI (fun q=>nomatch q)
noncomputable def oI (prog:Program) (w:World):PySem.KeyKind prog w Key where
 is:=vT
 hash:=DJ w
 inj:=fun v a b ha hb=>by
  rcases a9 ha with ⟨i,t,rfl,rfl⟩|⟨x,t,rfl,rfl⟩
  ·rcases a9 hb with ⟨j,u,rfl,e⟩|⟨y,u,rfl,e⟩
   ·injection e with e1 _;rw [e1]
   ·exact nomatch e
  ·rcases a9 hb with ⟨j,u,rfl,e⟩|⟨y,u,rfl,e⟩
   ·exact nomatch e
   ·injection e with e1 _;rw [e1]
 byValue:=fun k v h=>by
  rcases a9 h with ⟨i,t,rfl,rfl⟩|⟨x,t,rfl,rfl⟩<;>rfl
 pyHash:=fun hv h=>by
  rcases a9 hv with ⟨i,t,rfl,rfl⟩|⟨x,t,rfl,rfl⟩
  ·exact wpAny_pyHash_int h
  ·exact wpAny_pyHash_str h
 eqBool:=fun hu hv h=>by
  rcases a9 hu with ⟨i,t,rfl,rfl⟩|⟨x,t,rfl,rfl⟩
  ·rcases a9 hv with ⟨j,u,rfl,rfl⟩|⟨y,u,rfl,rfl⟩
   ·rw [Ao] at h;exact wpAny_eqBool_int h
   ·rw [Ap] at h;exact SeqAt.EqAt.int_str i t y u _ _ _ _ h
  ·rcases a9 hv with ⟨j,u,rfl,rfl⟩|⟨y,u,rfl,rfl⟩
   ·rw [Aq] at h;exact SeqAt.EqAt.str_int x t j u _ _ _ _ h
   ·rw [Ar] at h;exact wpAny_eqBool_str h
 «strs»:=fun k x t v h=>by
  rcases a9 h with ⟨i,u,rfl,e⟩|⟨y,u,rfl,e⟩
  ·exact nomatch e
  ·injection e with e1 _;subst e1;cases v<;>rfl
inductive V where
 |non|bl (b:Bool)|int (i:Int)|str (x:Str)|byt (b:Array UInt8)|flt (b:UInt64)|ref (a:Addr)|ty (n:String)
 deriving DecidableEq
noncomputable def RelV:V->Value->Prop
 |.non,u=>u=Value.none
 |.bl b,u=>u=Value.bool b
 |.int i,u=>∃t,u=Value.int i t
 |.str x,u=>∃t,u=Value.str x t
 |.byt b,u=>∃t,u=Value.bytes b t
 |.flt b,u=>∃t,u=Value.float b t
 |.ref a,u=>u=Value.ref a
 |.ty n,u=>u=Value.type n
noncomputable abbrev Vals:List V->List Value->Prop:=Paired RelV
theorem Vals.length {xs:List V} {us:List Value} (r:Vals xs us):xs.length=us.length:=Paired.length r
theorem Vals.get:∀{xs:List V} {us:List Value} {i:Nat} {x:V},Vals xs us->xs[i]?=some x->∃u,us[i]?=some u∧RelV x u
 |_,_,_,_,.nil,e=>by simp at e
 |_,_,0,_,.cons r _,e=>by simp at e;subst e;exact ⟨_,rfl,r⟩
 |_,_,i+1,x,.cons _ t,e=>by
  obtain ⟨u,h1,h2⟩:=Vals.get (i:=i) (x:=x) t (by simpa using e);exact ⟨u,by simpa using h1,h2⟩
theorem Vals.set (r:RelV x u):∀{xs:List V} {us:List Value} (i:Nat),Vals xs us->Vals (xs.set i x) (us.set i u)
 |_,_,_,.nil=>.nil
 |_,_,0,.cons _ t=>.cons r t
 |_,_,i+1,.cons q t=>.cons q (Vals.set r i t)
theorem Vals.append:∀{xs ys:List V} {us ws:List Value},Vals xs us->Vals ys ws->Vals (xs++ys) (us++ws)
 |_,_,_,_,.nil,s=>s
 |_,_,_,_,.cons r t,s=>.cons r (Vals.append t s)
theorem Vals.take:∀{xs:List V} {us:List Value} (n:Nat),Vals xs us->Vals (xs.take n) (us.take n)
 |_,_,0,_=>.nil
 |_,_,_+1,.nil=>.nil
 |_,_,n+1,.cons r t=>.cons r (Vals.take n t)
theorem Vals.drop:∀{xs:List V} {us:List Value} (n:Nat),Vals xs us->Vals (xs.drop n) (us.drop n)
 |_,_,0,r=>r
 |_,_,_+1,.nil=>.nil
 |_,_,n+1,.cons _ t=>Vals.drop n t
noncomputable def bY:Option V->Option Value->Prop
 |some v,some u=>RelV v u
 |none,none=>True
 |_,_=>False
noncomputable def KV {κ:Type}:List (κ×V)->List (κ×Value)->Prop:=Paired fun (p:κ×V) (q:κ×Value)=>p.1=q.1∧RelV p.2 q.2
noncomputable def kV:Key->V
 |.inl i=>.int i
 |.inr x=>.str x
inductive HO where
 |lst (xs:List V)
 |tup (xs:List V)
 |dK (kvs:List (Key×V))|dT (kvs:List (List Key×V))
 |set (S:Int->Bool) (n:Nat)
 |ins (C dx:Addr) (fs:List (Str×V))
 |own (x:Addr)
 |xd (fs:List (Str×V))
 |met (f x:Addr)
 |rng (lo hi:Int)
 |frz (o:Obj) (u:HO)
 |tbl (ps:Array Value)
 |ext (φ:Heap->Prop)
noncomputable abbrev Hp:=Addr->Option HO
noncomputable def upd (H:Hp) (a:Addr) (o:HO):Hp:=fun b=>if b=a then some o else H b
theorem aG:upd H a o a=some o:=by unfold upd;rw [if_pos rfl]
theorem ao (h:b≠a):upd H a o b=H b:=by unfold upd;rw [if_neg h]
theorem aM {H:Hp} {a b:Addr} {o:HO} (h:H a=some o) (h':H b=none):a≠b:=by
 intro e;subst e;rw [h] at h';cases h'
section
variable (P:Program) (w:World)
noncomputable def aU (H:Hp) (h:Heap) (a:Addr):HO->Prop
 |.lst xs=>xs.length<=sizeLine∧∃(its:List Value) (n:Nat),Vals xs its∧h.get? a=some {cls:=.type "list",data:=.seq its.toArray n}
 |.tup xs=>xs.length<=sizeLine∧∃its:List Value,Vals xs its∧IsTup h a its.toArray
 |.dK kvs=>kvs.length<=sizeLine∧(a==sysModules)=false∧∃vs,KV kvs vs∧h.DictOf (oI P w) a vs
 |.dT kvs=>kvs.length<=sizeLine∧(a==sysModules)=false∧∃xs:List (List Key×Addr×Value),
   Paired (fun (p:List Key×V) (q:List Key×Addr×Value)=>p.1=q.1∧H q.2.1=some (.tup (p.1.map kV))∧RelV p.2 q.2.2) kvs xs∧
   ∃o es ep,h.get? a=some o∧o.ExactDict∧o.data=.dict es ep∧es.toList=xs.map (entryOfKey (tupleKind (oI P w)))∧(xs.map (·.1)).Nodup
 |.set S n=>h.SetOf (intKind P w) a S n
 |.ins C dx fs=>H dx=some (.own a)∧fs.length<=1000∧dx≠a∧h.get? a=some (PySem.W.instObj C dx)∧
   ∃mA,h.Ns1 dx mA∧(∀f,bY (fs.lookup f) (mA f))∧PySem.Within mA (fs.map (·.1))
 |.own _=>∃o,h.get? a=some o
 |.xd fs=>∃mA,h.Ns1 a mA∧∀f,bY (fs.lookup f) (mA f)
 |.rng lo hi=>∃t u v,h.get? a=some {cls:=.type "range",data:=.fields #[.int lo t,.int hi u,.int 1 v]}
 |.frz o u=>h.get? a=some o∧aU H h a u
 |.tbl ps=>h.get? a=some {cls:=.none,data:=.fields ps}
 |.met f x=>h.get? a=some (PySem.W.methodObj (.ref f) (.ref x))
 |.ext φ=>φ h∧(∃o,h.get? a=some o)∧∀h1 h2:Heap,φ h1->(∀o,h1.get? a=some o->h2.get? a=some o)->φ h2
noncomputable def HOk (H:Hp) (h:Heap):Prop:=∀a o,H a=some o->aU P w H h a o
end
section
variable {P:Program} {w:World} {H H':Hp} {h h':Heap} {a:Addr} {o:HO}
theorem aU.lt (x:aU P w H h a o):a<h.objs.size:=by
 cases o with
 |lst xs=>obtain ⟨_,_,_,_,e⟩:=x;exact Cl e
 |tup xs=>obtain ⟨_,_,_,p⟩:=x;exact p.lt
 |dK kvs=>obtain ⟨_,_,_,_,o,_,_,e,_⟩:=x;exact Cl e
 |dT kvs=>obtain ⟨_,_,_,_,o,_,_,e,_⟩:=x;exact Cl e
 |set S n=>obtain ⟨o,_,_,_,e,_⟩:=x;exact Cl e
 |ins C dx fs=>obtain ⟨_,_,_,e,_⟩:=x;exact Cl e
 |own y=>obtain ⟨_,e⟩:=x;exact Cl e
 |xd fs=>obtain ⟨_,⟨_,_,_,e,_⟩,_⟩:=x;exact Cl e
 |rng lo hi=>obtain ⟨_,_,_,e⟩:=x;exact Cl e
 |frz ob u=>obtain ⟨e,_⟩:=x;exact Cl e
 |tbl ps=>exact Cl (show h.get? a=some _ from x)
 |met f y=>exact Cl (show h.get? a=some _ from x)
 |ext φ=>obtain ⟨_,⟨_,e⟩,_⟩:=x;exact Cl e
theorem Paired.AE {α β:Type} {F G:α->β->Prop}:∀{l₁:List α} {l₂:List β},Paired F l₁ l₂->(∀a b,F a b->G a b)->Paired G l₁ l₂
 |_,_,.nil,_=>.nil
 |_,_,.cons r t,f=>.cons (f _ _ r) (Paired.AE t f)
theorem aU.hU (x:aU P w H h a o) (k:∀b u,(b=a∨H b=some (.own a))->h.get? b=some u->h'.get? b=some u)
  (ho:∀b,H b=some (.own a)->H' b=some (.own a)) (ht:∀b xs,H b=some (.tup xs)->H' b=some (.tup xs)):aU P w H' h' a o:=by
 induction o with
 |lst xs=>obtain ⟨z,its,n,r,e⟩:=x;exact ⟨z,its,n,r,k _ _ (.inl rfl) e⟩
 |tup xs=>obtain ⟨z,its,r,ob,e,c⟩:=x;exact ⟨z,its,r,ob,k _ _ (.inl rfl) e,c⟩
 |dK kvs=>obtain ⟨z,y,vs,r,ob,es,ep,e,c⟩:=x;exact ⟨z,y,vs,r,ob,es,ep,k _ _ (.inl rfl) e,c⟩
 |dT kvs=>
  obtain ⟨z,y,xs,r,ob,es,ep,e,c⟩:=x;exact ⟨z,y,xs,Paired.AE r fun p q z=>⟨z.1,ht _ _ z.2.1,z.2.2⟩,ob,es,ep,k _ _ (.inl rfl) e,c⟩
 |set S n=>obtain ⟨ob,es,ep,t,e,c⟩:=x;exact ⟨ob,es,ep,t,k _ _ (.inl rfl) e,c⟩
 |ins C dx fs=>
  obtain ⟨d,z,ne,e,mA,⟨od,es,ep,e2,c⟩,r⟩:=x;exact ⟨ho _ d,z,ne,k _ _ (.inl rfl) e,mA,⟨od,es,ep,k _ _ (.inr d) e2,c⟩,r⟩
 |own y=>obtain ⟨ob,e⟩:=x;exact ⟨ob,k _ _ (.inl rfl) e⟩
 |xd fs=>obtain ⟨mA,⟨od,es,ep,e,c⟩,r⟩:=x;exact ⟨mA,⟨od,es,ep,k _ _ (.inl rfl) e,c⟩,r⟩
 |rng lo hi=>obtain ⟨t,u,v,e⟩:=x;exact ⟨t,u,v,k _ _ (.inl rfl) e⟩
 |frz ob u ih=>obtain ⟨e,q⟩:=x;exact ⟨k _ _ (.inl rfl) e,ih q⟩
 |tbl ps=>
  have e:h.get? a=some {cls:=.none,data:=.fields ps}:=x;show h'.get? a=some {cls:=.none,data:=.fields ps};exact k a _ (.inl rfl) e
 |met f y=>
  have e:h.get? a=some (PySem.W.methodObj (.ref f) (.ref y)):=x;show h'.get? a=some (PySem.W.methodObj (.ref f) (.ref y));exact k a _ (.inl rfl) e
 |ext φ=>obtain ⟨p,⟨o,e⟩,st⟩:=x;exact ⟨st _ _ p fun o q=>k _ _ (.inl rfl) q,⟨o,k _ _ (.inl rfl) e⟩,st⟩
theorem HOk.lt (x:HOk P w H h) (e:H a=some o):a<h.objs.size:=(x a o e).lt
theorem HOk.fresh (x:HOk P w H h) (e:h.objs.size<=a):H a=none:=by
 cases q:H a with
 |none=>rfl
 |some u=>exact absurd (EC (x.lt q) e) (Nat.lt_irrefl _)
theorem HOk.kept (x:HOk P w H h) (k:∀b u,h.get? b=some u->h'.get? b=some u):HOk P w H h':=fun a o e=>
 (x a o e).hU (fun b u _ q=>k b u q) (fun _ q=>q) fun _ _ q=>q
theorem HOk.laid (x:HOk P w H h) (k:∀b u,h.get? b=some u->h'.get? b=some u) (hp:h.objs.size<=a) (new:aU P w (upd H a o) h' a o):HOk P w (upd H a o) h':=fun b u e=>by
 have hn:=x.fresh hp
 by_cases hb:b=a
 ·subst hb;rw [aG] at e;cases e;exact new
 ·rw [ao hb] at e;exact (x b u e).hU (fun c v _ q=>k c v q) (fun c q=>by rw [ao (aM q hn)];exact q) fun c xs q=>by rw [ao (aM q hn)];exact q
end
noncomputable def Rd (H:Hp) (a:Addr) (u:HO):Prop:=H a=some u∨∃o,H a=some (.frz o u)
theorem Rd.ok {P:Program} {w:World} {H:Hp} {h:Heap} {a:Addr} {u:HO} (r:Rd H a u) (x:HOk P w H h):aU P w H h a u:=by
 rcases r with r|⟨o,r⟩
 ·exact x a u r
 ·obtain ⟨_,q⟩:=x a _ r;exact q
noncomputable def Mut:Option HO->Prop
 |some (.lst _)=>True
 |some (.dK _)=>True
 |some (.dT _)=>True
 |some (.set _ _)=>True
 |some (.ins _ _ _)=>True
 |some (.ext _)=>True
 |_=>False
section
variable {P:Program} {w:World} {H:Hp} {h h':Heap} {x e:Addr} {o':HO}
theorem HOk.write (ok:HOk P w H h) (mu:Mut (H x)) (he:e=x∨H e=some (.own x)) (k:∀b u,b≠e->h.get? b=some u->h'.get? b=some u) (heo:∃u,h'.get? e=some u)
  (new:aU P w (upd H x o') h' x o'):HOk P w (upd H x o') h':=fun b u q=>by
 have nown:∀c y,H c=some (.own y)->c≠x:=fun c y r z=>by subst z;rw [r] at mu;exact mu
 have ntup:∀c xs,H c=some (.tup xs)->c≠x:=fun c xs r z=>by subst z;rw [r] at mu;exact mu
 by_cases hb:b=x
 ·subst hb;rw [aG] at q;cases q;exact new
 ·rw [ao hb] at q
  by_cases hbe:b=e
  ·have q':H b=some (.own x):=by
    rcases he with z|z
    ·exact absurd (hbe.trans z) hb
    ·rw [hbe];exact z
   rw [q] at q';cases q';obtain ⟨v,hv⟩:=heo;exact ⟨v,by rw [hbe];exact hv⟩
  ·refine (ok b u q).hU (fun c v hc r=>k c v ?_ r) (fun c r=>by rw [ao (nown c b r)];exact r) fun c xs r=>by rw [ao (ntup c xs r)];exact r
   rcases hc with rfl|hc
   ·exact hbe
   ·rintro rfl;rcases he with z|z
    ·exact nown c b hc z
    ·rw [hc] at z;cases z;exact hb rfl
end
structure Un (fs ex:List Addr) (H H':Hp) (h h':Heap):Prop where
 keep:∀b o,h.get? b=some o->H b=none->b∉fs->b∉ex->h'.get? b=some o
 slot:∀b o,h.get? b=some o->H b=none->b∈fs->b∉ex->∃sl,h'.get? b=some {o with slots:=sl}
 free:∀b o,h.get? b=some o->H b=none->b∉ex->H' b=none
 there:∀b o,h.get? b=some o->b∉ex->∃o',h'.get? b=some o'
 gc:∀b xs,H b=some (.tup xs)->H' b=some (.tup xs)
 eR:∀b o u,H b=some (.frz o u)->H' b=some (.frz o u)
 f_:∀b ps,H b=some (.tbl ps)->∃more,H' b=some (.tbl (ps++more))
section
variable {fs fs' ex ex':List Addr} {H H1 H2:Hp} {h h1 h2 h':Heap} {a x e:Addr} {o:HO}
theorem Un.any (u:Un fs ex H H1 h h1) {b:Addr} {ob:Obj} (q:h.get? b=some ob) (n:H b=none) (hx:b∉ex):∃sl,h1.get? b=some {ob with slots:=sl}:=by
 by_cases hb:b∈fs
 ·exact u.slot b ob q n hb hx
 ·exact ⟨ob.slots,u.keep b ob q n hb hx⟩
theorem Un.kept (k:∀b u,h.get? b=some u->h'.get? b=some u):Un fs ex H H h h':=
 ⟨fun b ob q _ _ _=>k b ob q,fun b ob q _ _ _=>⟨ob.slots,k b ob q⟩,fun _ _ _ n _=>n,fun b ob q _=>⟨ob,k b ob q⟩,fun _ _ q=>q,fun _ _ _ q=>q,fun _ ps q=>⟨#[],by rw [q];simp⟩⟩
theorem Un.refl:Un fs ex H H h h:=Un.kept fun _ _ q=>q
theorem Un.laid (k:∀b u,h.get? b=some u->h'.get? b=some u) (hp:h.objs.size<=a) (hn:H a=none):Un fs ex H (upd H a o) h h' where
 keep:=fun b u q _ _ _=>k b u q
 slot:=fun b u q _ _ _=>⟨u.slots,k b u q⟩
 free:=fun b u q n _=>by rw [ao (EF (EC (Cl q) hp))];exact n
 there:=fun b u q _=>⟨u,k b u q⟩
 gc:=fun b xs q=>by rw [ao (aM q hn)];exact q
 eR:=fun b u xs q=>by rw [ao (aM q hn)];exact q
 f_:=fun b ps q=>⟨#[],by rw [ao (aM q hn),q];simp⟩
theorem Un.write (mu:Mut (H x)) (he:e=x∨H e=some (.own x)) (k:∀b u,b≠e->h.get? b=some u->h'.get? b=some u) (heo:∃u,h'.get? e=some u):Un fs ex H (upd H x o) h h':=by
 have hx:∀b,H b=none->b≠x:=fun b n z=>by subst z;rw [n] at mu;exact mu
 have hb:∀b,H b=none->b≠e:=fun b n z=>by
  subst z;rcases he with r|r
  ·exact hx b n r
  ·rw [n] at r;cases r
 have hm:∀b u,H b=some u->¬Mut (some u)->b≠x:=fun b u q nm z=>by subst z;rw [q] at mu;exact nm mu
 refine ⟨fun b u q n _ _=>k b u (hb b n) q,fun b u q n _ _=>⟨u.slots,k b u (hb b n) q⟩,fun b u q n _=>by rw [ao (hx b n)];exact n,fun b u q _=>?_,
  fun b xs q=>by rw [ao (hm b _ q fun z=>z)];exact q,fun b u xs q=>by rw [ao (hm b _ q fun z=>z)];exact q,fun b ps q=>⟨#[],by rw [ao (hm b _ q fun z=>z),q];simp⟩⟩
 by_cases hbe:b=e
 ·subst hbe;exact heo
 ·exact ⟨u,k b u hbe q⟩
end
noncomputable def trk (h:Heap) (H:Hp):List Addr:=(List.range h.objs.size).filter fun a=>(H a).isSome
noncomputable def fL (h:Heap) (H:Hp):Heap:=PySem.W.hideAll h (trk h H)
theorem rZ (h:Heap) (H:Hp):(fL h H).objs.size=h.objs.size:=PySem.W.hideAll_size _ _
theorem uA (e:h.get? b=some o) (n:H b=none):(fL h H).get? b=some o:=
 PySem.W.hideAll_get _ e fun hm=>by
  have q:(H b).isSome=true:=(List.mem_filter.mp hm).2;rw [n] at q;simp at q
theorem xZ (e:(fL h H).get? b=some o):h.get? b=some o∧H b=none:=by
 have e':h.get? b=some o:=PySem.W.of_hideAll (trk h H) e;refine ⟨e',?_⟩;cases q:H b with
 |none=>rfl
 |some x=>
  have hm:b∈trk h H:=List.mem_filter.mpr ⟨List.mem_range.mpr (Cl e'),by simp [q]⟩;have z:(fL h H).get? b=none:=PySem.W.hideAll_none (trk h H) hm;rw [z] at e;cases e
noncomputable def wt (g h:Heap) (L:Addr):List (Addr×Obj):=(List.range h.objs.size).filterMap fun a=>if a=L∨(g.get? a).isSome=true then none else (h.get? a).map fun o=>(a,o)
noncomputable def rest (g h:Heap) (L d:Addr):List (Addr×Obj):=(wt g h L).filter fun p=>decide (p.1≠d)
structure Mod (K:PySem.W.Frag) (mg:Str->Option Value) (base:Heap):Prop where
 kin:K.In base
 glob:base.Ns mainGlobals mg
 blt:∃mb,base.Ns builtinsNs mb∧∀x:Str,x≠"__name__"->mb x=bootBuiltins x
 nolimit:base.NoLimit
structure Cx where
 prog:Program
 w:World
 K:PySem.W.Frag
 mg:Str->Option Value
 base:Heap
 A:Around
 N:List Str
 s₀:Shared
 H₀:Hp
 env:Env
 outer:List Env
 stack:List Env
 ex:List Addr
 fn:Str->Bool
 calm:Bool
 pn:List (Addr×Obj)
 xe:Value->Shared->Prop
noncomputable def frs (l:List Env):List Addr:=l.filterMap (·.frame)
noncomputable abbrev Cx.fs (X:Cx):List Addr:=frs X.outer
noncomputable def Vis (sc:Scope) (x:Str):Prop:=sc.names.lookup x=some .local∨sc.names.lookup x=some .cell∨sc.names.lookup x=some .free
noncomputable def Loc (sc:Scope) (x:Str):Prop:=sc.names.lookup x=some .local∨sc.names.lookup x=some .cell
noncomputable def Look (env:Env) (h:Heap) (m:Str->Option Value) (x:Str) (u:Value):Prop:=
 (env.kindOf x=some .local∧m x=some u)∨((env.kindOf x=some .cell∨env.kindOf x=some .free)∧∃c,env.cells.lookup x=some c∧h.IsCell c (some u))
structure Cx.Ok (X:Cx):Prop where
 mod:Mod X.K X.mg X.base
 kind:X.env.scope.kind=.function
 glob:X.env.globals=mainGlobals
 blt:X.env.builtins=builtinsNs
 above:X.s₀.heap.objs.size<=X.env.locals
 inj:∀x y c,X.env.cells.lookup x=some c->X.env.cells.lookup y=some c->x=y
 has:∀x,(X.env.kindOf x=some .cell∨X.env.kindOf x=some .free)->∃c,X.env.cells.lookup x=some c
 cab:∀x c,X.fn x=true->X.env.cells.lookup x=some c->X.s₀.heap.objs.size<=c
 hd:X.calm=true->X.A.handled=none
 frames:X.A.frames=some X.stack
 stk:X.stack=X.outer∨(X.stack=X.env::X.outer∧X.env.frame=some X.env.locals)
 exf:∀b∈X.ex,b≠X.env.locals∧∀x c,X.env.cells.lookup x=some c->c≠b
 bs:∀b o,X.base.get? b=some o->X.s₀.heap.get? b=some o∧X.H₀ b=none
 bsz:X.base.objs.size<=X.s₀.heap.objs.size
 iW:∀b o,X.base.get? b=some o->b∉X.ex
 mC:∀b∈X.ex,b∉X.fs
 c_:X.s₀.heap.FunFrames X.base X.outer
 frf:∀b∈X.fs,X.H₀ b=none
structure Inv (X:Cx) (pins:List (Addr×Obj)) (σ:List (Option V)) (H:Hp) (s:Shared):Prop where
 ok:X.Ok
 os:s.os=X.s₀.os
 bare:AllBare s.gens
 base:Un X.fs X.ex X.H₀ H X.s₀.heap s.heap
 loc:∃m,s.heap.Ns X.env.locals m∧∀(i:Nat) (x:Str) (v:V),X.N[i]?=some x->σ[i]?=some (some v)->Vis X.env.scope x->∃u,RelV v u∧Look X.env s.heap m x u
 cell:∀x c,X.env.cells.lookup x=some c->∃v,s.heap.IsCell c v
 free:H X.env.locals=none
 cV:∀x c,X.env.cells.lookup x=some c->H c=none
 pin:∀p∈X.pn++pins,s.heap.get? p.1=some p.2∧H p.1=none∧p.1≠X.env.locals∧p.1∉X.fs∧∀v,p.2.data≠.cell v
 hok:HOk X.prog X.w H s.heap
 len:σ.length=X.N.length
section
variable {X:Cx} {pins:List (Addr×Obj)} {σ:List (Option V)} {H H':Hp} {s:Shared} {h':Heap}
theorem Cx.Ok.DX (ok:X.Ok) (e:X.base.get? b=some o):b∉X.fs:=fun hb=>by
 have:=(ok.c_.mem hb).1;rw [e] at this;cases this
theorem Inv.bs (I:Inv X pins σ H s):∀b o,X.base.get? b=some o->s.heap.get? b=some o∧H b=none:=fun b o e=>
 ⟨I.base.keep b o (I.ok.bs b o e).1 (I.ok.bs b o e).2 (I.ok.DX e) (I.ok.iW b o e),I.base.free b o (I.ok.bs b o e).1 (I.ok.bs b o e).2 (I.ok.iW b o e)⟩
theorem Inv.bk (I:Inv X pins σ H s):∀b o,X.base.get? b=some o->s.heap.get? b=some o:=fun b o e=>(I.bs b o e).1
theorem Inv.mod (I:Inv X pins σ H s):Mod X.K X.mg X.base:=I.ok.mod
theorem Inv.kIn (I:Inv X pins σ H s):X.K.In s.heap:=I.ok.mod.kin.keeps I.bk
theorem Inv.lt (I:Inv X pins σ H s):X.env.locals<s.heap.objs.size:=let ⟨_,hn,_⟩:=I.loc;hn.lt
theorem Inv.sz (I:Inv X pins σ H s):X.s₀.heap.objs.size<=s.heap.objs.size:=EE I.ok.above (Nat.le_of_lt I.lt)
theorem Inv.AJ (I:Inv X pins σ H s) (h:s.heap.objs.size<=a):a∉X.fs:=fun hb=>by
 obtain ⟨_,o,ho,_⟩:=I.ok.c_.mem hb;exact absurd (EC (Cl ho) (EE I.sz h)) (Nat.lt_irrefl _)
theorem Inv.cne (I:Inv X pins σ H s):∀x c,X.env.cells.lookup x=some c->c≠X.env.locals:=fun x c e z=>by
 obtain ⟨v,o,ho,hd⟩:=I.cell x c e;obtain ⟨m,⟨o',es,ep,ho',hd',_⟩,_⟩:=I.loc;rw [z,ho'] at ho;cases ho;rw [hd'] at hd;cases hd
theorem Inv.c_ (I:Inv X pins σ H s):s.heap.FunFrames X.base X.outer:=by
 have all:∀(l:List Env),(∀b∈frs l,b∈X.fs)->X.s₀.heap.FunFrames X.base l->s.heap.FunFrames X.base l:=by
  intro l
  induction l with
  |nil=>intro _ _;trivial
  |cons env r ih=>
   intro hs hl;obtain ⟨hk,⟨L,o,hf,hn,ho,hd⟩,hr⟩:=hl;have hL:L∈X.fs:=hs L (by unfold frs;rw [List.filterMap_cons,hf];exact Eo);obtain ⟨sl,e⟩:=I.base.slot L o ho (I.ok.frf L hL) hL fun z=>I.ok.mC L z hL;exact ⟨hk,⟨L,_,hf,hn,e,hd⟩,ih (fun b hb=>hs b (by unfold frs;rw [List.filterMap_cons,hf];exact En _ hb)) hr⟩
 exact all X.outer (fun _ hb=>hb) I.ok.c_
theorem Inv.stack (I:Inv X pins σ H s):s.heap.FunFrames X.base X.stack:=by
 rcases I.ok.stk with e|⟨e,hf⟩
 ·rw [e];exact I.c_
 ·rw [e];obtain ⟨m,hn,_⟩:=I.loc;refine .cons (by rw [I.ok.kind];decide) hf hn ?_ I.c_;exact Heap.get?_none_of_le (EE I.ok.bsz I.ok.above)
theorem Inv.fk (I:Inv X pins σ H s):∀b∈frs X.stack,b∈X.env.locals::X.fs:=fun b hb=>by
 rcases I.ok.stk with e|⟨e,hf⟩
 ·rw [e] at hb;exact En _ hb
 ·rw [e] at hb;unfold frs at hb;rw [List.filterMap_cons,hf] at hb;exact hb
theorem Inv.o5 (I:Inv X pins σ H s):∀b∈frs X.stack,H b=none:=fun b hb=>by
 rcases Er.mp (I.fk b hb) with e|hb
 ·rw [e];exact I.free
 ·obtain ⟨_,o,ho,_⟩:=I.ok.c_.mem hb;exact I.base.free b o ho (I.ok.frf b hb) fun z=>I.ok.mC b z hb
theorem Inv.step {g':Array GenState} {t':Nat} {d':Drawn} {ch:List Addr} (I:Inv X pins σ H s)
  (hch:∀b∈ch,(b∈X.ex∨X.s₀.heap.objs.size<=b)∧b≠X.env.locals∧(∀x c,X.env.cells.lookup x=some c->c≠b)∧∀p∈X.pn++pins,p.1≠b)
  (keep:∀b o,b≠X.env.locals->b∉X.fs->b∉ch->s.heap.get? b=some o->H b=none->h'.get? b=some o)
  (slot:∀b o,b≠X.env.locals->b∈X.fs->b∉ch->s.heap.get? b=some o->H b=none->∃sl,h'.get? b=some {o with slots:=sl}) (free:∀b o,b∉ch->s.heap.get? b=some o->H b=none->H' b=none)
  (there:∀b o,b∉ch->s.heap.get? b=some o->∃o',h'.get? b=some o')
  (gc:∀b xs,H b=some (.tup xs)->H' b=some (.tup xs)) (eR:∀b o u,H b=some (.frz o u)->H' b=some (.frz o u)) (f_:∀b ps,H b=some (.tbl ps)->∃more,H' b=some (.tbl (ps++more)))
  (ns:∀m,s.heap.Ns X.env.locals m->h'.Ns X.env.locals m) (hok:HOk X.prog X.w H' h') (hg:AllBare g'):
  Inv X pins σ H' {s with heap:=h',gens:=g',drawn:=d',toks:=t'}:=by
 have neL:∀b o,X.s₀.heap.get? b=some o->b≠X.env.locals:=fun b o e=>EF (EC (Cl e) I.ok.above);have neC:∀b o,X.s₀.heap.get? b=some o->b∉X.ex->b∉ch:=fun b o e hx hb=>by
  rcases (hch b hb).1 with z|z
  ·exact hx z
  ·exact absurd (EC (Cl e) z) (Nat.lt_irrefl _)
 have cellK:∀x c,X.env.cells.lookup x=some c->∀v,s.heap.IsCell c v->h'.IsCell c v:=fun x c e v ⟨o,ho,hd⟩=>by
  have nch:c∉ch:=fun z=>(hch c z).2.2.1 x c e rfl
  by_cases hc:c∈X.fs
  ·obtain ⟨sl,q⟩:=slot c o (I.cne x c e) hc nch ho (I.cV x c e);exact ⟨_,q,hd⟩
  ·exact ⟨o,keep c o (I.cne x c e) hc nch ho (I.cV x c e),hd⟩
 refine ⟨I.ok,I.os,hg,⟨fun b o e n hb hx=>?_,fun b o e n hb hx=>?_,fun b o e n hx=>?_,fun b o e hx=>?_,fun b xs e=>gc b xs (I.base.gc b xs e),fun b o xs e=>eR b o xs (I.base.eR b o xs e),fun b ps e=>?_⟩,?_,fun x c e=>?_,?_,fun x c e=>?_,fun p hp=>?_,hok,I.len⟩
 ·exact keep b o (neL b o e) hb (neC b o e hx) (I.base.keep b o e n hb hx) (I.base.free b o e n hx)
 ·obtain ⟨sl,e1⟩:=I.base.slot b o e n hb hx;obtain ⟨sl',e2⟩:=slot b _ (neL b o e) hb (neC b o e hx) e1 (I.base.free b o e n hx);exact ⟨sl',e2⟩
 ·obtain ⟨o',e1⟩:=I.base.there b o e hx;exact free b o' (neC b o e hx) e1 (I.base.free b o e n hx)
 ·obtain ⟨o',e1⟩:=I.base.there b o e hx;exact there b o' (neC b o e hx) e1
 ·obtain ⟨m1,e1⟩:=I.base.f_ b ps e;obtain ⟨m2,e2⟩:=f_ b _ e1;exact ⟨m1++m2,by rw [e2,Array.append_assoc]⟩
 ·obtain ⟨m,hn,hl⟩:=I.loc;refine ⟨m,ns m hn,fun i x v e1 e2 e3=>?_⟩;obtain ⟨u,r,l⟩:=hl i x v e1 e2 e3;refine ⟨u,r,?_⟩;rcases l with l|⟨k,c,e,z⟩
  ·exact .inl l
  ·exact .inr ⟨k,c,e,cellK x c e _ z⟩
 ·obtain ⟨v,z⟩:=I.cell x c e;exact ⟨v,cellK x c e v z⟩
 ·obtain ⟨m,⟨o,_,_,ho,_⟩,_⟩:=I.loc;exact free _ o (fun z=>(hch _ z).2.1 rfl) ho I.free
 ·obtain ⟨v,o,ho,hd⟩:=I.cell x c e;exact free c o (fun z=>(hch c z).2.2.1 x c e rfl) ho (I.cV x c e)
 ·obtain ⟨e,n,ne,nf,d⟩:=I.pin p hp;have nch:p.1∉ch:=fun z=>(hch p.1 z).2.2.2 p hp rfl;exact ⟨keep p.1 p.2 ne nf nch e n,free p.1 p.2 nch e n,ne,nf,d⟩
theorem Inv.un {t':Nat} (I:Inv X pins σ H s) (u:Un X.fs [] H H' s.heap h') (hok:HOk X.prog X.w H' h'):Inv X pins σ H' {s with heap:=h',toks:=t'}:=by
 obtain ⟨m,⟨o,es,ep,ho,r⟩,_⟩:=id I.loc;obtain ⟨sl,hL⟩:=u.any ho I.free (by simp);exact I.step (g':=s.gens) (d':=s.drawn) (ch:=[]) (fun _ z=>nomatch z) (fun b o _ hb _ e n=>u.keep b o e n hb (by simp)) (fun b o _ hb _ e n=>u.slot b o e n hb (by simp)) (fun b o _ e n=>u.free b o e n (by simp)) (fun b o _ e=>u.there b o e (by simp)) u.gc u.eR u.f_ (fun m' hm=>by
  obtain ⟨o',es',ep',ho',r'⟩:=hm;rw [ho] at ho';cases ho';exact ⟨_,es',ep',hL,r'⟩) hok I.bare
theorem Inv.call {g':Array GenState} {t':Nat} {d':Drawn} {ch:List Addr} (I:Inv X pins σ H s) (u:Un (frs X.stack) ch H H' s.heap h') (hok:HOk X.prog X.w H' h') (hg:AllBare g')
  (hch:∀b∈ch,(b∈X.ex∨X.s₀.heap.objs.size<=b)∧b≠X.env.locals∧(∀x c,X.env.cells.lookup x=some c->c≠b)∧∀p∈X.pn++pins,p.1≠b):
  Inv X pins σ H' {s with heap:=h',gens:=g',drawn:=d',toks:=t'}:=by
 obtain ⟨m,⟨o,es,ep,ho,r⟩,_⟩:=id I.loc;obtain ⟨sl,hL⟩:=u.any ho I.free fun z=>(hch _ z).2.1 rfl;exact I.step (ch:=ch) hch (fun b o hL hb hc e n=>u.keep b o e n (fun z=>(Er.mp (I.fk b z)).elim hL hb) hc) (fun b o _ _ hc e n=>u.any e n hc) (fun b o hc e n=>u.free b o e n hc) (fun b o hc e=>u.there b o e hc) u.gc u.eR u.f_ (fun m' hm=>by
  obtain ⟨o',es',ep',ho',r'⟩:=hm;rw [ho] at ho';cases ho';exact ⟨_,es',ep',hL,r'⟩) hok hg
theorem Inv.turned {t':Nat} {it:Addr} (I:Inv X pins σ H s) (k:∀b o,b≠it->s.heap.get? b=some o->h'.get? b=some o) (hn:H it=none) (hL:it≠X.env.locals)
  (h1:it∈X.ex∨X.s₀.heap.objs.size<=it) (h2:∀x c,X.env.cells.lookup x=some c->c≠it) (h3:∀p∈X.pn++pins,p.1≠it):Inv X pins σ H {s with heap:=h',toks:=t'}:=by
 have nit:∀b u,H b=some u->b≠it:=fun b u e z=>by rw [z,hn] at e;cases e
 refine I.step (g':=s.gens) (d':=s.drawn) (ch:=[it]) (fun b hb=>?_) (fun b o _ _ hc e _=>k b o (fun z=>hc (by simp [z])) e) (fun b o _ _ hc e _=>⟨o.slots,k b o (fun z=>hc (by simp [z])) e⟩) (fun _ _ _ _ n=>n)
  (fun b o hc e=>⟨o,k b o (fun z=>hc (by simp [z])) e⟩) (fun _ _ e=>e) (fun _ _ _ e=>e) (fun b ps e=>⟨#[],by rw [e];simp⟩) (fun m hm=>?_) (fun b u e=>?_) I.bare
 ·have e:b=it:=by simpa using hb
  subst e;exact ⟨h1,hL,h2,h3⟩
 ·obtain ⟨o,es,ep,ho,r⟩:=hm;exact ⟨o,es,ep,k _ o (Ne.symm hL) ho,r⟩
 ·refine (I.hok b u e).hU (fun c v hc q=>k c v ?_ q) (fun _ q=>q) fun _ _ q=>q;rcases hc with z|z
  ·rw [z];exact nit b u e
  ·exact nit c _ z
theorem Inv.tok (I:Inv X pins σ H s) (t:Nat):Inv X pins σ H {s with toks:=t}:=I.un (h':=s.heap) (t':=t) Un.refl I.hok
theorem Inv.kept {t':Nat} (I:Inv X pins σ H s) (k:∀b u,s.heap.get? b=some u->h'.get? b=some u):Inv X pins σ H {s with heap:=h',toks:=t'}:=I.un (Un.kept k) (I.hok.kept k)
theorem Inv.laid {a:Addr} {o:HO} {t':Nat} (I:Inv X pins σ H s) (k:∀b u,s.heap.get? b=some u->h'.get? b=some u) (hp:s.heap.objs.size<=a) (new:aU X.prog X.w (upd H a o) h' a o):
  Inv X pins σ (upd H a o) {s with heap:=h',toks:=t'}:=I.un (Un.laid k hp (I.hok.fresh hp)) (I.hok.laid k hp new)
theorem Inv.write {t':Nat} (I:Inv X pins σ H s) (mu:Mut (H x)) (he:e=x∨H e=some (.own x)) (k:∀b u,b≠e->s.heap.get? b=some u->h'.get? b=some u) (heo:∃u,h'.get? e=some u)
  (new:aU X.prog X.w (upd H x o) h' x o):Inv X pins σ (upd H x o) {s with heap:=h',toks:=t'}:=I.un (Un.write mu he k heo) (I.hok.write mu he k heo new)
theorem Inv.weak (I:Inv X pins σ H s) (hl:σ'.length=σ.length) (w:∀(i:Nat) v,σ'[i]?=some (some v)->σ[i]?=some (some v)):Inv X pins σ' H s:=
 ⟨I.ok,I.os,I.bare,I.base,let ⟨m,hn,hl'⟩:=I.loc;⟨m,hn,fun i x v e1 e2 e3=>hl' i x v e1 (w i v e2) e3⟩,I.cell,I.free,I.cV,I.pin,I.hok,hl.trans I.len⟩
theorem Inv.kf (I:Inv X pins σ H s) (h:∀p∈pins',s.heap.get? p.1=some p.2∧H p.1=none∧p.1≠X.env.locals∧p.1∉X.fs∧∀v,p.2.data≠.cell v):Inv X pins' σ H s:=
 ⟨I.ok,I.os,I.bare,I.base,I.loc,I.cell,I.free,I.cV,fun p hp=>(Ep.mp hp).elim (fun z=>I.pin p (Do _ z)) (h p),I.hok,I.len⟩
theorem mU {N:List Str} (hN:N.Nodup) {i j:Nat} {x:Str} (a:N[i]?=some x) (b:N[j]?=some x):i=j:=by
 obtain ⟨h1,e1⟩:=Eu.mp a;obtain ⟨h2,e2⟩:=Eu.mp b;exact (List.getElem_inj hN).mp (e1.trans e2.symm)
theorem hV {M:Model} {A:Around} {E:Value->Shared->Prop} {i:Nat} {x:Str} {v:V} {u:Value} {Q:Unit->Shared->Prop} (I:Inv X pins σ H s) (hN:X.N.Nodup) (hi:X.N[i]?=some x) (hx:Loc X.env.scope x) (r:RelV v u)
  (h:∀s',Inv X pins (σ.set i (some v)) H s'->(∃a,Heap.SameBut a s.heap s'.heap∧(a=X.env.locals∨X.env.cells.lookup x=some a))->Q () s') (hf:X.fn x=true∨X.env.scope.names.lookup x=some .local:=by first|exact .inl rfl|exact .inr rfl|assumption):wpAny M A (storeName X.env x u) Q E s:=by
 obtain ⟨m,hn,hl⟩:=id I.loc;have hcls:(X.env.scope.kind==.class||(X.env.scope.kind==.module&&X.env.locals !=X.env.globals))=false:=by rw [I.ok.kind];rfl
 have hiσ:i<σ.length:=by rw [I.len];exact (Eu.mp hi).1
 have cne:=I.cne;have tracked:∀{a:Addr} {h':Heap},(∃o,s.heap.get? a=some o∧H a=none)->Heap.SameBut a s.heap h'->HOk X.prog X.w H h':=fun {a h'} ha hs b ob e=>by
  obtain ⟨_,_,hfree⟩:=ha;refine (I.hok b ob e).hU (fun c w' hc q=>(hs.2 c ?_).trans q) (fun _ q=>q) fun _ _ q=>q;rintro rfl;rcases hc with rfl|hc
  ·rw [hfree] at e;cases e
  ·rw [hfree] at hc;cases hc
 rcases hx with hk|hk
 ·refine wpAny_storeName_local hk hn (fun h' hn' hs=>?_) hcls;obtain ⟨oL,_,_,hoL,_⟩:=id hn;refine h _ ⟨I.ok,I.os,I.bare,⟨fun b o e n hb hx=>?_,fun b o e n hb hx=>?_,I.base.free,fun b o e hx=>?_,I.base.gc,I.base.eR,I.base.f_⟩,⟨_,hn',fun j y v' e1 e2 e3=>?_⟩,fun y c e=>?_,I.free,I.cV,fun p hp=>?_,tracked ⟨oL,hoL,I.free⟩ hs,by simpa using I.len⟩ ⟨_,hs,.inl rfl⟩
  ·exact (hs.2 b (EF (EC (Cl e) I.ok.above))).trans (I.base.keep b o e n hb hx)
  ·obtain ⟨sl,e1⟩:=I.base.slot b o e n hb hx;exact ⟨sl,(hs.2 b (EF (EC (Cl e) I.ok.above))).trans e1⟩
  ·obtain ⟨o',e1⟩:=I.base.there b o e hx;exact ⟨o',(hs.2 b (EF (EC (Cl e) I.ok.above))).trans e1⟩
  ·by_cases hj:j=i
   ·subst hj;rw [hi] at e1;cases e1;rw [Ew hiσ] at e2;cases e2;exact ⟨u,r,.inl ⟨hk,by simp⟩⟩
   ·rw [Ex (Ne.symm hj)] at e2;obtain ⟨u',r',q⟩:=hl j y v' e1 e2 e3;refine ⟨u',r',?_⟩;rcases q with ⟨k,e⟩|⟨k,c,e,z⟩
    ·refine .inl ⟨k,?_⟩;have:y≠x:=fun e=>hj (mU hN e1 (e▸hi));simp [this,e]
    ·exact .inr ⟨k,c,e,z.sameBut hs (cne y c e)⟩
  ·obtain ⟨w',z⟩:=I.cell y c e;exact ⟨w',z.sameBut hs (cne y c e)⟩
  ·obtain ⟨e,n,ne,nf,d⟩:=I.pin p hp;exact ⟨(hs.2 p.1 ne).trans e,n,ne,nf,d⟩
 ·have hfn:X.fn x=true:=by
   rcases hf with z|z
   ·exact z
   ·rw [z] at hk;cases hk
  obtain ⟨c,hc⟩:=I.ok.has x (.inl hk);obtain ⟨w',z⟩:=I.cell x c hc;refine wpAny_storeName_cell I.ok.kind hk hc z (fun h' hc' hs=>?_);obtain ⟨oc,hoc,hocd⟩:=id z;refine h {s with heap:=h'} ⟨I.ok,I.os,I.bare,⟨fun b o e n hb hx=>?_,fun b o e n hb hx=>?_,I.base.free,fun b o e hx=>?_,I.base.gc,I.base.eR,I.base.f_⟩,⟨m,hn.sameBut hs (Ne.symm (cne x c hc)),fun j y v' e1 e2 e3=>?_⟩,fun y c' e=>?_,I.free,I.cV,fun p hp=>?_,tracked ⟨oc,hoc,I.cV x c hc⟩ hs,by simpa using I.len⟩ ⟨c,hs,.inr hc⟩
  ·exact (hs.2 b (EF (EC (Cl e) (I.ok.cab x c hfn hc)))).trans (I.base.keep b o e n hb hx)
  ·obtain ⟨sl,e1⟩:=I.base.slot b o e n hb hx;exact ⟨sl,(hs.2 b (EF (EC (Cl e) (I.ok.cab x c hfn hc)))).trans e1⟩
  ·obtain ⟨o',e1⟩:=I.base.there b o e hx;exact ⟨o',(hs.2 b (EF (EC (Cl e) (I.ok.cab x c hfn hc)))).trans e1⟩
  ·by_cases hj:j=i
   ·subst hj;rw [hi] at e1;cases e1;rw [Ew hiσ] at e2;cases e2;exact ⟨u,r,.inr ⟨.inl hk,c,hc,hc'⟩⟩
   ·rw [Ex (Ne.symm hj)] at e2;obtain ⟨u',r',q⟩:=hl j y v' e1 e2 e3;refine ⟨u',r',?_⟩;rcases q with q|⟨k,c',e,z'⟩
    ·exact .inl q
    ·refine .inr ⟨k,c',e,z'.sameBut hs ?_⟩;rintro rfl;exact hj (mU hN e1 (I.ok.inj _ _ _ e hc▸hi))
  ·by_cases hcc:c'=c
   ·subst hcc;exact ⟨_,hc'⟩
   ·obtain ⟨w2,z2⟩:=I.cell y c' e;exact ⟨w2,z2.sameBut hs hcc⟩
  ·obtain ⟨e,n,ne,nf,d⟩:=I.pin p hp;refine ⟨(hs.2 p.1 ?_).trans e,n,ne,nf,d⟩;intro q;rw [q,hoc] at e;have q':oc=p.2:=EL e;exact d w' (by rw [←q'];exact hocd)
theorem f7 {M:Model} {A:Around} {E:Value->Shared->Prop} {i:Nat} {x:Str} {v:V} {u:Value} {Q:Unit->Shared->Prop} (I:Inv X pins σ H s) (hN:X.N.Nodup) (hi:X.N[i]?=some x) (hx:Loc X.env.scope x) (r:RelV v u)
  (h:∀s',Inv X pins (σ.set i (some v)) H s'->Q () s') (hf:X.fn x=true∨X.env.scope.names.lookup x=some .local:=by first|exact .inl rfl|exact .inr rfl|assumption):wpAny M A (storeName X.env x u) Q E s:=
 hV I hN hi hx r (fun s' I' _=>h s' I') hf
theorem Inv.B3 (I:Inv X pins σ H s) (ho:s'.os=s.os) (u:Un (frs X.stack) ch H H' s.heap s'.heap) (hok:HOk X.prog X.w H' s'.heap) (hg:AllBare s'.gens)
  (hch:∀b∈ch,(b∈X.ex∨X.s₀.heap.objs.size<=b)∧b≠X.env.locals∧(∀x c,X.env.cells.lookup x=some c->c≠b)∧∀p∈X.pn++pins,p.1≠b):Inv X pins σ H' s':=by
 obtain ⟨h',g',d',t',o'⟩:=s';have e:o'=s.os:=ho;subst e;exact I.call (g':=g') (t':=t') (d':=d') u hok hg hch
end
noncomputable abbrev XK:=Value->Option Addr->Hp->Prop
noncomputable abbrev St:=List (Option V)
noncomputable abbrev VK:=V->Hp->Prop
noncomputable abbrev TE:=St->Hp->VK->Prop
noncomputable abbrev TT:=St->Hp->(Bool->Hp->Prop)->Prop
noncomputable abbrev TA:=St->Hp->(List V->Hp->Prop)->Prop
structure Ends where
 nx:St->Hp->Prop
 rt:VK
 bk:St->Hp->Prop:=fun _ _=>False
 ct:St->Hp->Prop:=fun _ _=>False
noncomputable abbrev TS:=Ends->St->Hp->Prop
noncomputable def EP (X:Cx) (pins:List (Addr×Obj)) (σ:St) (Q:VK) (u:Value) (s':Shared):Prop:=∃v H',Inv X pins σ H' s'∧RelV v u∧Q v H'
noncomputable def TP (X:Cx) (pins:List (Addr×Obj)) (σ:St) (Q:Bool->Hp->Prop) (b:Bool) (s':Shared):Prop:=∃H',Inv X pins σ H' s'∧Q b H'
noncomputable def AP (X:Cx) (pins:List (Addr×Obj)) (σ:St) (Q:List V->Hp->Prop) (us:List Value) (s':Shared):Prop:=∃vs H',Inv X pins σ H' s'∧Vals vs us∧Q vs H'
noncomputable def SP (X:Cx) (pins:List (Addr×Obj)) (D:Ends) (f:Flow) (s':Shared):Prop:=
 match f with
 |.next=>∃σ' H',Inv X pins σ' H' s'∧D.nx σ' H'
 |.brk=>∃σ' H',Inv X pins σ' H' s'∧D.bk σ' H'
 |.cont=>∃σ' H',Inv X pins σ' H' s'∧D.ct σ' H'
 |.ret u=>∃v σ' H',Inv X pins σ' H' s'∧RelV v u∧D.rt v H'
noncomputable def PE (X:Cx) (e:Expr) (t:TE):Prop:=
 ∀(pins:List (Addr×Obj)) (s:Shared) (σ:St) (H:Hp) (Q:VK),Inv X pins σ H s->t σ H Q->wpAny (model X.prog X.w) X.A (eval e X.env) (EP X pins σ Q) X.xe s
noncomputable def PT (X:Cx) (e:Expr) (t:TT):Prop:=
 ∀(pins:List (Addr×Obj)) (s:Shared) (σ:St) (H:Hp) (Q:Bool->Hp->Prop),Inv X pins σ H s->t σ H Q->wpAny (model X.prog X.w) X.A (isTrue e X.env (eval e X.env)) (TP X pins σ Q) X.xe s
noncomputable def PW (X:Cx) (e:Expr) (t:TT):Prop:=
 ∀(whole:Sem Value) (pins:List (Addr×Obj)) (s:Shared) (σ:St) (H:Hp) (Q:Bool->Hp->Prop),Inv X pins σ H s->t σ H Q->wpAny (model X.prog X.w) X.A (isTrue e X.env whole) (TP X pins σ Q) X.xe s
theorem PW.pt {X:Cx} {e:Expr} {t:TT} (h:PW X e t):PT X e t:=h _
noncomputable def PA (X:Cx) (es:List Expr) (t:TA):Prop:=
 ∀(pos:Pos) (pins:List (Addr×Obj)) (s:Shared) (σ:St) (H:Hp) (Q:List V->Hp->Prop),Inv X pins σ H s->t σ H Q->wpAny (model X.prog X.w) X.A (spliced (backTo pos (starEach es X.env))) (AP X pins σ Q) X.xe s
noncomputable def PS (X:Cx) (st:Stmt) (t:TS):Prop:=
 ∀(pins:List (Addr×Obj)) (s:Shared) (σ:St) (H:Hp) (D:Ends),Inv X pins σ H s->t D σ H->wpAny (model X.prog X.w) X.A (exec st X.env) (SP X pins D) X.xe s
noncomputable def PSs (X:Cx) (st:List Stmt) (t:TS):Prop:=
 ∀(pins:List (Addr×Obj)) (s:Shared) (σ:St) (H:Hp) (D:Ends),Inv X pins σ H s->t D σ H->wpAny (model X.prog X.w) X.A (execs st X.env) (SP X pins D) X.xe s
theorem thn {α:Type} {t:Sem α} {Q Q':α->Shared->Prop} {M:Model} {A:Around} {E:Value->Shared->Prop} {s:Shared} (h:wpAny M A t Q E s) (hQ:∀a s,Q a s->Q' a s):wpAny M A t Q' E s:=AT h hQ fun _ _ x=>x
section
variable {X:Cx}
noncomputable def Eh (i:Nat):TE:=fun σ H Q=>∃v,σ[i]?=some (some v)∧Q v H
noncomputable def tC (v:V):TE:=fun _ H Q=>Q v H
theorem eB (hN:X.N[i]?=some x) (hv:Vis X.env.scope x) (hd: ~~~((x==("__debug__":Str))=false)) (hcd: ~~~((x==("__classdict__":Str))=false)):PE X (.Name x pos) (Eh i):=by
 intro pins s σ H Q I h;obtain ⟨v,e,h⟩:=h;obtain ⟨m,hn,hl⟩:=I.loc;obtain ⟨u,r,l⟩:=hl i x v hN e hv;have fin:EP X pins σ Q u s:=⟨v,H,I,r,h⟩
 rcases l with ⟨hk,hm⟩|⟨hk,c,hc,hcell⟩
 ·exact wpAny_Name (wpAny_loadName_local I.ok.kind hk hn hm fin) hd
 ·rcases hk with hk|hk
  ·exact wpAny_Name (wpAny_loadName_cell I.ok.kind hk hc hcell fin) hd
  ·exact wpAny_Name (wpAny_loadName_free I.ok.kind hk hc hcell fin hcd) hd
theorem A3 {i j pos}:PE X (.Constant (.int i) j pos) (tC (.int i)):=fun _ _ _ H _ I h=>wpAny_Constant_int ⟨.int i,H,I.tok _,⟨_,rfl⟩,h⟩
theorem Cy {b j pos}:PE X (.Constant (.bool b) j pos) (tC (.bl b)):=fun _ _ _ H _ I h=>Constant_bool ⟨.bl b,H,I,rfl,h⟩
theorem A4 {j pos}:PE X (.Constant .none j pos) (tC .non):=fun _ _ _ H _ I h=>Constant_none ⟨.non,H,I,rfl,h⟩
theorem A7 {x j pos}:PE X (.Constant (.str x) j pos) (tC (.str x)):=fun _ _ _ H _ I h=>Calls.Constant_str ⟨.str x,H,I.tok _,⟨_,rfl⟩,h⟩
noncomputable def Gl (X:Cx) (x:Str):Prop:=X.env.kindOf x=some .globalImplicit
theorem jZ {E:Value->Shared->Prop} {pins:List (Addr×Obj)} {s:Shared} {σ:St} {H:Hp} {x:Str} {u:Value} {pos:Pos} {Q:Value->Shared->Prop} (I:Inv X pins σ H s) (hg:Gl X x) (hm:X.mg x=some u) (h:Q u s)
  (hd: ~~~((x==("__debug__":Str))=false)):wpAny (model X.prog X.w) X.A (eval (.Name x pos) X.env) Q E s:=
 Calls.Name_function_global I.ok.kind hg (Calls.loadGlobal_global (by rw [I.ok.glob];exact I.mod.glob.keeps I.bk) hm h) hd
theorem ej {E:Value->Shared->Prop} {pins:List (Addr×Obj)} {s:Shared} {σ:St} {H:Hp} {x:Str} {u:Value} {pos:Pos} {Q:Value->Shared->Prop} (I:Inv X pins σ H s) (hg:Gl X x) (hm:X.mg x=none) (hv:bootBuiltins x=some u) (h:Q u s)
  (hn: ~~~(x≠"__name__")) (hd: ~~~((x==("__debug__":Str))=false)):wpAny (model X.prog X.w) X.A (eval (.Name x pos) X.env) Q E s:=by
 obtain ⟨mb,h1,h2⟩:=I.mod.blt;exact Calls.Name_function_global I.ok.kind hg (Calls.loadGlobal_builtin (by rw [I.ok.glob];exact I.mod.glob.keeps I.bk) hm (by rw [I.ok.blt];exact h1.keeps I.bk) ((h2 x hn).trans hv) h) hd
theorem oS (hg:Gl X x) (hm:X.mg x=some u) (r:RelV v u) (hd: ~~~((x==("__debug__":Str))=false)):PE X (.Name x pos) (tC v):=
 fun _ _ _ H _ I h=>jZ I hg hm ⟨v,H,I,r,h⟩ hd
theorem yg (hg:Gl X x) (hm:X.mg x=none) (hv:bootBuiltins x=some u) (r:RelV v u) (hn: ~~~(x≠"__name__")) (hd: ~~~((x==("__debug__":Str))=false)):PE X (.Name x pos) (tC v):=
 fun _ _ _ H _ I h=>ej I hg hm hv ⟨v,H,I,r,h⟩ hn hd
variable {a b:Expr} {ta tb:TE} {pos:Pos}
noncomputable def tB (t:TE):TT:=fun σ H Q=>t σ H fun x H1=>∃c,x=.bl c∧Q c H1
theorem Bi {e:Expr} {t:TE} (h:PE X e t) (he:∀whole,isTrue e X.env whole=(do let v←whole;standAt e.pos;holding [v] (truthy v)):=by intro _;rfl):PT X e (tB t):=by
 intro pins s σ H Q I hw;refine isTrue_plain (thn (h pins s σ H _ I hw) fun v s1 ⟨x,H1,I1,r1,q1⟩=>?_) (he _);obtain ⟨d,rfl,q⟩:=q1;cases r1;exact wpAny_truthy_bool ⟨H1,I1,q⟩
variable {tA tB':TT} {rest:List Expr}
noncomputable def D7 (t u:TT):TT:=fun σ H Q=>t σ H fun c H1=>if c=true then u σ H1 Q else Q false H1
noncomputable def tOr (t u:TT):TT:=fun σ H Q=>t σ H fun c H1=>if c=true then Q true H1 else u σ H1 Q
noncomputable def Eb (t:TT):TT:=fun σ H Q=>t σ H fun c H1=>Q (!c) H1
theorem yF (ha:PT X a tA):PW X (.BoolOp .And [a] pos) tA:=by
 intro wh pins s σ H Q I h;refine isTrue_and (thn (ha pins s σ H Q I h) fun c s1 e=>?_);cases c with
 |true=>exact isTrue_and_nil e
 |false=>exact e
theorem Bk (ha:PT X a tA):PW X (.BoolOp .Or [a] pos) tA:=by
 intro wh pins s σ H Q I h;refine isTrue_or (thn (ha pins s σ H Q I h) fun c s1 e=>?_);cases c with
 |false=>exact isTrue_or_nil e
 |true=>exact e
theorem sU (ha:PT X a tA) (hb:PW X (.BoolOp .And (b::rest) pos) tB'):PW X (.BoolOp .And (a::b::rest) pos) (D7 tA tB'):=by
 intro wh pins s σ H Q I h;refine isTrue_and (thn (ha pins s σ H _ I h) fun c s1 ⟨H1,I1,q1⟩=>?_);cases c with
 |true=>exact hb wh pins s1 σ H1 Q I1 q1
 |false=>exact ⟨H1,I1,q1⟩
theorem we (ha:PT X a tA) (hb:PW X (.BoolOp .Or (b::rest) pos) tB'):PW X (.BoolOp .Or (a::b::rest) pos) (tOr tA tB'):=by
 intro wh pins s σ H Q I h;refine isTrue_or (thn (ha pins s σ H _ I h) fun c s1 ⟨H1,I1,q1⟩=>?_);cases c with
 |true=>exact ⟨H1,I1,q1⟩
 |false=>exact hb wh pins s1 σ H1 Q I1 q1
theorem Bh (ha:PT X a tA):PT X (.UnaryOp .Not a pos) (Eb tA):=by
 intro pins s σ H Q I h;exact isTrue_not (ha pins s σ H (fun c H1=>Q (!c) H1) I h)
noncomputable def CN (ta tb:TE):TE:=fun σ H Q=>ta σ H fun x H1=>∃c,x=.bl c∧if c=true then tb σ H1 Q else Q (.bl false) H1
noncomputable def Ec (ta tb:TE):TE:=fun σ H Q=>ta σ H fun x H1=>∃c,x=.bl c∧if c=true then Q (.bl true) H1 else tb σ H1 Q
noncomputable def C1 (ta:TE):TE:=fun σ H Q=>ta σ H fun x H1=>∃c,x=.bl c∧Q (.bl (!c)) H1
theorem A6 {op} (h:PE X a t):PE X (.BoolOp op [a] pos) t:=fun pins s σ H Q I hw=>BoolOp_one (h pins s σ H Q I hw)
theorem sI (ha:PE X a ta) (hb:PE X (.BoolOp .And (b::rest) pos) tb):PE X (.BoolOp .And (a::b::rest) pos) (CN ta tb):=by
 intro pins s σ H Q I h;refine BoolOp_and (thn (ha pins s σ H _ I h) fun v s1 ⟨x,H1,I1,r1,q1⟩=>?_);obtain ⟨c,rfl,q1⟩:=q1;cases r1;refine wpAny_truthy_bool ?_;cases c with
 |true=>exact hb pins s1 σ H1 Q I1 q1
 |false=>exact ⟨.bl false,H1,I1,rfl,q1⟩
theorem wa (ha:PE X a ta) (hb:PE X (.BoolOp .Or (b::rest) pos) tb):PE X (.BoolOp .Or (a::b::rest) pos) (Ec ta tb):=by
 intro pins s σ H Q I h;refine BoolOp_or (thn (ha pins s σ H _ I h) fun v s1 ⟨x,H1,I1,r1,q1⟩=>?_);obtain ⟨c,rfl,q1⟩:=q1;cases r1;refine wpAny_truthy_bool ?_;cases c with
 |false=>exact hb pins s1 σ H1 Q I1 q1
 |true=>exact ⟨.bl true,H1,I1,rfl,q1⟩
theorem A5 (ha:PE X a ta):PE X (.UnaryOp .Not a pos) (C1 ta):=by
 intro pins s σ H Q I h;refine UnaryOp_ (thn (ha pins s σ H _ I h) fun v s1 ⟨x,H1,I1,r1,q1⟩=>?_);obtain ⟨c,rfl,q1⟩:=q1;cases r1;exact not_of (wpAny_truthy_bool ⟨.bl (!c),H1,I1,rfl,q1⟩)
noncomputable def tIf (t:TT) (ta tb:TE):TE:=fun σ H Q=>t σ H fun c H1=>if c=true then ta σ H1 Q else tb σ H1 Q
theorem mX {c:Expr} (hc:PT X c tA) (ha:PE X a ta) (hb:PE X b tb):PE X (.IfExp c a b pos) (tIf tA ta tb):=by
 intro pins s σ H Q I h;refine wpAny_IfExp (thn (hc pins s σ H _ I h) fun d s1 ⟨H1,I1,q1⟩=>?_);cases d with
 |true=>exact ha pins s1 σ H1 Q I1 q1
 |false=>exact hb pins s1 σ H1 Q I1 q1
end
noncomputable def SqL (K:PySem.W.Frag) (H:Hp) (a:Addr) (xs:List V):Prop:=
 Rd H a (.lst xs)∨
  ∃(o:Obj) (its:Array Value) (n:Nat),K.lookup a=some o∧o.cls=.type "list"∧o.dict=none∧o.data=.seq its n∧its.size<=sizeLine∧Vals xs its.toList
noncomputable def SqT (K:PySem.W.Frag) (H:Hp) (a:Addr) (xs:List V):Prop:=
 Rd H a (.tup xs)∨
  ∃(o:Obj) (its:Array Value) (n:Nat),K.lookup a=some o∧o.cls=.type "tuple"∧o.data=.seq its n∧its.size<=sizeLine∧Vals xs its.toList
noncomputable def Dh:Value->Option V
 |.none=>some .non
 |.bool b=>some (.bl b)
 |.int i _=>some (.int i)
 |.str x _=>some (.str x)
 |.bytes b _=>some (.byt b)
 |.float b _=>some (.flt b)
 |.ref a=>some (.ref a)
 |.type n=>some (.ty n)
 |_=>none
theorem RelV.abs (r:RelV x u):Dh u=some x:=by
 cases x with
 |non=>cases r;rfl
 |bl _=>cases r;rfl
 |int _=>obtain ⟨t,rfl⟩:=r;rfl
 |str _=>obtain ⟨t,rfl⟩:=r;rfl
 |byt _=>obtain ⟨t,rfl⟩:=r;rfl
 |flt _=>obtain ⟨t,rfl⟩:=r;rfl
 |ref _=>cases r;rfl
 |ty _=>cases r;rfl
theorem RelV.inj {x y:V} {u:Value} (r:RelV x u) (q:RelV y u):x=y:=EL (r.abs.symm.trans q.abs)
theorem Vals.inj:∀{xs ys:List V} {us:List Value},Vals xs us->Vals ys us->xs=ys
 |_,_,_,.nil,.nil=>rfl
 |_,_,_,.cons r t,.cons r' t'=>by rw [r.inj r',Vals.inj t t']
section
variable {X:Cx} {pins:List (Addr×Obj)} {σ:St} {H:Hp} {s:Shared} {a:Addr} {xs ys:List V}
theorem Inv.list (I:Inv X pins σ H s) (h:SqL X.K H a xs):∃its:List Value,Vals xs its∧PlainL s.heap a its.toArray∧xs.length<=sizeLine:=by
 rcases h with h|⟨o,its,n,hk,hc,hd,hs,hz,r⟩
 ·obtain ⟨z,its,n,r,e⟩:=h.ok I.hok;exact ⟨its,r,⟨_,n,e,rfl,rfl,rfl⟩,z⟩
 ·refine ⟨its.toList,r,⟨o,n,I.kIn a o hk,hc,hd,by simpa using hs⟩,?_⟩;have e:=r.length;simp only [Array.length_toList] at e;omega
theorem Inv.tuple (I:Inv X pins σ H s) (h:SqT X.K H a xs):∃its:List Value,Vals xs its∧IsTup s.heap a its.toArray∧xs.length<=sizeLine:=by
 rcases h with h|⟨o,its,n,hk,hc,hs,hz,r⟩
 ·obtain ⟨z,its,r,p⟩:=h.ok I.hok;exact ⟨its,r,p,z⟩
 ·refine ⟨its.toList,r,⟨o,I.kIn a o hk,hc,n,by simpa using hs⟩,?_⟩;have e:=r.length;simp only [Array.length_toList] at e;omega
theorem Inv.mO (I:Inv X pins σ H s) (h:SqL X.K H a xs) (h':SqL X.K H a ys):xs=ys:=by
 obtain ⟨its,r,⟨o,n,e,_,_,d⟩,_⟩:=I.list h;obtain ⟨its',r',⟨o',n',e',_,_,d'⟩,_⟩:=I.list h';rw [e] at e';cases e';rw [d] at d';injection d' with d1 _;have:its=its':=by simpa using congrArg Array.toList d1
 subst this;exact r.inj r'
theorem Inv.lh (I:Inv X pins σ H s) (h:SqT X.K H a xs) (h':SqT X.K H a ys):xs=ys:=by
 obtain ⟨its,r,⟨o,e,_,n,d⟩,_⟩:=I.tuple h;obtain ⟨its',r',⟨o',e',_,n',d'⟩,_⟩:=I.tuple h';rw [e] at e';cases e';rw [d] at d';injection d' with d1 _;have:its=its':=by simpa using congrArg Array.toList d1
 subst this;exact r.inj r'
end
noncomputable abbrev Cx.eX (X:Cx) (E:Value->Shared->Prop):Cx:={X with xe:=E}
noncomputable abbrev Cx.nox (X:Cx):Cx:=X.eX fun _ _=>False
theorem Cx.Ok.eX {X:Cx} (ok:X.Ok) (E:Value->Shared->Prop):(X.eX E).Ok:=
 ⟨ok.mod,ok.kind,ok.glob,ok.blt,ok.above,ok.inj,ok.has,ok.cab,ok.hd,ok.frames,ok.stk,ok.exf,ok.bs,ok.bsz,ok.iW,ok.mC,ok.c_,ok.frf⟩
theorem Cx.Ok.dF {X:Cx} {E:Value->Shared->Prop} (ok:(X.eX E).Ok):X.Ok:=
 ⟨ok.mod,ok.kind,ok.glob,ok.blt,ok.above,ok.inj,ok.has,ok.cab,ok.hd,ok.frames,ok.stk,ok.exf,ok.bs,ok.bsz,ok.iW,ok.mC,ok.c_,ok.frf⟩
section
variable {X:Cx} {pins:List (Addr×Obj)} {σ:St} {H:Hp} {s:Shared} {E:Value->Shared->Prop}
theorem Inv.eX (I:Inv X pins σ H s) (E:Value->Shared->Prop):Inv (X.eX E) pins σ H s:=⟨I.ok.eX E,I.os,I.bare,I.base,I.loc,I.cell,I.free,I.cV,I.pin,I.hok,I.len⟩
theorem Inv.dF (I:Inv (X.eX E) pins σ H s):Inv X pins σ H s:=⟨I.ok.dF,I.os,I.bare,I.base,I.loc,I.cell,I.free,I.cV,I.pin,I.hok,I.len⟩
theorem SP.dF (h:SP (X.eX E) pins D f s'):SP X pins D f s':=by
 cases f with
 |next=>obtain ⟨σ',H',I,q⟩:=h;exact ⟨σ',H',I.dF,q⟩
 |brk=>obtain ⟨σ',H',I,q⟩:=h;exact ⟨σ',H',I.dF,q⟩
 |cont=>obtain ⟨σ',H',I,q⟩:=h;exact ⟨σ',H',I.dF,q⟩
 |ret u=>obtain ⟨v,σ',H',I,r,q⟩:=h;exact ⟨v,σ',H',I.dF,r,q⟩
theorem PSs.nox {st:List Stmt} {t:TS} (h:PSs X.nox st t):PSs X st t:=fun pins s σ H D I hw=>
 AT (h pins s σ H D (I.eX _) hw) (fun _ _ q=>q.dF) fun _ _ z=>False.elim z
end
section
variable {X:Cx} {st:Stmt} {rest:List Stmt} {t u:TS} {e:Expr} {te:TE} {pos:Pos}
noncomputable def qC:TS:=fun D σ H=>D.nx σ H
noncomputable def Ef (t u:TS):TS:=fun D σ H=>t {D with nx:=u D} σ H
theorem yC:PSs X [] qC:=fun _ _ σ H _ I h=>wpAny_execs_nil ⟨σ,H,I,h⟩
theorem m_ (h1:PS X st t) (h2:PSs X rest u):PSs X (st::rest) (Ef t u):=by
 intro pins s σ H D I h;refine wpAny_execs_cons (thn (h1 pins s σ H {D with nx:=u D} I h) fun f s1 q=>?_);cases f with
 |next=>
  obtain ⟨σ',H',I',q⟩:=q;exact h2 pins s1 σ' H' D I' q
 |ret v=>exact q
 |brk=>exact q
 |cont=>exact q
theorem yz:PS X (.Pass pos) qC:=fun _ _ σ H _ I h=>wpAny_Pass ⟨σ,H,I,h⟩
theorem Inv.quiet {pins:List (Addr×Obj)} {σ:St} {H:Hp} {s:Shared} (I:Inv X pins σ H s):interactive X.env=false:=by simp [interactive,I.ok.kind]
theorem Bd {x j pos pos'}:PS X (.Expr (.Constant (.str x) j pos) pos') qC:=fun _ s σ H _ I h=>wpAny_Expr (Calls.Constant_str (show SP X _ _ .next {s with toks:=s.toks+1} from ⟨σ,H,I.tok _,h⟩)) I.quiet
noncomputable def CU (te:TE):TS:=fun D σ H=>te σ H fun _ H1=>D.nx σ H1
theorem ki (he:PE X e te) (hs:(swapsWith e none pos.line X.env=pure false)⁻¹):PS X (.Expr e pos) (CU te):=by
 intro pins s σ H D I h;exact wpAny_Expr_any (thn (he pins s σ H _ I h) fun v s1 ⟨x,H1,I1,r1,q1⟩=>⟨σ,H1,I1,q1⟩) I.quiet hs
noncomputable def Ee (te:TE):TS:=fun D σ H=>te σ H D.rt
theorem m8 (he:PE X e te):PS X (.Return (some e) pos) (Ee te):=by
 intro pins s σ H D I h;exact wpAny_Return_some (thn (he pins s σ H _ I h) fun v s1 ⟨x,H1,I1,r1,q1⟩=>⟨x,σ,H1,I1,r1,q1⟩)
noncomputable def C5:TS:=fun D _ H=>D.rt .non H
theorem yB:PS X (.Return none pos) C5:=fun _ _ σ H _ I h=>wpAny_Return_none ⟨.non,σ,H,I,rfl,h⟩
noncomputable def D' (c:TT) (t u:TS):TS:=fun D σ H=>c σ H fun b H1=>if b=true then t D σ H1 else u D σ H1
theorem CF {c:Expr} {a b:List Stmt} {tc:TT} (hc:PT X c tc) (ha:PSs X a t) (hb:PSs X b u):PS X (.If c a b pos) (D' tc t u):=by
 intro pins s σ H D I h;refine wpAny_If (thn (hc pins s σ H _ I h) fun d s1 ⟨H1,I1,q1⟩=>?_);cases d with
 |true=>exact ha pins s1 σ H1 D I1 q1
 |false=>exact hb pins s1 σ H1 D I1 q1
noncomputable def Bz:TS:=fun _ _ _=>False
theorem sR:PSs X sts Bz:=fun _ _ _ _ _ _ h=>h.elim
end
noncomputable abbrev TG:=V->St->Hp->(St->Hp->Prop)->Prop
noncomputable abbrev TGs:=List V->St->Hp->(St->Hp->Prop)->Prop
noncomputable def PG (X:Cx) (target:Expr) (t:TG):Prop:=
 ∀(pins:List (Addr×Obj)) (s:Shared) (σ:St) (H:Hp) (v:V) (u:Value) (Q:St->Hp->Prop),Inv X pins σ H s->RelV v u->t v σ H Q->
  wpAny (model X.prog X.w) X.A (assign target X.env u) (fun _ s'=>∃σ' H',Inv X pins σ' H' s'∧Q σ' H') X.xe s
noncomputable def PGs (X:Cx) (ts:List Expr) (t:TGs):Prop:=
 ∀(pins:List (Addr×Obj)) (s:Shared) (σ:St) (H:Hp) (vs:List V) (us:List Value) (Q:St->Hp->Prop),Inv X pins σ H s->Vals vs us->t vs σ H Q->
  wpAny (model X.prog X.w) X.A (assignInOrder ((assignEach ts X.env).map (·.2)) us) (fun _ s'=>∃σ' H',Inv X pins σ' H' s'∧Q σ' H') X.xe s
noncomputable abbrev Dg:=V->V->V->Hp->(Hp->Prop)->Prop
noncomputable def Df (X:Cx) (t:Dg):Prop:=
 ∀(pins:List (Addr×Obj)) (s:Shared) (σ:St) (H:Hp) (o i v:V) (ov iv u:Value) (Q:Hp->Prop),Inv X pins σ H s->RelV o ov->RelV i iv->RelV v u->t o i v H Q->
  wpAny (model X.prog X.w) X.A (setItem ov iv u) (fun _ s'=>∃H',Inv X pins σ H' s'∧Q H') X.xe s
section
variable {X:Cx} {pos:Pos}
noncomputable def dR (i:Nat):TG:=fun v σ H Q=>Q (σ.set i (some v)) H
theorem yn (hN:X.N.Nodup) (hi:X.N[i]?=some x) (hx:Loc X.env.scope x) (hf:X.fn x=true∨X.env.scope.names.lookup x=some .local:=by first|exact .inl rfl|exact .inr rfl|assumption):PG X (.Name x pos) (dR i):=by
 intro pins s σ H v u Q I r h;exact wpAny_assign_Name (f7 I hN hi hx r (fun s' I'=>⟨_,H,I',h⟩) hf)
noncomputable def Dw:TGs:=fun vs σ H Q=>vs=[]∧Q σ H
noncomputable def Ce (t:TG) (u:TGs):TGs:=fun vs σ H Q=>∃v r,vs=v::r∧t v σ H fun σ' H'=>u r σ' H' Q
theorem yo:PGs X [] Dw:=by
 intro pins s σ H vs us Q I r h;obtain ⟨e,h⟩:=h;subst e;cases r;exact assignInOrder_nil ⟨σ,H,I,h⟩
theorem uX {e:Expr} {es:List Expr} {t:TG} {u:TGs} (h1:PG X e t) (h2:PGs X es u)
  (hs:((assignEach (e::es) X.env).map (·.2)=assign e X.env::(assignEach es X.env).map (·.2))⁻¹):PGs X (e::es) (Ce t u):=by
 intro pins s σ H vs us Q I r h;obtain ⟨v,vr,e1,h⟩:=h;subst e1;cases r with
 |cons r rr=>
  rw [hs];refine assignInOrder_cons (thn (h1 pins s σ H _ _ _ I r h) fun _ s1 ⟨σ1,H1,I1,q1⟩=>?_);exact h2 pins s1 σ1 H1 _ _ Q I1 rr q1
noncomputable def Dx (K:PySem.W.Frag) (n:Nat) (t:TGs):TG:=fun v σ H Q=>∃a xs,v=.ref a∧SqT K H a xs∧xs.length=n∧t xs σ H Q
theorem A9 (hc:X.calm=true) (h:PGs X es t)
  (hn:((assignEach es X.env).length=n)⁻¹) (hst:((assignEach es X.env).findIdx? (·.1)=none)⁻¹):PG X (.Tuple es k pos) (Dx X.K n t):=by
 intro pins s σ H v u Q I r hw;obtain ⟨a,xs,e1,hq,hl,hw⟩:=hw;subst e1;cases r;obtain ⟨its,rv,ht,hz⟩:=I.tuple hq;refine assign_Tuple_tuple (I.ok.hd hc) ht (by simp [hn,←hl,rv.length]) hst fun h' hx=>?_;have I1:Inv X pins σ H {s with heap:=h'}:=I.kept (t':=s.toks) fun b o e=>hx b o (EF (Cl e)) e;exact h pins _ σ H xs _ Q I1 (by simpa using rv) hw
noncomputable def kq (te:TE) (g:TG):TS:=fun D σ H=>te σ H fun x H1=>g x σ H1 D.nx
theorem Bc {tg e:Expr} {te:TE} {g:TG} (he:PE X e te) (hg:PG X tg g) (hs:(swapsWithSole [tg] e pos.line X.env=pure false)⁻¹) (hw:(swappedStores [tg] e X.env=pure none)⁻¹)
  (h1:((assignEach [tg] X.env).map (·.2)=[assign tg X.env])⁻¹):PS X (.Assign [tg] e pos) (kq te g):=by
 intro pins s σ H D I h;refine wpAny_Assign_stores (thn (he pins s σ H _ I h) fun v s1 ⟨x,H1,I1,r1,q1⟩=>?_) hs hw;rw [h1];exact thn (hg pins s1 σ H1 x v _ I1 r1 q1) fun _ s2 q=>q
theorem m9 {i:Nat} {x:Str} {e:Expr} {te:TE} {pos':Pos} (hN:X.N.Nodup) (hi:X.N[i]?=some x) (hx:Loc X.env.scope x) (he:PE X e te) (hs:(swapsWith e (some (.Name x pos')) pos.line X.env=pure false)⁻¹) (hf:X.fn x=true∨X.env.scope.names.lookup x=some .local:=by first|exact .inl rfl|exact .inr rfl|assumption):
  PS X (.Assign [.Name x pos'] e pos) (kq te (dR i)):=by
 intro pins s σ H D I h;refine wpAny_Assign_Name (thn (he pins s σ H _ I h) fun v s1 ⟨y,H1,I1,r1,q1⟩=>?_) hs;exact f7 I1 hN hi hx r1 (fun s2 I2=>⟨_,H1,I2,q1⟩) hf
noncomputable def Ed (i j:Nat) (ta:TA):TS:=fun D σ H=>ta σ H fun vs H1=>∃v w,vs=[v,w]∧D.nx ((σ.set i (some v)).set j (some w)) H1
theorem Bg {i j:Nat} {x y:Str} {a b:Expr} {ta:TA} {px py pt:Pos} {kt k2 pt2} (hc:X.calm=true) (hN:X.N.Nodup) (hi:X.N[i]?=some x) (hj:X.N[j]?=some y) (hij:i≠j)
  (hx:X.env.scope.names.lookup x=some .local) (hy:X.env.scope.names.lookup y=some .local) (ha:PA X [a,b] ta)
  (hw:swappedStores [.Tuple [.Name x px,.Name y py] kt pt] (.Tuple [a,b] k2 pt2) X.env=pure (some [x,y]))
  (hs:(swapsWithSole [.Tuple [.Name x px,.Name y py] kt pt] (.Tuple [a,b] k2 pt2) pos.line X.env=pure false)⁻¹):
  PS X (.Assign [.Tuple [.Name x px,.Name y py] kt pt] (.Tuple [a,b] k2 pt2) pos) (Ed i j ta):=by
 intro pins s σ H D I h;rw [exec_Assign_arm];refine At (wpAny_standAt ?_);rw [hs];refine At (AC ?_);rw [if_neg (by decide)];refine At (Tuple_ (thn (ha _ pins s σ H _ I h) fun us s1 ⟨vs,H1,I1,r1,q1⟩=>?_));obtain ⟨v,w,e1,q1⟩:=q1;subst e1;obtain ⟨u1,u2,rfl,rv,rw'⟩:∃u1 u2,us=[u1,u2]∧RelV v u1∧RelV w u2:=by
  cases r1 with
  |cons p q=>
   cases q with
   |cons p' q'=>
    cases q';exact ⟨_,_,rfl,p,p'⟩
 refine wpAny_newObj_type ?_ (by show 2<=sizeLine;decide);have I2:Inv X pins σ H1 {s1 with heap:=s1.heap.push {cls:=.type "tuple",data:=.seq [u1,u2].toArray}}:=I1.kept (t':=s1.toks) fun b o e=>BT _ e;rw [hw];refine At (AC ?_);show wpAny (model X.prog X.w) X.A (do rule "assign.swapped-stores";let items←unpackItems (.ref s1.heap.objs.size) 2 none;assignInOrder [fun v=>bindName X.env y v,fun v=>bindName X.env x v] items.reverse;pure Flow.next) _ _ _;refine At (wpAny_rule (At (unpackItems_tuple (items:=#[u1,u2]) (I.ok.hd hc) (IsTup.new s1.heap _) fun h' hx'=>?_)));have I3:=I2.kept (h':=h') (t':=s1.toks) fun b o e=>hx' b o (EF (Cl e)) e;show wpAny _ _ (assignInOrder [fun v=>bindName X.env y v,fun v=>bindName X.env x v] [u2,u1]>>=fun _=>pure Flow.next) _ _ _;refine At (assignInOrder_cons (wpAny_bindName (f7 I3 hN hj (.inl hy) rw' (fun s2 I4=>?_) (.inr hy))));refine assignInOrder_cons (wpAny_bindName (f7 I4 hN hi (.inl hx) rv (fun s3 I5=>assignInOrder_nil (AC ?_)) (.inr hx)));rw [List.set_comm _ _ (Ne.symm hij)] at I5;exact ⟨_,H1,I5,q1⟩
end
section
variable {X:Cx} {pos:Pos}
noncomputable def BB (c:TT) (tb:TS):TS:=fun D σ H=>∃W:Nat->St->Hp->Prop,(∃m,W m σ H)∧∀m σ H,W m σ H->
 c σ H fun b H1=>if b=true then ∃N:St->Hp->Prop,(∀σ' H',N σ' H'->∃m',m'<m∧W m' σ' H')∧tb {D with nx:=N,ct:=N,bk:=D.nx} σ H1 else D.nx σ H1
theorem u7 {c:Expr} {body:List Stmt} {tc:TT} {tb:TS} (hp:PassesOwn (model X.prog X.w) X.A X.env X.xe) (hc:PT X c tc) (hb:PSs X body tb):PS X (.While c body [] pos) (BB tc tb):=by
 intro pins s σ H D I h;obtain ⟨W,⟨m0,w0⟩,turn⟩:=h;refine wpAny_While (codeAny_whileLoop (fun n s'=>∃σ' H',Inv X pins σ' H' s'∧W n σ' H') ?_ m0 ⟨σ,H,I,w0⟩);rintro n s1 ⟨σ1,H1,I1,w1⟩;refine wpAny_passesOwn hp (thn (hc pins s1 σ1 H1 _ I1 (turn n σ1 H1 w1)) fun b s2 ⟨H2,I2,q2⟩=>?_);cases b with
 |true=>
  obtain ⟨N,hN,q2⟩:=q2;rw [if_pos rfl];refine wpAny_passesOwn hp (thn (hb pins s2 σ1 H2 _ I2 q2) fun f s3 q3=>?_);cases f with
  |next=>
   obtain ⟨σ3,H3,I3,n3⟩:=q3;obtain ⟨m',hm,w3⟩:=hN σ3 H3 n3;exact ⟨m',hm,σ3,H3,I3,w3⟩
  |cont=>
   obtain ⟨σ3,H3,I3,n3⟩:=q3;obtain ⟨m',hm,w3⟩:=hN σ3 H3 n3;exact ⟨m',hm,σ3,H3,I3,w3⟩
  |brk=>exact q3
  |ret v=>exact q3
 |false=>
  rw [if_neg EK];exact wpAny_execs_nil ⟨σ1,H2,I2,q2⟩
end
structure It where
 go:Nat->Hp->Prop
 yld:Nat->Hp->V->Hp->Prop
 stop:Nat->Hp->Prop
noncomputable def bh (X:Cx) (pins:List (Addr×Obj)) (H:Hp) (b:Addr):Prop:=
 H b=none∧b≠X.env.locals∧b∉X.fs∧(b∈X.ex∨X.s₀.heap.objs.size<=b)∧(∀x c,X.env.cells.lookup x=some c->c≠b)∧∀p∈X.pn++pins,p.1≠b
theorem Inv.fI {X:Cx} {pins:List (Addr×Obj)} {σ:St} {H H':Hp} {s:Shared} {b:Addr} (I:Inv X pins σ H s) (hb:s.heap.objs.size<=b) (hn:H' b=none):bh X pins H' b:=by
 refine ⟨hn,Nat.ne_of_gt (EC I.lt hb),I.AJ hb,.inr (EE I.sz hb),fun x c e z=>?_,fun p hp z=>?_⟩
 ·obtain ⟨v,q⟩:=I.cell x c e;exact absurd (EC q.lt (by rw [z];exact hb)) (Nat.lt_irrefl _)
 ·exact absurd (EC (Cl (I.pin p hp).1) (by rw [z];exact hb)) (Nat.lt_irrefl _)
structure Turn (P:Program) (w:World) (K:PySem.W.Frag) (tg:Expr) (J:It) (fp:List Addr) (it:Addr) (tn:Nat->Heap->Prop):Prop where
 mem:it∈fp
 obj:∀i h,tn i h->∀b∈fp,∃o,h.get? b=some o∧∀v,o.data≠.cell v
 keep:∀i h h',tn i h->(∀b∈fp,∀o,h.get? b=some o->h'.get? b=some o)->tn i h'
 item:∀(X:Cx),X.prog=P->X.w=w->X.K=K->X.calm=true->∀(i:Nat) (pins:List (Addr×Obj)) (s:Shared) (σ:St) (H:Hp) (E:Value->Shared->Prop),Inv X pins σ H s->(∀b∈fp,bh X pins H b)->tn i s.heap->J.go i H->
  wpAny (model P w) X.A (pyNext (.ref it)) (fun r s1=>∃u,r=some u∧
   wpAny (model P w) X.A (letOwnedTupleGo tg (.ref it) u) (fun _ s2=>∃x H',Inv X pins σ H' s2∧RelV x u∧J.yld i H x H'∧tn (i+1) s2.heap∧∀b∈fp,H' b=none) E s1) E s
 done:∀(X:Cx),X.prog=P->X.w=w->X.K=K->X.calm=true->∀(i:Nat) (pins:List (Addr×Obj)) (s:Shared) (σ:St) (H:Hp) (E:Value->Shared->Prop),Inv X pins σ H s->(∀b∈fp,bh X pins H b)->tn i s.heap->J.stop i H->
  wpAny (model P w) X.A (pyNext (.ref it)) (fun r s1=>r=none∧Inv X pins σ H s1) E s
 self:∀(A:Around) (i:Nat) (s:Shared) (Q:Value->Shared->Prop) (E:Value->Shared->Prop),tn i s.heap->Q (.ref it) s->wpAny (model P w) A (pyIter (.ref it)) Q E s
noncomputable abbrev TI:=St->Hp->(It->Hp->Prop)->Prop
noncomputable def PIE (X:Cx) (pins:List (Addr×Obj)) (σ:St) (tg:Expr) (R:It->Hp->Prop) (itv:Value) (s2:Shared):Prop:=
 ∃(it:Addr) (fp:List Addr) (tn:Nat->Heap->Prop) (J:It) (H':Hp),itv=.ref it∧Inv X pins σ H' s2∧Turn X.prog X.w X.K tg J fp it tn∧tn 0 s2.heap∧(∀b∈fp,bh X pins H' b)∧R J H'
noncomputable def PI (X:Cx) (tg iter:Expr) (wi:TI):Prop:=
 ∀(pins:List (Addr×Obj)) (s:Shared) (σ:St) (H:Hp) (R:It->Hp->Prop),Inv X pins σ H s->wi σ H R->
  wpAny (model X.prog X.w) X.A (eval iter X.env) (fun v s1=>wpAny (model X.prog X.w) X.A (pyIter v) (PIE X pins σ tg R) X.xe s1) X.xe s
theorem lL (ho:s.heap.get? it=some o) (hc:o.cls=.type n) (hd:o.data=.fields vs)
  (hn:["enumerate","zip","dict_itemiterator","dict_reverseitemiterator","odict_iterator","itertools.zip_longest","itertools.pairwise"].contains n=false) (hQ:Q () s):wpAny M A (letOwnedTupleGo tg (.ref it) u) Q E s:=by
 unfold letOwnedTupleGo;cases tg<;>first
  |exact AC hQ
  |(cases u<;>first
    |exact AC hQ
    |(refine At (wpAny_load ho ?_)
      rw [hc,hd];show wpAny M A (if (["enumerate","zip","dict_itemiterator","dict_reverseitemiterator","odict_iterator","itertools.zip_longest","itertools.pairwise"].contains n&&vs[0]?==some (rawInt _))=true then _ else _) Q E s;rw [if_neg (by intro h;rw [hn,Bool.false_and] at h;cases h)];exact AC hQ))
noncomputable def Itl (K:PySem.W.Frag) (a:Addr):It:=
 ⟨fun i H=>∃xs x,SqL K H a xs∧xs[i]?=some x,fun i H x H'=>H'=H∧∀xs,SqL K H a xs->xs[i]?=some x,fun i H=>∃xs,SqL K H a xs∧xs.length<=i⟩
noncomputable def Itt (K:PySem.W.Frag) (a:Addr):It:=
 ⟨fun i H=>∃xs x,SqT K H a xs∧xs[i]?=some x,fun i H x H'=>H'=H∧∀xs,SqT K H a xs->xs[i]?=some x,fun i H=>∃xs,SqT K H a xs∧xs.length<=i⟩
noncomputable def Itr (lo:Int) (n:Nat):It:=⟨fun i _=>i<n,fun i H x H'=>H'=H∧x=.int (lo+i),fun i _=>n<=i⟩
theorem tj {P:Program} {w:World} {K:PySem.W.Frag} {tg:Expr} (a it:Addr):Turn P w K tg (Itl K a) [it] it (fun i h=>h.IsListIter it a i) where
 mem:=by simp
 obj:=fun i h st b hb=>by
  have e:b=it:=by simpa using hb
  subst e;obtain ⟨o,e,c,d⟩:=st;exact ⟨o,e,fun v z=>by rw [d] at z;cases z⟩
 keep:=fun i h h' st k=>st.at fun o e=>k it (by simp) o e
 item:=by
  intro X hP hw hK hc i pins s σ H E I hf st hg;subst hP hw hK;obtain ⟨xs,x,hq,hx⟩:=hg;obtain ⟨its,rv,p,hz⟩:=I.list hq;obtain ⟨u,hu,ru⟩:=rv.get hx;obtain ⟨f0,f1,f2,f3,f4,f5⟩:=hf it (by simp);refine wpAny_pyNext_list_item st p.isList (x:=u) (by simpa using hu) fun h' st' sb=>?_;have I1:Inv X pins σ H {s with heap:=h'}:=I.turned (t':=s.toks) (fun b o hb e=>(sb.2 b hb).trans e) f0 f1 f3 f4 f5;obtain ⟨o,e,c,d⟩:=id st';exact ⟨u,rfl,lL (s:={s with heap:=h'}) e c d (by decide) ⟨x,H,I1,ru,⟨rfl,fun ys hy=>by rw [I.mO hy hq];exact hx⟩,st',fun b hb=>(hf b hb).1⟩⟩
 done:=by
  intro X hP hw hK hc i pins s σ H E I hf st hg;subst hP hw hK;obtain ⟨xs,hq,hx⟩:=hg;obtain ⟨its,rv,p,hz⟩:=I.list hq;obtain ⟨f0,f1,f2,f3,f4,f5⟩:=hf it (by simp);have hl:=rv.length;exact wpAny_pyNext_list_end (I.ok.hd hc) st p.isList (by simp;omega) fun h' eb=>⟨rfl,I.turned (t':=s.toks) (fun b o hb e=>eb b o hb e) f0 f1 f3 f4 f5⟩
 self:=fun _ _ _ _ _ st h=>wpAny_pyIter_listiter st h
theorem qF {P:Program} {w:World} {K:PySem.W.Frag} {tg:Expr} (a it:Addr):Turn P w K tg (Itt K a) [it] it (fun i h=>h.IsTupleIter it a i) where
 mem:=by simp
 obj:=fun i h st b hb=>by
  have e:b=it:=by simpa using hb
  subst e;obtain ⟨o,e,c,d⟩:=st;exact ⟨o,e,fun v z=>by rw [d] at z;cases z⟩
 keep:=fun i h h' st k=>st.at fun o e=>k it (by simp) o e
 item:=by
  intro X hP hw hK hc i pins s σ H E I hf st hg;subst hP hw hK;obtain ⟨xs,x,hq,hx⟩:=hg;obtain ⟨its,rv,p,hz⟩:=I.tuple hq;obtain ⟨u,hu,ru⟩:=rv.get hx;obtain ⟨f0,f1,f2,f3,f4,f5⟩:=hf it (by simp);refine wpAny_pyNext_tuple_item st (show s.heap.IsTuple a its.toArray from p) (x:=u) (by simpa using hu) fun h' st' sb=>?_;have I1:Inv X pins σ H {s with heap:=h'}:=I.turned (t':=s.toks) (fun b o hb e=>(sb.2 b hb).trans e) f0 f1 f3 f4 f5;obtain ⟨o,e,c,d⟩:=id st';exact ⟨u,rfl,lL (s:={s with heap:=h'}) e c d (by decide) ⟨x,H,I1,ru,⟨rfl,fun ys hy=>by rw [I.lh hy hq];exact hx⟩,st',fun b hb=>(hf b hb).1⟩⟩
 done:=by
  intro X hP hw hK hc i pins s σ H E I hf st hg;subst hP hw hK;obtain ⟨xs,hq,hx⟩:=hg;obtain ⟨its,rv,p,hz⟩:=I.tuple hq;obtain ⟨f0,f1,f2,f3,f4,f5⟩:=hf it (by simp);have hl:=rv.length;exact wpAny_pyNext_tuple_end (I.ok.hd hc) st (show s.heap.IsTuple a its.toArray from p) (by simp;omega) fun h' eb=>⟨rfl,I.turned (t':=s.toks) (fun b o hb e=>eb b o hb e) f0 f1 f3 f4 f5⟩
 self:=fun _ _ _ _ _ st h=>wpAny_pyIter_tupleiter st h
theorem qE {P:Program} {w:World} {K:PySem.W.Frag} {tg:Expr} (it:Addr) (lo:Int) (n:Nat):Turn P w K tg (Itr lo n) [it] it (fun i h=>IsRangeIter h it (lo+(i:Nat)*1) ((n:Int) - (i:Nat)) 1) where
 mem:=by simp
 obj:=fun i h st b hb=>by
  have e:b=it:=by simpa using hb
  subst e;exact ⟨_,st,fun v z=>by
   have z':Data.fields _=Data.cell v:=z;cases z'⟩
 keep:=fun i h h' st k=>k it (by simp) _ st
 item:=by
  intro X hP hw hK hc i pins s σ H E I hf st hg;subst hP hw hK;obtain ⟨f0,f1,f2,f3,f4,f5⟩:=hf it (by simp);have W:=Walks.range (prog:=X.prog) (w:=X.w) (I.ok.hd hc) it lo 1 n;refine W.item i s _ _ hg st fun v h' tk hv st' kk=>?_;obtain ⟨t,rfl⟩:=hv;have I1:Inv X pins σ H {s with heap:=h',toks:=tk}:=I.turned (fun b o hb e=>kk b o (by simpa using hb) e) f0 f1 f3 f4 f5;refine ⟨_,rfl,lL (s:={s with heap:=h',toks:=tk}) (n:="range_iterator") st' rfl rfl (by decide) ⟨.int (lo+i),H,I1,⟨t,?_⟩,⟨rfl,rfl⟩,st',fun b hb=>(hf b hb).1⟩⟩;rw [Int.mul_one]
 done:=by
  intro X hP hw hK hc i pins s σ H E I hf st hg;subst hP hw hK;obtain ⟨f0,f1,f2,f3,f4,f5⟩:=hf it (by simp);exact wpAny_pyNext_range_end (I.ok.hd hc) st (by have:n<=i:=hg;omega) fun h' eb=>⟨rfl,I.turned (t':=s.toks) (fun b o hb e=>eb b o hb e) f0 f1 f3 f4 f5⟩
 self:=fun _ _ _ _ _ st h=>wpAny_pyIter_rangeiter st h
section
variable {X:Cx} {tg:Expr}
noncomputable def Ck (K:PySem.W.Frag) (tl:TE):TI:=fun σ H R=>tl σ H fun x H1=>∃a,x=.ref a∧(∃xs,SqL K H1 a xs)∧R (Itl K a) H1
noncomputable def Dz (K:PySem.W.Frag) (tl:TE):TI:=fun σ H R=>tl σ H fun x H1=>∃a,x=.ref a∧(∃xs,SqT K H1 a xs)∧R (Itt K a) H1
theorem yq {l:Expr} {tl:TE} (hl:PE X l tl):PI X tg l (Ck X.K tl):=by
 intro pins s σ H R I h;refine thn (hl pins s σ H _ I h) fun v s1 ⟨x,H1,I1,r1,q1⟩=>?_;obtain ⟨a,e,⟨xs,hq⟩,q⟩:=q1;subst e;cases r1;obtain ⟨its,rv,p,hz⟩:=I1.list hq;refine wpAny_pyIter_list p.isList ?_;refine ⟨s1.heap.objs.size,[s1.heap.objs.size],_,_,H1,rfl,I1.kept (t':=s1.toks) fun b o e=>BT _ e,tj a _,⟨_,Ch _ rfl,rfl,rfl⟩,fun b hb=>?_,q⟩;have e:b=s1.heap.objs.size:=by simpa using hb
 subst e;exact I1.fI (EG _) (I1.hok.fresh (EG _))
theorem Ba {l:Expr} {tl:TE} (hl:PE X l tl):PI X tg l (Dz X.K tl):=by
 intro pins s σ H R I h;refine thn (hl pins s σ H _ I h) fun v s1 ⟨x,H1,I1,r1,q1⟩=>?_;obtain ⟨a,e,⟨xs,hq⟩,q⟩:=q1;subst e;cases r1;obtain ⟨its,rv,p,hz⟩:=I1.tuple hq;refine wpAny_pyIter_tuple (show s1.heap.IsTuple a its.toArray from p) ?_;refine ⟨s1.heap.objs.size,[s1.heap.objs.size],_,_,H1,rfl,I1.kept (t':=s1.toks) fun b o e=>BT _ e,qF a _,⟨_,Ch _ rfl,rfl,rfl⟩,fun b hb=>?_,q⟩;have e:b=s1.heap.objs.size:=by simpa using hb
 subst e;exact I1.fI (EG _) (I1.hok.fresh (EG _))
theorem nc {pins:List (Addr×Obj)} {σ:St} {H:Hp} {s:Shared} {R:It->Hp->Prop} {E:Value->Shared->Prop} {lo hi:Int} {t u v:Tok} {tk:Nat} (I:Inv X pins σ H s) (h1: -(2^62)<=lo) (h2:lo<2^62) (h3: -(2^62)<=hi) (h4:hi<2^62)
  (q:R (Itr lo (hi - lo).toNat) H):wpAny (model X.prog X.w) X.A (pyIter (.ref s.heap.objs.size)) (PIE X pins σ tg R) E {s with heap:=s.heap.push {cls:=.type "range",data:=.fields #[.int lo t,.int hi u,.int 1 v]},toks:=tk}:=by
 refine wpAny_pyIter_range (IsRange.new ..) (small_one h1 h2 h3 h4) ?_;have I1:Inv X pins σ H {s with heap:=s.heap.push {cls:=.type "range",data:=.fields #[.int lo t,.int hi u,.int 1 v]},toks:=tk}:=I.kept fun b o e=>BT _ e;refine ⟨(s.heap.push {cls:=.type "range",data:=.fields #[.int lo t,.int hi u,.int 1 v]}).objs.size,[(s.heap.push {cls:=.type "range",data:=.fields #[.int lo t,.int hi u,.int 1 v]}).objs.size],_,_,H,rfl,
  I1.kept (t':=tk) fun b o e=>BT _ e,qE _ lo (hi - lo).toNat,?_,fun b hb=>?_,q⟩
 ·have e1:lo+((0:Nat):Int)*1=lo:=by simp
  have e2:(((hi - lo).toNat:Nat):Int) - ((0:Nat):Int)=Builtin.Range.rangeSize lo hi 1:=by rw [rangeSize_one];split<;>omega
  show IsRangeIter _ _ (lo+((0:Nat):Int)*1) ((((hi - lo).toNat:Nat):Int) - ((0:Nat):Int)) 1;rw [e1,e2];exact Ch _ rfl
 ·have e:b=(s.heap.push {cls:=.type "range",data:=.fields #[.int lo t,.int hi u,.int 1 v]}).objs.size:=by simpa using hb
  subst e;exact I1.fI (EG _) (I1.hok.fresh (EG _))
noncomputable def Cm (ta:TA):TI:=fun σ H R=>ta σ H fun vs H1=>∃j:Int,vs=[.int j]∧ -(2^62)<=j∧j<2^62∧R (Itr 0 j.toNat) H1
noncomputable def Cn (ta:TA):TI:=fun σ H R=>ta σ H fun vs H1=>∃i j:Int,vs=[.int i,.int j]∧(-(2^62)<=i∧i<2^62∧ -(2^62)<=j∧j<2^62)∧R (Itr i (j - i).toNat) H1
theorem sL {a:Expr} {ta:TA} {p pos:Pos} (hg:Gl X "range") (hm:X.mg "range"=none) (ha:PA X [a] ta) (hs:(starEach [a] X.env=[(false,eval a X.env)])⁻¹):PI X tg (.Call (.Name "range" p) [a] [] pos) (Cm ta):=by
 intro pins s σ H R I h;refine Call_ (ej I hg hm boot_range (PyProof.Rows.callWith_type1 (thn (ha pos pins s σ H _ I h) fun us s1 ⟨vs,H1,I1,r1,q1⟩=>?_) hs rfl));obtain ⟨j,e,q1,q2,q⟩:=q1;subst e;cases r1 with
 |cons r rr=>
  cases rr;obtain ⟨t,rfl⟩:=r;exact call_range_1 (nc I1 (by omega) (by omega) q1 q2 (by simpa using q))
theorem sM {a b:Expr} {ta:TA} {p pos:Pos} (hg:Gl X "range") (hm:X.mg "range"=none) (ha:PA X [a,b] ta) (hs:(starEach [a,b] X.env=[(false,eval a X.env),(false,eval b X.env)])⁻¹) (hs2:(starEach [b] X.env=[(false,eval b X.env)])⁻¹):
  PI X tg (.Call (.Name "range" p) [a,b] [] pos) (Cn ta):=by
 intro pins s σ H R I h;refine Call_ (ej I hg hm boot_range (PyProof.Rows.callWith_type1 (thn (ha pos pins s σ H _ I h) fun us s1 ⟨vs,H1,I1,r1,q1⟩=>?_) (by rw [hs,hs2]) (by rw [hs2];rfl)));obtain ⟨i,j,e,⟨q1,q2,q3,q4⟩,q⟩:=q1;subst e;cases r1 with
 |cons r rr=>
  cases rr with
  |cons r' rr=>
   cases rr;obtain ⟨t,rfl⟩:=r;obtain ⟨t',rfl⟩:=r';exact call_range_2 (nc I1 q1 q2 q3 q4 q)
noncomputable def D_ (wi:TI) (g:TG) (tb:TS):TS:=fun D σ H=>wi σ H fun J H1=>∃W:Nat->Nat->St->Hp->Prop,(∃m,W 0 m σ H1)∧∀i m σ H,W i m σ H->
 (J.stop i H∧D.nx σ H)∨(J.go i H∧∃N:St->Hp->Prop,(∀σ' H',N σ' H'->∃m',m'<m∧W (i+1) m' σ' H')∧∀x H',J.yld i H x H'->g x σ H' fun σ2 H2=>tb {D with nx:=N,ct:=N,bk:=D.nx} σ2 H2)
noncomputable def bV (fp:List Addr) (h:Heap):List (Addr×Obj):=fp.filterMap fun b=>(h.get? b).map fun o=>(b,o)
theorem bG {fp:List Addr} {h:Heap} {b:Addr} {o:Obj} (hb:b∈fp) (e:h.get? b=some o):(b,o)∈bV fp h:=List.mem_filterMap.mpr ⟨b,hb,by rw [e];rfl⟩
theorem gY (hp:p∈bV fp h):p.1∈fp∧h.get? p.1=some p.2:=by
 obtain ⟨b,hb,e⟩:=List.mem_filterMap.mp hp;cases q:h.get? b with
 |none=>rw [q] at e;cases e
 |some o=>
  rw [q] at e;have e':(b,o)=p:=EL e;subst e';exact ⟨hb,q⟩
theorem Inv.pinned {pins:List (Addr×Obj)} {σ:St} {H:Hp} {s:Shared} {fp:List Addr} (I:Inv X pins σ H s) (hf:∀b∈fp,bh X pins H b) (ho:∀b∈fp,∃o,s.heap.get? b=some o∧∀v,o.data≠.cell v):Inv X (pins++bV fp s.heap) σ H s:=
 I.kf fun p hp=>(Ep.mp hp).elim (fun z=>I.pin p (Db _ z)) fun z=>by
  obtain ⟨hb,e⟩:=gY z;obtain ⟨f0,f1,f2,_⟩:=hf p.1 hb;obtain ⟨o,e',d⟩:=ho p.1 hb;rw [e] at e';cases e';exact ⟨e,f0,f1,f2,d⟩
theorem Inv.bT {pins pl:List (Addr×Obj)} {σ:St} {H:Hp} {s:Shared} (I:Inv X (pins++pl) σ H s):Inv X pins σ H s:=I.kf fun p hp=>I.pin p (Db _ (Do _ hp))
theorem Bf {iter:Expr} {body:List Stmt} {wi:TI} {g:TG} {tb:TS} {pos:Pos} (hp:PassesOwn (model X.prog X.w) X.A X.env X.xe) (hc:X.calm=true) (hi:PI X tg iter wi) (hg:PG X tg g) (hb:PSs X body tb)
  (hs:∀x,foldedSetIterable iter X.env x=pure x:=by intro _;rfl):PS X (.For tg iter body [] pos) (D_ wi g tb):=by
 intro pins s σ H D I h;refine wpAny_For (thn (hi pins s σ H _ I h) fun v s1 h1=>thn h1 fun itv s2 h2=>?_) hs;obtain ⟨it,fp,tn,J,H2,e,I2,T,st2,f2,W,⟨m0,w0⟩,turn⟩:=h2;subst e;have stat:∀{H':Hp},(∀b∈fp,H' b=none)->∀b∈fp,bh X pins H' b:=fun hn b hb=>⟨hn b hb,(f2 b hb).2⟩
 refine codeAny_forLoop_any (fun n s'=>∃i σ' H',Inv X pins σ' H' s'∧tn i s'.heap∧(∀b∈fp,H' b=none)∧W i n σ' H') ?_ m0 ⟨0,σ,H2,I2,st2,fun b hb=>(f2 b hb).1,w0⟩;rintro n s3 ⟨i,σ3,H3,I3,st3,fr3,w3⟩;rcases turn i n σ3 H3 w3 with ⟨stop,qn⟩|⟨go,N,hN,step⟩
 ·refine wpAny_passesOwn hp (thn (T.done X rfl rfl rfl hc i pins s3 σ3 H3 X.xe I3 (stat fr3) st3 stop) fun r s4 ⟨hr,I4⟩=>?_);subst hr;exact wpAny_execs_nil ⟨σ3,H3,I4,qn⟩
 ·refine wpAny_passesOwn hp (thn (T.item X rfl rfl rfl hc i pins s3 σ3 H3 X.xe I3 (stat fr3) st3 go) fun r s4 ⟨u,hr,h4⟩=>?_);subst hr;refine wpAny_passesOwn hp (thn h4 fun _ s5 ⟨x,H5,I5,r5,y5,st5,fr5⟩=>?_);have I5':=I5.pinned (stat fr5) (T.obj _ _ st5);refine wpAny_passesOwn hp (thn (hg _ s5 σ3 H5 x u _ I5' r5 (step x H5 y5)) fun _ s6 ⟨σ6,H6,I6,q6⟩=>?_);refine wpAny_passesOwn hp (thn (hb _ s6 σ6 H6 _ I6 q6) fun f s7 q7=>?_);have again:∀{σ7:St} {H7:Hp},Inv X (pins++bV fp s5.heap) σ7 H7 s7->N σ7 H7->∃m,m<n∧∃i σ' H',Inv X pins σ' H' s7∧tn i s7.heap∧(∀b∈fp,H' b=none)∧W i m σ' H':=fun {σ7 H7} I7 n7=>by
   obtain ⟨m',hm,w7⟩:=hN σ7 H7 n7;refine ⟨m',hm,i+1,σ7,H7,I7.bT,T.keep _ _ _ st5 fun b hb o e=>(I7.pin (b,o) (Db _ (Db _ (bG hb e)))).1,fun b hb=>?_,w7⟩;obtain ⟨o,e,d⟩:=T.obj _ _ st5 b hb;exact (I7.pin (b,o) (Db _ (Db _ (bG hb e)))).2.1
  cases f with
  |next=>obtain ⟨σ7,H7,I7,n7⟩:=q7;exact again I7 n7
  |cont=>obtain ⟨σ7,H7,I7,n7⟩:=q7;exact again I7 n7
  |brk=>obtain ⟨σ7,H7,I7,q7⟩:=q7;exact ⟨σ7,H7,I7.bT,q7⟩
  |ret v=>obtain ⟨x7,σ7,H7,I7,r7,q7⟩:=q7;exact ⟨x7,σ7,H7,I7.bT,r7,q7⟩
end
noncomputable abbrev R2:=V->V->Hp->VK->Prop
noncomputable def OpR (X:Cx) (f:Value->Value->Sem Value) (r:R2):Prop:=
 ∀(pins:List (Addr×Obj)) (s:Shared) (σ:St) (H:Hp) (x y:V) (v u:Value) (Q:VK),Inv X pins σ H s->RelV x v->RelV y u->r x y H Q->
  wpAny (model X.prog X.w) X.A (f v u) (EP X pins σ Q) X.xe s
noncomputable def UnR (X:Cx) (f:Value->Sem Value) (r:V->Hp->VK->Prop):Prop:=
 ∀(pins:List (Addr×Obj)) (s:Shared) (σ:St) (H:Hp) (x:V) (v:Value) (Q:VK),Inv X pins σ H s->RelV x v->r x H Q->
  wpAny (model X.prog X.w) X.A (f v) (EP X pins σ Q) X.xe s
noncomputable def cj (X:Cx) (f:Value) (r:List V->Hp->VK->Prop):Prop:=
 ∀(pins:List (Addr×Obj)) (s:Shared) (σ:St) (H:Hp) (xs:List V) (us:List Value) (Q:VK),Inv X pins σ H s->Vals xs us->r xs H Q->
  wpAny (model X.prog X.w) X.A (call f us) (EP X pins σ Q) X.xe s
noncomputable def tOp (r:R2) (ta tb:TE):TE:=fun σ H Q=>ta σ H fun x H1=>tb σ H1 fun y H2=>r x y H2 Q
noncomputable def tUn (r:V->Hp->VK->Prop) (ta:TE):TE:=fun σ H Q=>ta σ H fun x H1=>r x H1 Q
noncomputable def rI (C:Int->Int->Prop) (g:Int->Int->V):R2:=fun x y H Q=>∃i j,x=.int i∧y=.int j∧C i j∧Q (g i j) H
noncomputable def rI0 (g:Int->Int->V):R2:=fun x y H Q=>∃i j,x=.int i∧y=.int j∧Q (g i j) H
noncomputable def rU (g:Int->V):V->Hp->VK->Prop:=fun x H Q=>∃i,x=.int i∧Q (g i) H
section
variable {X:Cx} {a b c:Expr} {ta tb tc:TE} {pos:Pos}
theorem tN (ha:PE X a ta) (hb:PE X b tb) {pins:List (Addr×Obj)} {s:Shared} {σ:St} {H:Hp} {R:V->V->Hp->Prop} (I:Inv X pins σ H s)
  (h:ta σ H fun x H1=>tb σ H1 fun y H2=>R x y H2) {Q:Value->Shared->Prop} {f:Value->Value->Sem Value}
  (hf:∀v u s2 x y H2,Inv X pins σ H2 s2->RelV x v->RelV y u->R x y H2->wpAny (model X.prog X.w) X.A (f v u) Q X.xe s2):
  wpAny (model X.prog X.w) X.A (eval a X.env) (fun v s₁=>wpAny (model X.prog X.w) X.A (eval b X.env) (fun u s₂=>wpAny (model X.prog X.w) X.A (f v u) Q X.xe s₂) X.xe s₁) X.xe s:=by
 refine thn (ha pins s σ H _ I h) fun v s1 ⟨x,H1,I1,r1,q1⟩=>?_;refine thn (hb pins s1 σ H1 _ I1 q1) fun u s2 ⟨y,H2,I2,r2,q2⟩=>?_;exact hf v u s2 x y H2 I2 r1 r2 q2
theorem CA {op:Operator} {r:R2} (ho:OpR X (binaryOp op) r) (ha:PE X a ta) (hb:PE X b tb):PE X (.BinOp a op b pos) (tOp r ta tb):=by
 intro pins s σ H Q I h;exact wpAny_BinOp (tN ha hb I h fun v u s2 x y H2 I2 rx ry q=>ho pins s2 σ H2 x y v u Q I2 rx ry q)
theorem CB {op:UnaryOp} {r:V->Hp->VK->Prop} (ho:UnR X (unaryOp op) r) (ha:PE X a ta):PE X (.UnaryOp op a pos) (tUn r ta):=by
 intro pins s σ H Q I h;exact UnaryOp_ (thn (ha pins s σ H _ I h) fun v s1 ⟨x,H1,I1,r1,q1⟩=>ho pins s1 σ H1 x v Q I1 r1 q1)
theorem opI {f:Value->Value->Sem Value} {C:Int->Int->Prop} {g:Int->Int->Int}
  (rule:∀(i j:Int) (t u:Tok) (s:Shared) (Q:Value->Shared->Prop) (E:Value->Shared->Prop),C i j->Q (.int (g i j) s.toks) {s with toks:=s.toks+1}->wpAny (model X.prog X.w) X.A (f (.int i t) (.int j u)) Q E s):
  OpR X f (rI C fun i j=>.int (g i j)):=by
 intro pins s σ H x y v u Q I rx ry h;obtain ⟨i,j,rfl,rfl,hc,q⟩:=h;obtain ⟨t,rfl⟩:=rx;obtain ⟨t',rfl⟩:=ry;exact rule i j t t' s _ _ hc ⟨.int (g i j),H,I.tok _,⟨_,rfl⟩,q⟩
theorem AM {f:Value->Value->Sem Value} {g:Int->Int->Int}
  (rule:∀(i j:Int) (t u:Tok) (s:Shared) (Q:Value->Shared->Prop) (E:Value->Shared->Prop),Q (.int (g i j) s.toks) {s with toks:=s.toks+1}->wpAny (model X.prog X.w) X.A (f (.int i t) (.int j u)) Q E s):
  OpR X f (rI0 fun i j=>.int (g i j)):=by
 intro pins s σ H x y v u Q I rx ry h;obtain ⟨i,j,rfl,rfl,q⟩:=h;obtain ⟨t,rfl⟩:=rx;obtain ⟨t',rfl⟩:=ry;exact rule i j t t' s _ _ ⟨.int (g i j),H,I.tok _,⟨_,rfl⟩,q⟩
theorem qo {f:Value->Value->Sem Value} {g:Int->Int->Bool}
  (rule:∀(i j:Int) (t u:Tok) (s:Shared) (Q:Value->Shared->Prop) (E:Value->Shared->Prop),Q (.bool (g i j)) s->wpAny (model X.prog X.w) X.A (f (.int i t) (.int j u)) Q E s):
  OpR X f (rI0 fun i j=>.bl (g i j)):=by
 intro pins s σ H x y v u Q I rx ry h;obtain ⟨i,j,rfl,rfl,q⟩:=h;obtain ⟨t,rfl⟩:=rx;obtain ⟨t',rfl⟩:=ry;exact rule i j t t' s _ _ ⟨.bl (g i j),H,I,rfl,q⟩
noncomputable def pb (i j:Int):Prop:=0<j∧j<1073741824
noncomputable def iF (i j:Int):Prop:=(-(2^64)<i∧i<2^64)∨(-(2^64)<j∧j<2^64)
theorem iF.ok {i j:Int} (h:iF i j):IntMulOk i j:=by
 rcases h with ⟨h1,h2⟩|⟨h1,h2⟩
 ·exact .of_left (intBits_le_64 h1 h2)
 ·exact .of_right (intBits_le_64 h1 h2)
theorem AO:OpR X (binaryOp .Add) (rI0 fun i j=>.int (i+j)):=AM fun _ _ _ _ _ _ _ q=>add_int q
theorem AX:OpR X (binaryOp .Sub) (rI0 fun i j=>.int (i - j)):=AM fun _ _ _ _ _ _ _ q=>sub_int q
theorem AV:OpR X (binaryOp .Mult) (rI iF fun i j=>.int (i*j)):=opI fun _ _ _ _ _ _ _ hc q=>mul_int q hc.ok
theorem ya:OpR X (binaryOp .FloorDiv) (rI pb fun i j=>.int (i / j)):=opI fun i j _ _ _ _ _ hc q=>by
 have h1:(0:Int)<j:=hc.1;have h2:j<1073741824:=hc.2;exact floordiv_int (by omega) (by rw [Int.fdiv_eq_ediv_of_nonneg i (by omega)];exact q) (.inl (PyProof.noPylong_small (by omega)))
theorem AU:OpR X (binaryOp .Mod) (rI (fun _ j=>0<j) fun i j=>.int (i%j)):=opI fun i j _ _ _ _ _ hc q=>by
 have h1:(0:Int)<j:=hc;exact mod_int' (by omega) (by rw [Int.fmod_eq_emod_of_nonneg i (by omega)];exact q)
theorem unI {f:Value->Sem Value} {g:Int->Int}
  (rule:∀(i:Int) (t:Tok) (s:Shared) (Q:Value->Shared->Prop) (E:Value->Shared->Prop),Q (.int (g i) s.toks) {s with toks:=s.toks+1}->wpAny (model X.prog X.w) X.A (f (.int i t)) Q E s):
  UnR X f (rU fun i=>.int (g i)):=by
 intro pins s σ H x v Q I rx h;obtain ⟨i,rfl,q⟩:=h;obtain ⟨t,rfl⟩:=rx;exact rule i t s _ _ ⟨.int (g i),H,I.tok _,⟨_,rfl⟩,q⟩
theorem BL:UnR X (unaryOp .USub) (rU fun i=>.int (-i)):=unI fun _ _ _ _ _ q=>neg_int q
end
noncomputable def qu:V->V->Bool
 |.non,.non=>true|.non,.int _=>true|.int _,.non=>true|.non,.bl _=>true|.bl _,.non=>true|.non,.str _=>true|.str _,.non=>true
 |.int _,.int _=>true|.bl _,.bl _=>true|.str _,.str _=>true|.byt _,.byt _=>true
 |.int _,.str _=>true|.str _,.int _=>true|.bl _,.str _=>true|.str _,.bl _=>true
 |_,_=>false
noncomputable def rEq:R2:=fun x y H Q=>qu x y=true∧Q (.bl (decide (x=y))) H
noncomputable def rNe:R2:=fun x y H Q=>qu x y=true∧Q (.bl (!decide (x=y))) H
theorem n8:decide (V.int i=V.int j)=(i==j):=by
 rw [Bool.eq_iff_iff];simp
theorem rq:decide (V.bl i=V.bl j)=(i==j):=by
 rw [Bool.eq_iff_iff];simp
theorem n9:decide (V.str i=V.str j)=(i==j):=by
 rw [Bool.eq_iff_iff];simp
theorem n6:decide (V.byt i=V.byt j)=(i.toList==j.toList):=by
 rw [Bool.eq_iff_iff];cases i;cases j;simp
section
variable {X:Cx} {a b c:Expr} {ta tb tc:TE} {pos:Pos}
theorem ay (I:Inv X pins σ H s) (q:Q (.bl k) H) (e:k=k'):EP X pins σ Q (.bool k') s:=by
 subst e;exact ⟨.bl k,H,I,rfl,q⟩
theorem Cs:OpR X (compareOp .Eq) rEq:=by
 intro pins s σ H x y v u Q I rx ry h;obtain ⟨hs,q⟩:=h;cases x with
 |non=>
  cases rx;cases y with
  |non=>cases ry;exact PySem.EqNone.eq_none_none (ay I q (by simp))
  |bl j=>cases ry;exact PySem.EqNone.eq_none_bool (ay I q (by simp))
  |int j=>obtain ⟨t',rfl⟩:=ry;exact PySem.EqNone.eq_none_int (ay I q (by simp))
  |str j=>obtain ⟨t',rfl⟩:=ry;exact PySem.EqNone.eq_none_str (ay I q (by simp))
  |_=>exact absurd (show false=true from hs) EK
 |bl i=>
  cases rx;cases y with
  |non=>cases ry;exact PySem.EqNone.eq_bool_none (ay I q (by simp))
  |bl j=>cases ry;exact eq_bool (ay I q rq)
  |str j=>obtain ⟨t',rfl⟩:=ry;exact PySem.EqMixed.eq_bool_str (ay I q (by simp))
  |_=>exact absurd (show false=true from hs) EK
 |int i=>
  obtain ⟨t,rfl⟩:=rx;cases y with
  |non=>cases ry;exact PySem.EqNone.eq_int_none (ay I q (by simp))
  |int j=>obtain ⟨t',rfl⟩:=ry;exact eq_int (ay I q n8)
  |str j=>obtain ⟨t',rfl⟩:=ry;exact PySem.EqMixed.eq_int_str (ay I q (by simp))
  |_=>exact absurd (show false=true from hs) EK
 |str i=>
  obtain ⟨t,rfl⟩:=rx;cases y with
  |non=>cases ry;exact PySem.EqNone.eq_str_none (ay I q (by simp))
  |bl j=>cases ry;exact PySem.EqMixed.eq_str_bool (ay I q (by simp))
  |int j=>obtain ⟨t',rfl⟩:=ry;exact PySem.EqMixed.eq_str_int (ay I q (by simp))
  |str j=>obtain ⟨t',rfl⟩:=ry;exact eq_str (ay I q n9)
  |_=>exact absurd (show false=true from hs) EK
 |byt i=>
  obtain ⟨t,rfl⟩:=rx;cases y with
  |byt j=>obtain ⟨t',rfl⟩:=ry;exact PySem.W.eq_bytes (ay I q n6)
  |_=>exact absurd (show false=true from hs) EK
 |_=>cases y<;>exact absurd (show false=true from hs) EK
theorem Cv:OpR X (compareOp .NotEq) rNe:=by
 intro pins s σ H x y v u Q I rx ry h;obtain ⟨hs,q⟩:=h;cases x with
 |non=>
  cases rx;cases y with
  |non=>cases ry;exact PySem.EqNone.ne_none_none (ay I q (by simp))
  |bl j=>cases ry;exact PySem.EqNone.ne_none_bool (ay I q (by simp))
  |int j=>obtain ⟨t',rfl⟩:=ry;exact PySem.EqNone.ne_none_int (ay I q (by simp))
  |str j=>obtain ⟨t',rfl⟩:=ry;exact PySem.EqNone.ne_none_str (ay I q (by simp))
  |_=>exact absurd (show false=true from hs) EK
 |bl i=>
  cases rx;cases y with
  |non=>cases ry;exact PySem.EqNone.ne_bool_none (ay I q (by simp))
  |bl j=>cases ry;exact ne_bool (ay I q (congrArg not rq))
  |str j=>obtain ⟨t',rfl⟩:=ry;exact PySem.EqMixed.ne_bool_str (ay I q (by simp))
  |_=>exact absurd (show false=true from hs) EK
 |int i=>
  obtain ⟨t,rfl⟩:=rx;cases y with
  |non=>cases ry;exact PySem.EqNone.ne_int_none (ay I q (by simp))
  |int j=>obtain ⟨t',rfl⟩:=ry;exact ne_int (ay I q (congrArg not n8))
  |str j=>obtain ⟨t',rfl⟩:=ry;exact PySem.EqMixed.ne_int_str (ay I q (by simp))
  |_=>exact absurd (show false=true from hs) EK
 |str i=>
  obtain ⟨t,rfl⟩:=rx;cases y with
  |non=>cases ry;exact PySem.EqNone.ne_str_none (ay I q (by simp))
  |bl j=>cases ry;exact PySem.EqMixed.ne_str_bool (ay I q (by simp))
  |int j=>obtain ⟨t',rfl⟩:=ry;exact PySem.EqMixed.ne_str_int (ay I q (by simp))
  |str j=>obtain ⟨t',rfl⟩:=ry;exact ne_str (ay I q (congrArg not n9))
  |_=>exact absurd (show false=true from hs) EK
 |byt i=>
  obtain ⟨t,rfl⟩:=rx;cases y with
  |byt j=>obtain ⟨t',rfl⟩:=ry;exact PySem.W.ne_bytes (ay I q (congrArg not n6))
  |_=>exact absurd (show false=true from hs) EK
 |_=>cases y<;>exact absurd (show false=true from hs) EK
theorem v8:OpR X (compareOp .Lt) (rI0 fun i j=>.bl (decide (i<j))):=qo fun _ _ _ _ _ _ _ q=>lt_int q
theorem v7:OpR X (compareOp .LtE) (rI0 fun i j=>.bl (decide (i<=j))):=qo fun _ _ _ _ _ _ _ q=>le_int q
theorem Cu:OpR X (compareOp .Gt) (rI0 fun i j=>.bl (decide (j<i))):=qo fun _ _ _ _ _ _ _ q=>gt_int q
theorem Ct:OpR X (compareOp .GtE) (rI0 fun i j=>.bl (decide (j<=i))):=qo fun _ _ _ _ _ _ _ q=>ge_int q
theorem sD:OpR X (compareOp .Is) (fun x y H Q=>y=.non∧Q (.bl (decide (x=.non))) H):=by
 intro pins s σ H x y v u Q I rx ry h;obtain ⟨rfl,q⟩:=h;cases ry;refine is_none_gen (ay I q ?_);cases x<;>first
  |(cases rx;rfl)
  |(obtain ⟨t,rfl⟩:=rx;rfl)
theorem oP:OpR X (compareOp .IsNot) (fun x y H Q=>y=.non∧Q (.bl (!decide (x=.non))) H):=by
 intro pins s σ H x y v u Q I rx ry h;obtain ⟨rfl,q⟩:=h;cases ry;refine isnot_none_gen (ay I q ?_);cases x<;>first
  |(cases rx;rfl)
  |(obtain ⟨t,rfl⟩:=rx;rfl)
theorem bx (b:Expr) (h: ~~~(op≠.In)) (h2: ~~~(op≠.NotIn)):behindInMarks op b=false:=by
 have e1:(op==CmpOp.In)=false:=by cases op<;>first|rfl|exact absurd rfl h
 have e2:(op==CmpOp.NotIn)=false:=by cases op<;>first|rfl|exact absurd rfl h2
 cases b<;>simp [behindInMarks,e1,e2]
theorem yh (ho:OpR X (compareOp op) r) (ha:PE X a ta) (hb:PE X b tb) (hm:behindInMarks op b=false):PE X (.Compare a [op] [b] pos) (tOp r ta tb):=by
 intro pins s σ H Q I h;exact wpAny_Compare1 (tN ha hb I h fun v u s2 x y H2 I2 rx ry q=>ho pins s2 σ H2 x y v u Q I2 rx ry q) hm
noncomputable def C6 (t:TE):TT:=fun σ H Q=>t σ H fun x H'=>∃k,x=.bl k∧Q k H'
theorem yD {op:CmpOp} {r:R2} (ho:OpR X (compareOp op) r) (ha:PE X a ta) (hb:PE X b tb) (hm:behindInMarks op b=false):PT X (.Compare a [op] [b] pos) (C6 (tOp r ta tb)):=by
 intro pins s σ H Q I h;refine wpAny_isTrue_Compare1 (thn (ha pins s σ H _ I h) fun v s1 ⟨x,H1,I1,r1,q1⟩=>thn (hb pins s1 σ H1 _ I1 q1) fun u s2 ⟨y,H2,I2,r2,q2⟩=>
  thn (ho pins s2 σ H2 x y v u _ I2 r1 r2 q2) fun c s3 ⟨z,H3,I3,r3,k,e,q3⟩=>?_) hm
 subst e;cases r3;exact wpAny_truthy_bool ⟨H3,I3,q3⟩
noncomputable def Bw (r r':R2) (ta tb tc:TE):TE:=fun σ H Q=>ta σ H fun x H1=>tb σ H1 fun y H2=>r x y H2 fun z H3=>∃k,z=.bl k∧
 (if k=true then tc σ H3 fun w' H4=>r' y w' H4 Q else Q (.bl false) H3)
theorem uU {op op':CmpOp} {r r':R2} (ho:OpR X (compareOp op) r) (ho':OpR X (compareOp op') r') (ha:PE X a ta) (hb:PE X b tb) (hc:PE X c tc)
  (hm:lastMarks [op,op'] [b,c]=false:=by with_unfolding_all rfl):PE X (.Compare a [op,op'] [b,c] pos) (Bw r r' ta tb tc):=by
 intro pins s σ H Q I h;refine Compare_chain (thn (ha pins s σ H _ I h) fun v s1 ⟨x,H1,I1,r1,q1⟩=>chain_link (thn (hb pins s1 σ H1 _ I1 q1) fun u s2 ⟨y,H2,I2,r2,q2⟩=>
  thn (ho pins s2 σ H2 x y v u _ I2 r1 r2 q2) fun d s3 ⟨z,H3,I3,r3,k,e,q3⟩=>?_)) hm
 subst e;cases r3;refine wpAny_truthy_bool ?_;cases k with
 |false=>exact ite_ff ⟨.bl false,H3,I3,rfl,q3⟩
 |true=>exact ite_tt (chain_last (thn (hc pins s3 σ H3 _ I3 q3) fun w' s4 ⟨z',H4,I4,r4,q4⟩=>ho' pins s4 σ H4 y z' u w' Q I4 r2 r4 q4))
theorem jw:(sizeLine:Nat)<2^63:=by rw [sizeLine_eq];decide
theorem vals1 (r:Vals [x] us):∃u,us=[u]∧RelV x u:=by
 cases r with
 |cons r1 r2=>cases r2;exact ⟨_,rfl,r1⟩
theorem vals2 (r:Vals [x,y] us):∃u w',us=[u,w']∧RelV x u∧RelV y w':=by
 cases r with
 |cons r1 r2=>
  cases r2 with
  |cons r3 r4=>cases r4;exact ⟨_,_,rfl,r1,r3⟩
theorem qU (hc:X.calm=true):cj X (.builtin "max") (fun xs H Q=>∃i j,xs=[.int i,.int j]∧Q (.int (if j>i then j else i)) H):=by
 intro pins s σ H xs us Q I r h;obtain ⟨i,j,rfl,q⟩:=h;obtain ⟨u,w',rfl,⟨t,rfl⟩,⟨t',rfl⟩⟩:=vals2 r;refine max_two_ints (I.ok.hd hc) fun h' tk k=>⟨_,H,I.kept k,?_,q⟩
 by_cases hj:j>i
 ·rw [if_pos hj,if_pos hj];exact ⟨_,rfl⟩
 ·rw [if_neg hj,if_neg hj];exact ⟨_,rfl⟩
theorem qV (hc:X.calm=true):cj X (.builtin "min") (fun xs H Q=>∃i j,xs=[.int i,.int j]∧Q (.int (if j<i then j else i)) H):=by
 intro pins s σ H xs us Q I r h;obtain ⟨i,j,rfl,q⟩:=h;obtain ⟨u,w',rfl,⟨t,rfl⟩,⟨t',rfl⟩⟩:=vals2 r;refine min_two_ints (I.ok.hd hc) fun h' tk k=>⟨_,H,I.kept k,?_,q⟩
 by_cases hj:j<i
 ·rw [if_pos hj,if_pos hj];exact ⟨_,rfl⟩
 ·rw [if_neg hj,if_neg hj];exact ⟨_,rfl⟩
end
structure iK (h:Heap) (x dx C:Addr) (mA:Str->Option Value):Prop where
 obj:h.get? x=some (PySem.W.instObj C dx)
 ns:h.Ns1 dx mA
 ne:dx≠x
theorem kZ {h:Heap} {dx:Addr} {mA:Str->Option Value} (n:h.Ns1 dx mA):∃od,h.get? dx=some od∧∀name,PySem.W.lookIn name od=some (mA name):=by
 obtain ⟨o,es,ep,ho,hd,hk,_,hm⟩:=n;refine ⟨o,ho,fun name=>?_⟩;have e:=hm name;unfold nsFind findBy at e;rw [←Array.find?_toList] at e;unfold PySem.W.lookIn;rw [hd];dsimp only;split
 ·rename_i y q;rw [q] at e;exact congrArg some e
 ·rename_i q;rw [q] at e;have a:es.toList.any (·.refKey)=false:=by
   rw [List.any_eq_false];intro y hy;obtain ⟨z,t,hkey⟩:=hk y (Array.mem_toList_iff.mp hy);simp [DictEntry.refKey,hkey]
  have a':¬es.toList.any (·.refKey)=true:=by rw [a];exact EK
  rw [if_neg a'];exact congrArg some e
theorem iK.look (I:iK h x dx C mA):∃od,PySem.W.InstAt h x (PySem.W.instObj C dx) C (some od)∧∀name,PySem.W.lookIn name od=some (mA name):=
 let ⟨od,ho,hl⟩:=kZ I.ns
 ⟨od,⟨I.obj,rfl,rfl,ho⟩,hl⟩
section
variable {prog:Program} {w:World} {A:Around} {E:Value->Shared->Prop} {s:Shared} {K:PySem.W.Frag} {x dx C f:Addr} {mA:Str->Option Value} {name:Str} {v:Value}
theorem get_map (X:K.In s.heap) (I:iK s.heap x dx C mA) (hg:PySem.W.plainGet K C name=true) (hh:PySem.W.hasDictIn K C=true)
  (ha:PySem.W.findIn K (.ref C) name=some none) (hv:mA name=some v) (hv':PySem.W.handedIn v=true) (h:Q v {s with toks:=s.toks+1}):
  wpAny (model prog w) A (getAttr (.ref x) name expr) Q E s:=by
 obtain ⟨od,J,hl⟩:=I.look;exact PySem.W.get_value X J (PySem.W.plainGet_of hg).1 (PySem.W.findObj_own hh ha rfl (by rw [hl,hv])) hv' h
theorem uy (X:K.In s.heap) (I:iK s.heap x dx C mA) (hg:PySem.W.plainGet K C name=true)
  (hf:PySem.W.findIn K (.ref C) name=some (some (.ref f))) (ht:PySem.W.isFn K (.ref f)=true) (hv:mA name=none) (h:Q (.ref f,[.ref x]) s):
  wpAny (model prog w) A (getMethod (.ref x) name pl) Q E s:=by
 obtain ⟨od,J,hl⟩:=I.look;exact PySem.W.method_fn X J (PySem.W.plainGet_of hg).1 (PySem.W.plainGet_of hg).2 hf (beq_iff_eq.mp ht) (by show (PySem.W.lookIn name od).map (·.isSome)=some false;rw [hl,hv];rfl) h
theorem yL (X:K.In s.heap) (I:iK s.heap x dx C mA)
  (hs:PySem.W.findIn K (.ref C) "__setattr__"=some (some (.builtin "object.__setattr__"))) (hp:PySem.W.plainOver K C=true) (ht:PySem.W.takerIn K C name=some none) (hh:PySem.W.hasDictIn K C=true)
  (hw:PySem.Within mA ns) (hsz:ns.length<=sizeLine)
  (h:∀h',iK h' x dx C (fun y=>if y=name then some v else mA y)->Heap.SameBut dx s.heap h'->Q () {s with heap:=h',toks:=s.toks+2}):
  wpAny (model prog w) A (setAttr (.ref x) name v) Q E s:=by
 obtain ⟨od,J,hl⟩:=I.look;refine PySem.W.set_plain X J hs (PySem.W.osa_open (s:={s with toks:=s.toks+1}) (r:=none) X J hp ht fun b=>?_);obtain ⟨cd,hc,hd'⟩:=PySem.W.any_some hh;have hx:s.heap.get? x=some ⟨.ref C,some dx,.plain,#[]⟩:=I.obj;refine At (AC (At (At (wpAny_loadPart hx (At (PySem.W.Looks.here (s:={s with toks:=s.toks+1}) (PySem.W.looks_clsIn X hc) ?_))))));rw [hd'];refine AC (a:=some dx) (At (AC (At ?_)));refine wpAny_nsSet1 (s:={s with toks:=s.toks+1}) I.ns fun h' hn2 hs2=>?_;obtain ⟨oD,esD,epD,hoD,hdD,hcD⟩:=hn2.count (PySem.Within.cons name v hw);refine At (wpAny_lookBehind hoD (by rw [hdD];exact pastItsLine_dict (EE hcD (by rw [List.length_cons];omega))) ?_);exact AC (h _ ⟨(hs2.2 _ (Ne.symm I.ne)).trans I.obj,hn2,I.ne⟩ hs2)
theorem uK (X:K.In s.heap) (hm:PySem.W.makesIn K C=true)
  (hi:PySem.W.findIn K (.ref C) "__init__"=some (some (.ref f))) (hf:PySem.W.typeIn K (.ref f)=some (.type "function"))
  (h:codeAny (model prog w) (A.under (.builtin "type.__call__" ⟨.ref C::vs,kw⟩)) (.call (.ref f) ⟨.ref (s.heap.objs.size+1)::vs,kw⟩) (PySem.W.InitBack (s.heap.objs.size+1) R)
   {s with heap:=(s.heap.push PySem.W.emptyDict).push (PySem.W.instObj C s.heap.objs.size)}):
  codeAny (model prog w) A (.call (.ref C) ⟨vs,kw⟩) R s:=by
 obtain ⟨hh,g,d,t,os⟩:=s;exact PySem.W.make_core (PySem.W.makes_of X hm) (PySem.W.looks_findIn X hi) (fun self=>PySem.W.bind_fn X self hf) (.inl rfl) h
end
noncomputable def b5 (f:Str) (v:V):List (Str×V)->List (Str×V)
 |[]=>[(f,v)]
 |(g,x)::r=>if g=f then (g,v)::r else (g,x)::b5 f v r
theorem iE (f g:Str) (v:V):∀fs:List (Str×V),(b5 f v fs).lookup g=if g=f then some v else fs.lookup g
 |[]=>by
  show List.lookup g [(f,v)]=_
  by_cases h:g=f
  ·have hb:(g==f)=true:=beq_iff_eq.mpr h;simp only [List.lookup,hb,if_pos h]
  ·have hb:(g==f)=false:=beq_eq_false_iff_ne.mpr h;simp only [List.lookup,hb,if_neg h]
 |(k,x)::r=>by
  have ih:=iE f g v r;rw [show b5 f v ((k,x)::r)=(if k=f then (k,v)::r else (k,x)::b5 f v r) from rfl]
  by_cases hk:k=f
  ·rw [if_pos hk]
   by_cases h:g=k
   ·have hb:(g==k)=true:=beq_iff_eq.mpr h;simp only [List.lookup,hb,if_pos (h.trans hk)]
   ·have hb:(g==k)=false:=beq_eq_false_iff_ne.mpr h;simp only [List.lookup,hb,if_neg (fun e:g=f=>h (e.trans hk.symm))]
  ·rw [if_neg hk]
   by_cases h:g=k
   ·have hb:(g==k)=true:=beq_iff_eq.mpr h;simp only [List.lookup,hb,if_neg (fun e:g=f=>hk (h.symm.trans e))]
   ·have hb:(g==k)=false:=beq_eq_false_iff_ne.mpr h;simp only [List.lookup,hb];exact ih
theorem gP (f:Str) (v:V):∀fs:List (Str×V),f∈(b5 f v fs).map (·.1)∧∀g,g∈fs.map (·.1)->g∈(b5 f v fs).map (·.1)
 |[]=>⟨by simp [b5],fun g h=>by simp at h⟩
 |(k,x)::r=>by
  obtain ⟨i1,i2⟩:=gP f v r;rw [show b5 f v ((k,x)::r)=(if k=f then (k,v)::r else (k,x)::b5 f v r) from rfl]
  by_cases hk:k=f
  ·rw [if_pos hk];subst hk;exact ⟨by simp,fun g h=>by simpa using h⟩
  ·rw [if_neg hk];refine ⟨?_,fun g h=>?_⟩
   ·rw [List.map_cons];exact En _ i1
   ·rw [List.map_cons] at h ⊢;rcases Er.mp h with e|e
    ·exact Er.mpr (.inl e)
    ·exact En _ (i2 g e)
theorem iD (f:Str) (v:V):∀fs:List (Str×V),(b5 f v fs).length<=fs.length+1
 |[]=>by simp [b5]
 |(k,x)::r=>by
  have ih:=iD f v r;rw [show b5 f v ((k,x)::r)=(if k=f then (k,v)::r else (k,x)::b5 f v r) from rfl]
  by_cases hk:k=f
  ·rw [if_pos hk,List.length_cons,List.length_cons];omega
  ·rw [if_neg hk,List.length_cons,List.length_cons];omega
theorem bY.some_of (r:bY (some v) o):∃u,o=some u∧RelV v u:=by
 cases o with
 |none=>exact (show False from r).elim
 |some u=>exact ⟨u,rfl,r⟩
theorem bY.none_of (r:bY none o):o=none:=by
 cases o with
 |none=>rfl
 |some u=>exact (show False from r).elim
theorem rX (r:RelV v u):PySem.W.handedIn u=true:=by
 cases v with
 |non=>cases (show u=Value.none from r);rfl
 |bl b=>cases (show u=Value.bool b from r);rfl
 |int i=>obtain ⟨t,e⟩:=(show ∃t,u=Value.int i t from r);cases e;rfl
 |str x=>obtain ⟨t,e⟩:=(show ∃t,u=Value.str x t from r);cases e;rfl
 |byt b=>obtain ⟨t,e⟩:=(show ∃t,u=Value.bytes b t from r);cases e;rfl
 |flt b=>obtain ⟨t,e⟩:=(show ∃t,u=Value.float b t from r);cases e;rfl
 |ref a=>cases (show u=Value.ref a from r);rfl
 |ty n=>cases (show u=Value.type n from r);rfl
section
variable {P:Program} {w:World} {H H':Hp} {h h':Heap} {a C dx:Addr} {fs fs':List (Str×V)}
theorem hZ (hok:HOk P w H h) (e:H a=some (.ins C dx fs)):∃mA,iK h a dx C mA∧(∀f,bY (fs.lookup f) (mA f))∧PySem.Within mA (fs.map (·.1))∧fs.length<=1000∧H dx=some (.own a):=by
 obtain ⟨d,z,ne,ob,mA,n,r,q⟩:=(show aU P w H h a (.ins C dx fs) from hok a _ e)
 exact ⟨mA,⟨ob,n,ne⟩,r,q,z,d⟩
end
structure Cls (K:PySem.W.Frag) (C:Addr):Prop where
 pg:PySem.W.plainGet K C Str.empty=true
 hd:PySem.W.hasDictIn K C=true
 po:PySem.W.plainOver K C=true
 sa:PySem.W.findIn K (.ref C) "__setattr__"=some (some (.builtin "object.__setattr__"))
theorem Cls.get {K:PySem.W.Frag} {C:Addr} (c:Cls K C) (f:Str):PySem.W.plainGet K C f=true:=c.pg
noncomputable def cF (K:PySem.W.Frag) (C:Addr) (f:Str):Prop:=PySem.W.findIn K (.ref C) f=some none
theorem cF.C7 {K:PySem.W.Frag} {C:Addr} {f:Str} (n:cF K C f):PySem.W.takerIn K C f=some none:=by
 unfold PySem.W.takerIn;rw [show PySem.W.findIn K (.ref C) f=some none from n];rfl
structure Meth (K:PySem.W.Frag) (C:Addr) (m:Str) (f:Addr):Prop where
 at_:PySem.W.findIn K (.ref C) m=some (some (.ref f))
 fn:PySem.W.isFn K (.ref f)=true
 kp:PySem.W.keepIn K (.ref f)=true
section
variable {X:Cx} {pins:List (Addr×Obj)} {σ:St} {H:Hp} {s:Shared} {a C dx:Addr} {fs:List (Str×V)} {f:Str} {v:V} {A:Around} {E:Value->Shared->Prop}
theorem pM {b:Bool} {Q:Value->Shared->Prop} (I:Inv X pins σ H s) (e:H a=some (.ins C dx fs)) (c:Cls X.K C) (n:cF X.K C f) (l:fs.lookup f=some v)
  (h:∀u s',Inv X pins σ H s'->RelV v u->Q u s'):wpAny (model X.prog X.w) A (getAttr (.ref a) f b) Q E s:=by
 obtain ⟨mA,O,r,_,_,_⟩:=hZ I.hok e;obtain ⟨u,hu,ru⟩:=bY.some_of (v:=v) (o:=mA f) (by rw [←l];exact r f);exact get_map I.kIn O (c.get f) c.hd n hu (rX ru) (h u _ (I.tok _) ru)
theorem jn {m:Str} {g:Addr} {pl:Sem Bool} {Q:Value×List Value->Shared->Prop} (I:Inv X pins σ H s) (e:H a=some (.ins C dx fs)) (c:Cls X.K C) (k:Meth X.K C m g) (l:fs.lookup m=none)
  (h:Q (.ref g,[.ref a]) s):wpAny (model X.prog X.w) A (getMethod (.ref a) m pl) Q E s:=by
 obtain ⟨mA,O,r,_,_,_⟩:=hZ I.hok e;have hn:mA m=none:=bY.none_of (by rw [←l];exact r m);exact uy I.kIn O (c.get m) k.at_ k.fn hn h
theorem qw {y:V} {u:Value} {Q:Unit->Shared->Prop} (I:Inv X pins σ H s) (e:H a=some (.ins C dx fs)) (c:Cls X.K C) (n:cF X.K C f) (hl:fs.length<1000) (ry:RelV y u)
  (h:∀s',Inv X pins σ (upd H a (.ins C dx (b5 f y fs))) s'->Q () s'):wpAny (model X.prog X.w) A (setAttr (.ref a) f u) Q E s:=by
 obtain ⟨mA,O,r,wi,_,ho⟩:=hZ I.hok e;have hz:(fs.map (·.1)).length<=sizeLine:=by rw [Ez,sizeLine_eq];omega
 refine yL I.kIn O c.sa c.po n.C7 c.hd wi hz fun h' O' sb=>h _ ?_;have hd:∃o,h'.get? dx=some o:=let ⟨o,_,_,e',_⟩:=O'.ns;⟨o,e'⟩
 refine I.write (x:=a) (e:=dx) (by rw [e];exact True.intro) (.inr ho) (fun b q hb z=>(sb.2 b hb).trans z) hd ?_;refine ⟨by rw [ao O.ne];exact ho,?_,O.ne,O'.obj,_,O'.ns,fun g=>?_,fun g hg=>?_⟩
 ·have:=iD f y fs;omega
 ·show bY ((b5 f y fs).lookup g) (if g=f then some u else mA g);rw [iE]
  by_cases q:g=f
  ·rw [if_pos q,if_pos q];exact ry
  ·rw [if_neg q,if_neg q];exact r g
 ·by_cases q:g=f
  ·rw [q];exact (gP f y fs).1
  ·refine (gP f y fs).2 g (wi g fun z=>hg ?_);show (if g=f then some u else mA g)=none;rw [if_neg q];exact z
theorem Inv.made (I:Inv X pins σ H s):Inv X pins σ (upd (upd H s.heap.objs.size (.own (s.heap.objs.size+1))) (s.heap.objs.size+1) (.ins C s.heap.objs.size []))
  {s with heap:=(s.heap.push PySem.W.emptyDict).push (PySem.W.instObj C s.heap.objs.size)}:=by
 have e1:(s.heap.push PySem.W.emptyDict).get? s.heap.objs.size=some PySem.W.emptyDict:=Ch s.heap rfl;have e2:((s.heap.push PySem.W.emptyDict).push (PySem.W.instObj C s.heap.objs.size)).get? (s.heap.objs.size+1)=some (PySem.W.instObj C s.heap.objs.size):=by
  have:=Ch (s.heap.push PySem.W.emptyDict) (o:=PySem.W.instObj C s.heap.objs.size) rfl
  rwa [Heap.size_push] at this
 have e3:(s.heap.push PySem.W.emptyDict).Ns s.heap.objs.size (fun _=>none):=⟨PySem.W.emptyDict,#[],_,e1,rfl,(fun e he=>absurd he (by simp)),fun _=>rfl⟩
 have I1:=I.laid (a:=s.heap.objs.size) (o:=.own (s.heap.objs.size+1)) (h':=s.heap.push PySem.W.emptyDict) (t':=s.toks) (fun b u q=>BT _ q) (EG _) ⟨_,e1⟩;refine I1.laid (a:=s.heap.objs.size+1) (o:=.ins C s.heap.objs.size []) (t':=s.toks) (fun b u q=>BT _ q) (Nat.le_of_eq (Heap.size_push _ _)) ?_;have ne:s.heap.objs.size≠s.heap.objs.size+1:=EF (Nat.lt_succ_self _);refine ⟨by rw [ao ne,aG],Nat.zero_le _,ne,e2,fun _=>none,(Heap.Ns1.of_empty e3).at fun o q=>BT _ q,fun _=>True.intro,fun y hy=>absurd rfl hy⟩
theorem wx {prog:Program} {w:World} {env:Env} {e:Expr} {f:Str} {pos:Pos} {s:Shared} {Q:Value->Shared->Prop} (hb:attributeBase e f env (eval e env)=eval e env)
  (h:wpAny (model prog w) A (eval e env) (fun o s₁=>wpAny (model prog w) A (getAttr o f true) Q E s₁) E s):wpAny (model prog w) A (eval (.Attribute e f pos) env) Q E s:=
 Attribute_any_ h (by rw [arm_eval_Attribute,hb])
end
noncomputable def D9 (K:PySem.W.Frag) (ta:TE) (f:Str):TE:=fun σ H Q=>ta σ H fun x H1=>∃a C dx fs v,x=.ref a∧H1 a=some (.ins C dx fs)∧Cls K C∧cF K C f∧fs.lookup f=some v∧Q v H1
noncomputable def D4 (K:PySem.W.Frag) (ta tv:TE) (f:Str):TS:=fun D σ H=>tv σ H fun y H1=>ta σ H1 fun x H2=>∃a C dx fs,x=.ref a∧H2 a=some (.ins C dx fs)∧Cls K C∧cF K C f∧fs.length<1000∧
 D.nx σ (upd H2 a (.ins C dx (b5 f y fs)))
section
variable {X:Cx} {o e value:Expr} {f:Str} {pos pos' tpos:Pos} {ta tv:TE}
theorem A2 (he:PE X e ta) (hb:attributeBase e f X.env (eval e X.env)=eval e X.env):PE X (.Attribute e f pos) (D9 X.K ta f):=by
 intro pins s σ H Q I h;refine wx hb (thn (he pins s σ H _ I h) fun u s1 ⟨x,H1,I1,rx,a,C,dx,fs,v,ex,ea,c,n,l,q⟩=>?_);subst ex;obtain rfl:u=Value.ref a:=rx;exact pM I1 ea c n l fun u' s2 I2 ru=>⟨v,H1,I2,ru,q⟩
theorem Be (ha:PE X o ta) (hv:PE X value tv) (hs:swapsWith value (some (.Attribute o f pos')) pos.line X.env=pure false):PS X (.Assign [.Attribute o f pos'] value pos) (D4 X.K ta tv f):=by
 intro pins s σ H D I h;refine plainObj_wpAny_Assign_Attribute (thn (hv pins s σ H _ I h) fun u s1 ⟨y,H1,I1,ry,q⟩=>thn (ha pins s1 σ H1 _ I1 q) fun ov s2 ⟨x,H2,I2,rx,a,C,dx,fs,ex,ea,c,n,l,q2⟩=>?_) hs;subst ex;obtain rfl:ov=Value.ref a:=rx;exact qw I2 ea c n l ry fun s3 I3=>⟨σ,_,I3,q2⟩
end
structure aJ (k:Nat) (A:Around):Prop where
 hd:A.handled=none
 dp:A.depth+3*k+5<recursionLimit
 un:A.units+16*k+200<cLine
theorem aJ.mono (r:aJ k A) (h:j<=k):aJ j A:=⟨r.hd,by have:=r.dp;omega,by have:=r.un;omega⟩
theorem aJ.deeper (r:aJ (k+1) A) (env:Env):aJ k (A.deeper env):=
 ⟨r.hd,by have:=r.dp;show A.depth+1+3*k+5<_;omega,by have:=r.un;show A.units+3+16*k+200<_;omega⟩
theorem qd {A:Around} {C:Addr} {us:List Value} {kw:List (Str×Value)}:(A.under (.builtin "type.__call__" ⟨.ref C::us,kw⟩)).depth=A.depth+1:=by
 first|rfl|simp [Around.under,Code.weight,Code.isCreation,Code.isGuard,Code.isCaller,Code.frames,Code.isFrame,guardIds]
theorem qe {A:Around} {C:Addr} {us:List Value} {kw:List (Str×Value)}:(A.under (.builtin "type.__call__" ⟨.ref C::us,kw⟩)).units=A.units+1:=by
 first|rfl|simp [Around.under,Code.cUnits,Code.frames,Code.isFrame]
theorem aJ.make (r:aJ (k+1) A) (C:Addr) (us:List Value) (kw:List (Str×Value)):aJ k (A.under (.builtin "type.__call__" ⟨.ref C::us,kw⟩)):=
 ⟨r.hd,by have:=r.dp;rw [qd];omega,by have:=r.un;rw [qe];omega⟩
theorem aJ.depth (r:aJ k A):A.depth<recursionLimit:=by have:=r.dp;omega
theorem aJ.units (r:aJ k A):A.units+64<cLine:=by have:=r.un;omega
noncomputable def qD:TA:=fun _ H Q=>Q [] H
noncomputable def CQ (ta:TE) (tr:TA):TA:=fun σ H Q=>ta σ H fun x H1=>tr σ H1 fun xs H2=>Q (x::xs) H2
section
variable {X:Cx} {e:Expr} {es:List Expr} {te:TE} {t:TA} {pos:Pos}
theorem sH:PA X [] qD:=fun _ _ _ _ H Q I h=>Calls.spliced_nil ⟨[],H,I,.nil,h⟩
theorem oQ (ha:PE X e te) (hr:PA X es t) (hs:(starEach (e::es) X.env=(false,eval e X.env)::starEach es X.env)⁻¹):PA X (e::es) (CQ te t):=by
 intro pos pins s σ H Q I h;rw [hs];show wpAny _ _ (spliced ((false,eval e X.env)::backTo pos (starEach es X.env))) _ _ s;refine Calls.spliced_cons (thn (ha pins s σ H _ I h) fun u s1 ⟨x,H1,I1,r1,q1⟩=>?_);exact thn (hr pos pins s1 σ H1 _ I1 q1) fun us s2 ⟨xs,H2,I2,r2,q2⟩=>⟨x::xs,H2,I2,.cons r1 r2,q2⟩
noncomputable def Eg (t:TA):TE:=fun σ H Q=>t σ H fun xs H1=>xs.length<=sizeLine∧∀p,H1 p=none->Q (.ref p) (upd H1 p (.tup xs))
noncomputable def Ea (t:TA):TE:=fun σ H Q=>t σ H fun xs H1=>xs.length<=sizeLine∧∀p,H1 p=none->Q (.ref p) (upd H1 p (.lst xs))
theorem A8 {x1} (h:PA X es t):PE X (.Tuple es x1 pos) (Eg t):=by
 intro pins s σ H Q I hq;refine wpAny_Tuple_spliced (thn (h pos pins s σ H _ I hq) fun us s1 ⟨xs,H1,I1,r,z,q⟩=>⟨by rw [←r.length];exact z,?_⟩);have hf:H1 s1.heap.objs.size=none:=I1.hok.fresh (EG _);refine ⟨.ref s1.heap.objs.size,upd H1 s1.heap.objs.size (.tup xs),I1.laid (t':=s1.toks) (fun b u e=>BT _ e) (EG _) ?_,rfl,q _ hf⟩;exact ⟨z,us,r,⟨_,Ch _ rfl,rfl,_,rfl⟩⟩
theorem sJ (h:PA X es t):PE X (.List es pos) (Ea t):=by
 intro pins s σ H Q I hq;refine wpAny_List_spliced (thn (h pos pins s σ H _ I hq) fun us s1 ⟨xs,H1,I1,r,z,q⟩=>⟨by rw [←r.length];exact z,?_⟩);have hf:H1 s1.heap.objs.size=none:=I1.hok.fresh (EG _);refine ⟨.ref s1.heap.objs.size,upd H1 s1.heap.objs.size (.lst xs),I1.laid (t':=s1.toks) (fun b u e=>BT _ e) (EG _) ?_,rfl,q _ hf⟩;exact ⟨z,us,0,r,Ch _ rfl⟩
end
noncomputable abbrev Sp:=List V->Hp->VK->XK->Prop
noncomputable abbrev CXT:=List Env->Hp->Shared->XK->Value->Shared->Prop
structure iH (P:Program) (w:World) (K:PySem.W.Frag) (mg:Str->Option Value) (base:Heap) (A:Around) (outer:List Env) (s:Shared) (H:Hp):Prop where
 frames:A.frames=some outer
 mod:Mod K mg base
 bs:∀b o,base.get? b=some o->s.heap.get? b=some o∧H b=none
 bsz:base.objs.size<=s.heap.objs.size
 c_:s.heap.FunFrames base outer
 frf:∀b∈frs outer,H b=none
 hok:HOk P w H s.heap
 bare:AllBare s.gens
noncomputable def CE (outer:List Env) (P:Program) (w:World) (H:Hp) (s:Shared) (Q:VK) (u:Value) (s':Shared):Prop:=
 ∃v H',s'.os=s.os∧AllBare s'.gens∧Un (frs outer) [] H H' s.heap s'.heap∧HOk P w H' s'.heap∧RelV v u∧Q v H'
noncomputable def CR (CX:CXT) (outer:List Env) (P:Program) (w:World) (H:Hp) (s:Shared) (Q:VK) (E:XK) (r:Result) (s':Shared):Prop:=
 match r with
 |.ok (.ret u)=>CE outer P w H s Q u s'
 |.ok _=>False
 |.error e=>CX outer H s E e s'
structure aE (P:Program) (w:World) (K:PySem.W.Frag) (mg:Str->Option Value) (base:Heap) (CX:CXT) (k:Nat) (f:Addr) (fd:FuncData) (ps:List Str) (sp:Sp):Prop where
 len:∀vs H Q E,sp vs H Q E->vs.length=ps.length
 run:∀(A:Around) (outer:List Env) (s:Shared) (H:Hp) (args:Args) (us:List Value) (vs:List V) (Q:VK) (E:XK),aJ k A->iH P w K mg base A outer s H->BindsTo s fd args (ps.zip us)->Vals vs us->sp vs H Q E->
  codeAny (model P w) A (.call (.ref f) args) (CR CX outer P w H s Q E) s
theorem aE.imp {P:Program} {w:World} {K:PySem.W.Frag} {mg:Str->Option Value} {base:Heap} {CX:CXT} {k:Nat} {f:Addr} {fd:FuncData} {ps:List Str} {sp sp':Sp} (F:aE P w K mg base CX k f fd ps sp)
  (h:∀vs H Q E,sp' vs H Q E->sp vs H Q E):aE P w K mg base CX k f fd ps sp':=
 ⟨fun vs H Q E q=>F.len vs H Q E (h _ _ _ _ q),fun A outer s H args us vs Q E hr he hb hv hs=>F.run A outer s H args us vs Q E hr he hb hv (h _ _ _ _ hs)⟩
theorem iH.make {P:Program} {w:World} {K:PySem.W.Frag} {mg:Str->Option Value} {base:Heap} {A:Around} {outer:List Env} {s:Shared} {H:Hp} (e:iH P w K mg base A outer s H) (C:Addr) (us:List Value) (kw:List (Str×Value)):
  iH P w K mg base (A.under (.builtin "type.__call__" ⟨.ref C::us,kw⟩)) outer s H:=⟨by first|exact e.frames|(simpa [Around.under,Code.envs,Code.isFrame,pushEnvs] using e.frames),e.mod,e.bs,e.bsz,e.c_,e.frf,e.hok,e.bare⟩
section
variable {X:Cx} {pins:List (Addr×Obj)} {σ:St} {H:Hp} {s s':Shared}
theorem Inv.zX (I:Inv X pins σ H s):iH X.prog X.w X.K X.mg X.base X.A X.stack s H:=
 ⟨I.ok.frames,I.ok.mod,I.bs,EE I.ok.bsz I.sz,I.stack,I.o5,I.hok,I.bare⟩
theorem Inv.after (I:Inv X pins σ H s) (h:CE X.stack X.prog X.w H s Q u s'):EP X pins σ Q u s':=by
 obtain ⟨v,H',os,bare,un,hok,r,q⟩:=h;obtain ⟨hh,g,d,t,os'⟩:=s';obtain rfl:os'=s.os:=os;exact ⟨v,H',I.call (h':=hh) (g':=g) (d':=d) (t':=t) (ch:=[]) un hok bare (fun b z=>absurd z (by simp)),r,q⟩
end
noncomputable def CP (sp:Sp) (dvs:List V) (E:XK) (t:TA):TE:=fun σ H Q=>t σ H fun vs H1=>sp (vs++dvs) H1 Q E
noncomputable def wm (C:Addr) (m:Str) (sp:Sp) (dvs:List V) (E:XK) (ta:TE) (t:TA):TE:=fun σ H Q=>ta σ H fun x H1=>∃a dx fs,x=.ref a∧H1 a=some (.ins C dx fs)∧fs.lookup m=none∧
 t σ H1 fun vs H2=>sp (x::(vs++dvs)) H2 Q E
noncomputable def CY (C:Addr) (sp:Sp) (dvs:List V) (E:XK) (t:TA):TE:=fun σ H Q=>t σ H fun vs H1=>∀x dx,H1 x=none->H1 dx=none->dx≠x->
 sp (.ref x::(vs++dvs)) (upd (upd H1 dx (.own x)) x (.ins C dx [])) (fun v H2=>v=.non∧Q (.ref x) H2) E
noncomputable def Binds (K:PySem.W.Frag) (fd:FuncData) (ps:List Str) (ds:List Value):Prop:=
 ∀(s:Shared) (us:List Value),K.In s.heap->(us++ds).length=ps.length->BindsTo s fd ⟨us,[]⟩ (ps.zip (us++ds))
theorem Binds.all {K:PySem.W.Frag} {fd:FuncData} {ps:List Str} (h:∀us:List Value,us.length=ps.length->bindArgs fd ⟨us,[]⟩=pure (ps.zip us)):Binds K fd ps []:=fun s us _ hl=>by
 rw [List.append_nil] at hl ⊢;exact .of_eq (h us hl)
noncomputable def Passes (CX:CXT) (X:Cx) (E:XK):Prop:=∀(pins:List (Addr×Obj)) (σ:St) (H:Hp) (s:Shared) (e:Value) (s':Shared),Inv X pins σ H s->CX X.stack H s E e s'->X.xe e s'
section
variable {X:Cx} {CX:CXT} {k:Nat} {f C:Addr} {fd:FuncData} {ps:List Str} {sp:Sp} {dvs:List V} {ds:List Value} {E:XK} {x m:Str} {p pos apos:Pos} {e o:Expr} {es:List Expr} {ta:TE} {t:TA}
theorem nq {pins:List (Addr×Obj)} {σ:St} {H:Hp} {s:Shared} {Q:VK} {us:List Value} {vs:List V} (F:aE X.prog X.w X.K X.mg X.base CX k f fd ps sp) (hr:aJ k X.A) (hb:Binds X.K fd ps ds) (hd:Vals dvs ds) (hx:Passes CX X E)
  (I:Inv X pins σ H s) (r:Vals vs us) (h:sp (vs++dvs) H Q E):wpAny (model X.prog X.w) X.A (call (.ref f) us) (EP X pins σ Q) X.xe s:=by
 have r2:Vals (vs++dvs) (us++ds):=r.append hd;have hl:(us++ds).length=ps.length:=by rw [←r2.length];exact F.len _ _ _ _ h
 refine wpAny_call (codeAny_mono (F.run X.A X.stack s H ⟨us,[]⟩ (us++ds) (vs++dvs) Q E hr I.zX (hb s us I.kIn hl) r2 h) fun r s' hq=>?_);cases r with
 |error e=>exact hx pins σ H s e s' I hq
 |ok fl=>
  cases fl with
  |ret u=>exact I.after hq
  |next=>exact False.elim hq
  |brk=>exact False.elim hq
  |cont=>exact False.elim hq
theorem oR (F:aE X.prog X.w X.K X.mg X.base CX k f fd ps sp) (hr:aJ k X.A) (hg:Gl X x) (hm:X.mg x=some (.ref f)) (hk:PySem.W.keepIn X.K (.ref f)=true) (hb:Binds X.K fd ps ds) (hd:Vals dvs ds) (hx:Passes CX X E)
  (ha:PA X (e::es) t) (hdb: ~~~((x==("__debug__":Str))=false)) (he:(starEach (e::es) X.env=(false,eval e X.env)::starEach es X.env)⁻¹) (hpl:((backTo pos (starEach es X.env)).any (·.1)=false)⁻¹):
  PE X (.Call (.Name x p) (e::es) [] pos) (CP sp dvs E t):=by
 intro pins s σ H Q I h;refine wpAny_Call_Name_kw (jZ I hg hm ?_ hdb);refine PySem.W.callWith_K (h₀:=X.base) I.ok.mod.kin hk (thn (ha pos pins s σ H _ I h) fun us s1 ⟨vs,H1,I1,r,q⟩=>⟨I1.kIn,?_⟩) he hpl;exact nq F hr hb hd hx I1 r q
theorem oT (he:PE X o ta) (c:Cls X.K C) (hm:Meth X.K C m f) (F:aE X.prog X.w X.K X.mg X.base CX k f fd ps sp) (hr:aJ k X.A) (hb:Binds X.K fd ps ds) (hd:Vals dvs ds) (hx:Passes CX X E) (ha:PA X (e::es) t)
  (hst:(starEach (e::es) X.env=(false,eval e X.env)::starEach es X.env)⁻¹) (hpl:((backTo pos (starEach es X.env)).any (·.1)=false)⁻¹)
  (ht:(eval (.Call (.Attribute o m apos) (e::es) [] pos) X.env=(do
   let ov←eval o X.env
   standAt apos.atName
   let (f,first)←holding [ov] (getMethod ov m pl)
   callWith pos f first (backTo pos (starEach (e::es) X.env)) (backToKw pos (keywordEach [] X.env))))⁻¹):
  PE X (.Call (.Attribute o m apos) (e::es) [] pos) (wm C m sp dvs E ta t):=by
 intro pins s σ H Q I h;refine PySem.W.methodCall_KW (pl:=pl) (thn (he pins s σ H _ I h) fun u s1 ⟨x,H1,I1,rx,a,dx,fs,ex,ea,l,q⟩=>?_) ht;subst ex;obtain rfl:u=Value.ref a:=rx;refine jn I1 ea c hm l ?_;refine PySem.W.callWith_K (first:=[.ref a]) (h₀:=X.base) I.ok.mod.kin hm.kp (thn (ha pos pins s1 σ H1 _ I1 q) fun us s2 ⟨vs,H2,I2,r,q2⟩=>⟨I2.kIn,?_⟩) hst hpl;exact nq (us:=.ref a::us) (vs:=.ref a::vs) F hr hb hd hx I2 (.cons rfl r) q2
theorem mY (he:PE X o ta) (c:Cls X.K C) (hm:Meth X.K C m f) (F:aE X.prog X.w X.K X.mg X.base CX k f fd ps sp) (hr:aJ k X.A) (hb:Binds X.K fd ps ds) (hd:Vals dvs ds) (hx:Passes CX X E)
  (ht:(eval (.Call (.Attribute o m apos) [] [] pos) X.env=(do
   let ov←eval o X.env
   standAt apos.atName
   let (f,first)←holding [ov] (getMethod ov m pl)
   callWith pos f first (backTo pos (starEach [] X.env)) (backToKw pos (keywordEach [] X.env))))⁻¹):
  PE X (.Call (.Attribute o m apos) [] [] pos) (wm C m sp dvs E ta qD):=by
 intro pins s σ H Q I h;refine PySem.W.methodCall_KW (pl:=pl) (thn (he pins s σ H _ I h) fun u s1 ⟨x,H1,I1,rx,a,dx,fs,ex,ea,l,q⟩=>?_) ht;subst ex;obtain rfl:u=Value.ref a:=rx;refine jn I1 ea c hm l ?_;exact PySem.W.callWith_K0 (first:=[.ref a]) I1.kIn hm.kp (nq (us:=[.ref a]) (vs:=[.ref a]) F hr hb hd hx I1 (.cons rfl .nil) q)
structure Mk (K:PySem.W.Frag) (C f:Addr):Prop where
 makes:PySem.W.makesIn K C=true
 init:PySem.W.findIn K (.ref C) "__init__"=some (some (.ref f))
 fn:PySem.W.isFn K (.ref f)=true
 kp:PySem.W.keepIn K (.ref C)=true
theorem vh (M:Mk X.K C f) (F:aE X.prog X.w X.K X.mg X.base CX k f fd ps sp) (hr:aJ (k+1) X.A) (hb:Binds X.K fd ps ds) (hd:Vals dvs ds)
  (hx:Passes CX X E) (I:Inv X pins σ H s) (r:Vals vs us)
  (h:∀x dx,H x=none->H dx=none->dx≠x->sp (.ref x::(vs++dvs)) (upd (upd H dx (.own x)) x (.ins C dx [])) (fun v H2=>v=.non∧Q (.ref x) H2) E):
  wpAny (model X.prog X.w) X.A (call (.ref C) us) (EP X pins σ Q) X.xe s:=by
 have hq:=h (s.heap.objs.size+1) s.heap.objs.size (I.hok.fresh (Nat.le_succ _)) (I.hok.fresh (EG _)) (EF (Nat.lt_succ_self _));have I2:=Inv.made (C:=C) I;have r2:Vals (V.ref (s.heap.objs.size+1)::(vs++dvs)) (Value.ref (s.heap.objs.size+1)::(us++ds)):=.cons rfl (r.append hd);have hl:(Value.ref (s.heap.objs.size+1)::us++ds).length=ps.length:=by
  have e:=r2.length;rw [F.len _ _ _ _ hq] at e;exact e.symm
 refine wpAny_call (uK (f:=f) I.kIn M.makes M.init (beq_iff_eq.mp M.fn) (codeAny_mono (F.run _ X.stack _ _ ⟨Value.ref (s.heap.objs.size+1)::us,[]⟩ (Value.ref (s.heap.objs.size+1)::(us++ds)) _ _ E (hr.make C us [])
  (I2.zX.make C us []) (hb _ (Value.ref (s.heap.objs.size+1)::us) I2.kIn hl) r2 hq) fun r s' hq'=>?_))
 cases r with
 |error e=>exact hx pins σ _ _ e s' I2 hq'
 |ok fl=>
  cases fl with
  |ret u=>
   obtain ⟨v,H',I3,rv,ev,q3⟩:=I2.after hq';subst ev;exact ⟨rv,⟨V.ref (s.heap.objs.size+1),H',I3,rfl,q3⟩⟩
  |next=>exact False.elim hq'
  |brk=>exact False.elim hq'
  |cont=>exact False.elim hq'
theorem yj (M:Mk X.K C f) (F:aE X.prog X.w X.K X.mg X.base CX k f fd ps sp) (hr:aJ (k+1) X.A) (hg:Gl X x) (hm:X.mg x=some (.ref C)) (hb:Binds X.K fd ps ds) (hd:Vals dvs ds) (hx:Passes CX X E)
  (ha:PA X (e::es) t) (hdb: ~~~((x==("__debug__":Str))=false)) (he:(starEach (e::es) X.env=(false,eval e X.env)::starEach es X.env)⁻¹) (hpl:((backTo pos (starEach es X.env)).any (·.1)=false)⁻¹):
  PE X (.Call (.Name x p) (e::es) [] pos) (CY C sp dvs E t):=by
 intro pins s σ H Q I h;refine wpAny_Call_Name_kw (jZ I hg hm ?_ hdb);refine PySem.W.callWith_K (h₀:=X.base) I.ok.mod.kin M.kp (thn (ha pos pins s σ H _ I h) fun us s1 ⟨vs,H1,I1,r,q⟩=>⟨I1.kIn,?_⟩) he hpl;exact vh M F hr hb hd hx I1 r q
end
noncomputable def PK (X:Cx) (kws:List Keyword) (t:TA):Prop:=
 ∀(pos:Pos) (pins:List (Addr×Obj)) (s:Shared) (σ:St) (H:Hp) (Q:List V->Hp->Prop),Inv X pins σ H s->t σ H Q->wpAny (model X.prog X.w) X.A (evalAll ((backToKw pos (keywordEach kws X.env)).map (·.2))) (AP X pins σ Q) X.xe s
structure bC (N P:List Str) (sc:Scope):Prop where
 kind:sc.kind=.function
 co:sc.isCoroutine=false
 gen:sc.isGenerator=false
 nd:N.Nodup
 pre:N.take P.length=P
 par:∀x∈P,sc.names.lookup x=some .local∨sc.names.lookup x=some .cell
 AI:∀y∈sc.names,y.2≠.free
theorem kC {kindOf:Str->Option NameKind} {x:Str}:∀{binds:List (Str×Value)} {m:Str->Option Value},(∀v,(x,v)∉binds)->bindL kindOf binds m x=m x
 |[],_,_=>rfl
 |(n,v)::r,m,h=>by
  unfold bindL;rw [kC fun w hw=>h w (En _ hw)];split
  ·have:x≠n:=by rintro rfl;exact h v Eo
   simp [this]
  ·rfl
theorem kA {kindOf:Str->Option NameKind} {x:Str}:∀{binds:List (Str×Value)} {m:Str->Option Value},(∀v,(x,v)∉binds)->bindC kindOf binds m x=m x
 |[],_,_=>rfl
 |(n,v)::r,m,h=>by
  unfold bindC;rw [kA fun w hw=>h w (En _ hw)];split
  ·rfl
  ·have:x≠n:=by rintro rfl;exact h v Eo
   simp [this]
theorem kB {kindOf:Str->Option NameKind} {x:Str} {v:Value}:∀{P:List Str} {vs:List Value} {i:Nat} {m:Str->Option Value},P.Nodup->P[i]?=some x->vs[i]?=some v->kindOf x=some .local->
  bindL kindOf (P.zip vs) m x=some v
 |[],_,_,_,_,h,_,_=>by simp at h
 |_::_,[],_,_,_,_,h,_=>by simp at h
 |p::P,w::vs,0,m,nd,h1,h2,hk=>by
  simp at h1 h2;subst h1;subst h2;show bindL kindOf ((p,w)::P.zip vs) m p=_;unfold bindL;rw [kC fun v hv=>(List.nodup_cons.mp nd).1 (List.of_mem_zip hv).1,if_pos hk];simp
 |p::P,w::vs,i+1,m,nd,h1,h2,hk=>by
  show bindL kindOf ((p,w)::P.zip vs) m x=_;unfold bindL;exact kB (i:=i) (List.nodup_cons.mp nd).2 (by simpa using h1) (by simpa using h2) hk
theorem kz {kindOf:Str->Option NameKind} {x:Str} {v:Value}:∀{P:List Str} {vs:List Value} {i:Nat} {m:Str->Option Value},P.Nodup->P[i]?=some x->vs[i]?=some v->kindOf x≠some .local->
  bindC kindOf (P.zip vs) m x=some v
 |[],_,_,_,_,h,_,_=>by simp at h
 |_::_,[],_,_,_,_,h,_=>by simp at h
 |p::P,w::vs,0,m,nd,h1,h2,hk=>by
  simp at h1 h2;subst h1;subst h2;show bindC kindOf ((p,w)::P.zip vs) m p=_;unfold bindC;rw [kA fun v hv=>(List.nodup_cons.mp nd).1 (List.of_mem_zip hv).1,if_neg hk];simp
 |p::P,w::vs,i+1,m,nd,h1,h2,hk=>by
  show bindC kindOf ((p,w)::P.zip vs) m x=_;unfold bindC;exact kz (i:=i) (List.nodup_cons.mp nd).2 (by simpa using h1) (by simpa using h2) hk
noncomputable def start (N:List Str) (vs:List V):St:=vs.map some++List.replicate (N.length - vs.length) none
noncomputable def dN (CX:CXT) (P:Program) (w:World) (K:PySem.W.Frag) (mg:Str->Option Value) (base:Heap) (N:List Str) (qual:Str) (scope:Scope) (f:Addr) (cd:Value) (A:Around) (outer:List Env) (s:Shared) (H:Hp) (E:XK):Cx where
 prog:=P
 w:=w
 K:=K
 mg:=mg
 base:=base
 A:=A.deeper (envOfC qual scope s.heap.objs.size f cd)
 N:=N
 s₀:=s
 H₀:=H
 env:=envOfC qual scope s.heap.objs.size f cd
 outer:=outer
 stack:=envOfC qual scope s.heap.objs.size f cd::outer
 ex:=[]
 calm:=true
 fn:=fun _=>true
 pn:=[]
 xe:=fun e s'=>wpAny (model P w) (A.deeper (envOfC qual scope s.heap.objs.size f cd)) (leaving (envOfC qual scope s.heap.objs.size f cd) e) (fun _ s''=>CX outer H s E e s'') (fun e' s''=>CX outer H s E e' s'') s'
theorem md {sc:Scope} {n:Nat} {x:Str} (h:sc.names.lookup x=some .cell):∃c,(cellsFrom n sc.names []).lookup x=some c:=by
 have q:=PySem.W.cellsFrom_some sc.names n [] (.inl h);exact Option.isSome_iff_exists.mp q
theorem r8 {CX:CXT} {P:Program} {w:World} {K:PySem.W.Frag} {mg:Str->Option Value} {base:Heap} {N ps:List Str} {qual:Str} {scope:Scope} {f:Addr} {cd:Value} {A:Around} {outer:List Env} {s s1:Shared} {H:Hp} {E:XK} {us:List Value} {vs:List V}
  (S:bC N ps scope) (hd:A.handled=none) (e0:iH P w K mg base A outer s H) (hl:vs.length=ps.length) (r:Vals vs us)
  (x:InCallC s s.heap.objs.size (bindL (envOfC qual scope s.heap.objs.size f cd).kindOf (ps.zip us) fun _=>none) (cellsFrom (s.heap.objs.size+1) scope.names []) (bindC (envOfC qual scope s.heap.objs.size f cd).kindOf (ps.zip us) fun _=>none) s1):
  Inv (dN CX P w K mg base N qual scope f cd A outer s H E) [] (start N vs) H s1:=by
 have hpl:ps.length<=N.length:=by have:=congrArg List.length S.pre;rw [List.length_take] at this;omega
 obtain ⟨h1,tk,rfl,hk⟩:=x.done;have noA:∀b:Addr,b∉(dN CX P w K mg base N qual scope f cd A outer s H E).ex:=fun b z=>absurd (show b∈([]:List Addr) from z) (by simp);refine ⟨⟨e0.mod,S.kind,rfl,rfl,EG _,fun y z c h1 h2=>?_,fun y hy=>?_,fun y c _ h=>?_,fun _=>hd,Around.frames_deeper e0.frames,.inr ⟨rfl,rfl⟩,fun b z=>absurd z (noA b),e0.bs,e0.bsz,fun b _ _=>noA b,fun b z=>absurd z (noA b),e0.c_,e0.frf⟩,
  rfl,e0.bare,Un.kept hk,⟨_,x.toInCall.ns,fun i y v h1 h2 h3=>?_⟩,fun y c h=>⟨_,x.cell y c h⟩,e0.hok.fresh (EG _),fun y c h=>?_,fun p hp=>absurd (show p∈([]:List (Addr×Obj)) from hp) (by simp),e0.hok.kept hk,?_⟩
 ·exact name_of_addr x.apart (PySem.mem_of_lookup h1) (PySem.mem_of_lookup h2)
 ·have hy:scope.names.lookup y=some .cell∨scope.names.lookup y=some .free:=hy;rcases hy with hy|hy
  ·exact md hy
  ·exact absurd rfl (S.AI _ (PySem.mem_of_lookup hy))
 ·exact Nat.le_of_lt (x.above y c (PySem.mem_of_lookup h))
 ·have hi:i<vs.length:=by
   unfold start at h2
   by_cases hi:i<vs.length
   ·exact hi
   ·rw [List.getElem?_append_right (by simpa using hi)] at h2;rw [List.getElem?_replicate] at h2;split at h2<;>cases h2
  have ha:vs[i]?=some v:=by
   unfold start at h2;rw [List.getElem?_append_left (by simpa using hi),List.getElem?_map] at h2;cases e:vs[i]? with
   |none=>rw [e] at h2;cases h2
   |some a=>rw [e] at h2;cases h2;rfl
  obtain ⟨u,hu,rv⟩:=r.get ha;have hp:ps[i]?=some y:=by
   rw [←S.pre,List.getElem?_take_of_lt (by omega)];exact h1
  have ndP:ps.Nodup:=by rw [←S.pre];exact S.nd.sublist (List.take_sublist _ _)
  refine ⟨u,rv,?_⟩;rcases S.par y (List.mem_of_getElem? hp) with k|k
  ·exact .inl ⟨k,kB ndP hp hu k⟩
  ·obtain ⟨c,e⟩:=md (n:=s.heap.objs.size+1) k;refine .inr ⟨.inl k,c,e,?_⟩;have q:=x.cell y c e;rw [kz ndP hp hu (by show scope.names.lookup y≠_;rw [k];decide)] at q;exact q
 ·exact e0.hok.fresh (Nat.le_of_lt (x.above y c (PySem.mem_of_lookup h)))
 ·unfold start;show _=N.length;rw [Ey,Ez,List.length_replicate];omega
theorem Cc {CX:CXT} {P:Program} {w:World} {K:PySem.W.Frag} {mg:Str->Option Value} {base:Heap} {k:Nat} {f:Addr} {name qual:Str} {params:Arguments} {body:List Stmt} {scope:Scope} {dV kV doc pm cdv ct oc:Value} {an od:Option Addr}
  {osl:Array (Option Value)} {N ps:List Str} {sp:Sp} (lk:K.lookup f=some ⟨oc,od,.func (PySem.W.fnOf name qual params body scope dV kV doc pm an cdv ct),osl⟩) (hcd:PySem.W.codeIn K cdv qual=true) (S:bC N ps scope)
  (len:∀vs H Q E,sp vs H Q E->vs.length=ps.length)
  (hbody:∀(A:Around) (outer:List Env) (s:Shared) (H:Hp) (vs:List V) (Q:VK) (E:XK),aJ k (A.deeper (envOfC qual scope s.heap.objs.size f cdv))->sp vs H Q E->
   ∃t,PSs (dN CX P w K mg base N qual scope f cdv A outer s H E) body t∧t {nx:=fun _ H'=>Q .non H',rt:=Q} (start N vs) H):
  aE P w K mg base CX (k+1) f (PySem.W.fnOf name qual params body scope dV kV doc pm an cdv ct) ps sp:=by
 refine ⟨len,fun A outer s H args us vs Q E hr e0 hb r hsp=>?_⟩;have hl:=len _ _ _ _ hsp;have KX:K.In s.heap:=e0.mod.kin.keeps fun b o e=>(e0.bs b o e).1;have lim:s.heap.NoLimit:=e0.mod.nolimit.keeps fun b o e=>(e0.bs b o e).1;have hkind:∀y∈ps.zip us,scope.names.lookup y.1=some .local∨(scope.names.lookup y.1=some .cell∧((cellsFrom (s.heap.objs.size+1) scope.names []).lookup y.1).isSome=true):=fun ⟨n,v⟩ hy=>by
  rcases S.par n (List.of_mem_zip hy).1 with q|q
  ·exact .inl q
  ·exact .inr ⟨q,PySem.W.cellsFrom_some _ _ _ (.inl q)⟩
 refine codeAny_call_function hr.depth (KX _ _ lk) rfl S.co S.gen rfl (PySem.W.codeRec_of KX hcd) (hb _ _ _ _ ?_);refine wpAny_newFunctionEnv_cells S.kind hkind fun env he s1 x=>?_;subst he;refine ⟨lim.keeps x.toInCall.keep,codeAny_func ?_⟩;obtain ⟨t,ht,hq⟩:=hbody A outer s H vs Q E (hr.deeper _) hsp;have I:Inv (dN CX P w K mg base N qual scope f cdv A outer s H E) [] (start N vs) H s1:=r8 S hr.hd e0 hl r x;refine AT (ht [] s1 (start N vs) H _ I hq) (fun fl s' hs=>?_) fun e s' hs=>hs;have fin:∀{σ':St} {H':Hp} {v:V} {u:Value},Inv (dN CX P w K mg base N qual scope f cdv A outer s H E) [] σ' H' s'->RelV v u->Q v H'->CE outer P w H s Q u s':=
  fun {σ' H' v u} J rv q=>⟨v,H',J.os,J.bare,J.base,J.hok,rv,q⟩
 cases fl with
 |ret u=>
  obtain ⟨v,σ',H',J,rv,q⟩:=hs;exact fin J rv q
 |next=>
  obtain ⟨σ',H',J,q⟩:=hs;exact fin (v:=V.non) (u:=Value.none) J rfl q
 |brk=>
  obtain ⟨_,_,_,q⟩:=hs;exact False.elim q
 |cont=>
  obtain ⟨_,_,_,q⟩:=hs;exact False.elim q
section
variable {X:Cx} {x:Str} {p pos:Pos} {e:Expr} {es:List Expr} {t:TA} {id T:String} {r:List V->Hp->VK->Prop}
noncomputable def tCB (r:List V->Hp->VK->Prop) (t:TA):TE:=fun σ H Q=>t σ H fun vs H1=>r vs H1 Q
theorem uT (hc:cj X (.builtin id) r) (hg:Gl X x) (hm:X.mg x=none) (hv:bootBuiltins x=some (.builtin id)) (ha:PA X (e::es) t) (hn: ~~~(x≠"__name__")) (hdb: ~~~((x==("__debug__":Str))=false))
  (he:(starEach (e::es) X.env=(false,eval e X.env)::starEach es X.env)⁻¹) (hpl:((backTo pos (starEach es X.env)).any (·.1)=false)⁻¹):PE X (.Call (.Name x p) (e::es) [] pos) (tCB r t):=by
 intro pins s σ H Q I h;refine wpAny_Call_Name_kw (ej I hg hm hv ?_ hn hdb);exact PyProof.Rows.callWith_builtin1 (thn (ha pos pins s σ H _ I h) fun us s1 ⟨vs,H1,I1,r1,q1⟩=>hc pins s1 σ H1 vs us Q I1 r1 q1) he hpl
theorem g_ (hc:cj X (.type T) r) (hg:Gl X x) (hm:X.mg x=none) (hv:bootBuiltins x=some (.type T)) (ha:PA X (e::es) t) (hn: ~~~(x≠"__name__")) (hdb: ~~~((x==("__debug__":Str))=false))
  (he:(starEach (e::es) X.env=(false,eval e X.env)::starEach es X.env)⁻¹) (hpl:((backTo pos (starEach es X.env)).any (·.1)=false)⁻¹):PE X (.Call (.Name x p) (e::es) [] pos) (tCB r t):=by
 intro pins s σ H Q I h;refine wpAny_Call_Name_kw (ej I hg hm hv ?_ hn hdb);exact PyProof.Rows.callWith_type1 (thn (ha pos pins s σ H _ I h) fun us s1 ⟨vs,H1,I1,r1,q1⟩=>hc pins s1 σ H1 vs us Q I1 r1 q1) he hpl
end
end L2
namespace HT
open PySem PyProof.Rows
section
variable {prog:Program} {w:World} {A:Around} {E:Value->Shared->Prop} {s:Shared}
theorem wH (ht:IsTup s.heap t vs.toArray) (hb:IsTup s.heap b ws.toArray) (hv:vs≠[])
  (h1:ws=[]->Q (.ref t) s) (h2:ws≠[]->Q (.ref s.heap.objs.size) {s with heap:=s.heap.push {cls:=.type "tuple",data:=.seq (vs++ws).toArray}})
  (hsz:vs.length+ws.length<=sizeLine):wpAny (model prog w) A (binaryOp .Add (.ref t) (.ref b)) Q E s:=by
 obtain ⟨⟨cls,dd,data,sl⟩,ho,hc,n,hd⟩:=id ht;obtain ⟨⟨cls2,dd2,data2,sl2⟩,ho2,hc2,n2,hd2⟩:=id hb;simp only at hc hd hc2 hd2;subst hc hd hc2 hd2;have e:vs.toArray++ws.toArray=(vs++ws).toArray:=by simp
 by_cases hw:ws=[]
 ·exact concat_meets ⟨_,ho,rfl⟩ ⟨_,ho2,rfl⟩ noFill_tuple_add seq_tuple_add PySem.F.slot_tuple_add PySem.F.entry_tuple_add (PySem.F.args_tuple_add_2 _ _)
   (tuple_addW1 t b vs.toArray ws.toArray n n2 dd dd2 sl sl2 (by simpa using hv) (by simp [hw])) ⟨ho,ho2,h1 hw⟩
 ·refine concat_meets ⟨_,ho,rfl⟩ ⟨_,ho2,rfl⟩ noFill_tuple_add seq_tuple_add PySem.F.slot_tuple_add PySem.F.entry_tuple_add (PySem.F.args_tuple_add_2 _ _)
   (tuple_addW2 t b vs.toArray ws.toArray n n2 dd dd2 sl sl2 (by simpa using hv) (by simpa using hw) (by rw [List.size_toArray,List.size_toArray];exact hsz)) ⟨ho,ho2,?_⟩
  rw [e];exact h2 hw
noncomputable def sIx (n d:Nat):Option Int->Nat
 |none=>d
 |some v=>if v<0 then (v+(n:Int)).toNat else min v.toNat n
theorem nr (n d:Nat):sIx n d none=d:=rfl
theorem oY (n d k:Nat):sIx n d (some (k:Int))=min k n:=by
 show (if (k:Int)<0 then ((k:Int)+(n:Int)).toNat else min (k:Int).toNat n)=min k n;rw [if_neg (by omega),Int.toNat_natCast]
theorem Bu (n d:Nat) (hd:d<=n) (o:Option Int):sIx n d o<=n:=by
 cases o with
 |none=>exact hd
 |some v=>
  show (if v<0 then (v+(n:Int)).toNat else min v.toNat n)<=n
  by_cases hv:v<0
  ·rw [if_pos hv];omega
  ·rw [if_neg hv];exact Nat.min_le_right _ _
theorem nZ (v:Int) (n d:Nat):(if v<0 then max (v+(n:Int)) 0 else min v (n:Int))=((sIx n d (some v):Nat):Int):=by
 show (if v<0 then max (v+(n:Int)) 0 else min v (n:Int))=(((if v<0 then (v+(n:Int)).toNat else min v.toNat n):Nat):Int)
 by_cases hv:v<0
 ·simp only [if_pos hv];omega
 ·simp only [if_neg hv];omega
theorem pz (lo hi:Option Int) (n:Nat):Builtin.Slice.sliceAdjust lo hi 1 (n:Int)=(((sIx n 0 lo:Nat):Int),((sIx n n hi:Nat):Int)):=by
 have h1:¬((1:Int)<0):=by omega
 unfold Builtin.Slice.sliceAdjust;simp only [h1,if_false];refine Prod.ext ?_ ?_
 ·cases lo with
  |none=>rfl
  |some v=>exact nZ v n 0
 ·cases hi with
  |none=>rfl
  |some v=>exact nZ v n n
theorem qr (i j:Nat):Builtin.Slice.slicePlaces (i:Int) (j:Int) 1=j - i:=by
 unfold Builtin.Slice.slicePlaces;have h1:(1:Int)>0:=by omega
 simp only [h1,if_true,Int.ediv_one]
 split<;>omega
theorem jJ (p:IsPart v o) (h:Q o s):wpAny (model prog w) A (Builtin.Slice.slicePartIndex v) Q E s:=by
 cases p with
 |none=>exact slicePart_none h
 |int i t=>exact slicePart_int h
theorem eE {sl:Addr} {vl vu:Value} {lo hi:Option Int} {n:Nat} {Q:Int×Int×Nat->Shared->Prop} (hs:s.heap.IsSliceOf sl vl vu .none) (pl:IsPart vl lo) (pu:IsPart vu hi)
  (h:Q (((sIx n 0 lo:Nat):Int),1,sIx n n hi - sIx n 0 lo) s):wpAny (model prog w) A (Builtin.Slice.sliceApplied (.ref sl) (pure (n:Int))) Q E s:=by
 obtain ⟨os,hos,hcs,hds⟩:=id hs;unfold Builtin.Slice.sliceApplied Builtin.Slice.sliceFields;refine At (At (wpAny_field hos hds (x:=vl) rfl (At (wpAny_field hos hds (x:=vu) rfl (At (wpAny_field hos hds (x:=.none) rfl (AC ?_)))))));refine At (slicePart_none ?_);show wpAny _ _ (if ((1:Int)==0)=true then _ else _) _ _ s;rw [if_neg (by decide)];refine At (jJ pl (At (jJ pu (At (AC ?_)))));show wpAny _ _ (match Builtin.Slice.sliceAdjust lo hi 1 (n:Int) with|(lo,hi)=>pure (lo,(1:Int),Builtin.Slice.slicePlaces lo hi 1)) _ _ s;rw [pz lo hi n];show wpAny _ _ (pure (((sIx n 0 lo:Nat):Int),(1:Int),Builtin.Slice.slicePlaces ((sIx n 0 lo:Nat):Int) ((sIx n n hi:Nat):Int) 1)) _ _ s;rw [qr];exact AC h
theorem uY (xs:Array Value) (i k:Nat):((List.range k).filterMap fun (m:Nat)=>xs[((i:Int)+(m:Int)*1).toNat]?).toArray=((xs.toList.drop i).take k).toArray:=by
 have e:(fun (m:Nat)=>xs[((i:Int)+(m:Int)*1).toNat]?)=fun m=>xs[i+m]?:=by
  funext m
  have:((i:Int)+(m:Int)*1).toNat=i+m:=by omega
  rw [this]
 rw [e];have:=pick_run xs i k;rw [List.filterMap_map] at this;have e2:((fun x=>xs[x]?)∘fun x=>i+x)=fun m=>xs[i+m]?:=rfl;rw [e2] at this;rw [this]
theorem iu {t sl:Addr} {items:Array Value} {vl vu:Value} {lo hi:Option Int} {Q:Value->Shared->Prop} (ht:IsTup s.heap t items) (hs:s.heap.IsSliceOf sl vl vu .none) (pl:IsPart vl lo) (pu:IsPart vu hi)
  (hw:¬(sIx items.size 0 lo=0∧sIx items.size items.size hi=items.size))
  (h:Q (.ref s.heap.objs.size) {s with heap:=s.heap.push {cls:=.type "tuple",data:=.seq ((items.toList.drop (sIx items.size 0 lo)).take (sIx items.size items.size hi - sIx items.size 0 lo)).toArray}})
  (hsz:items.size<=sizeLine):wpAny (model prog w) A (getItem (.ref t) (.ref sl)) Q E s:=by
 have htake:sizeOk (.seq ((items.toList.drop (sIx items.size 0 lo)).take (sIx items.size items.size hi - sIx items.size 0 lo)).toArray):=by
  show ((items.toList.drop (sIx items.size 0 lo)).take (sIx items.size items.size hi - sIx items.size 0 lo)).toArray.size<=sizeLine;rw [List.size_toArray,List.length_take,List.length_drop,Array.length_toList];omega
 have hj:sIx items.size items.size hi<=items.size:=Bu _ _ (EG _) hi;obtain ⟨os,hos,hcs,hds⟩:=id hs;have hTs:s.TypeIs (.ref sl) "slice":=⟨os,hos,hcs⟩
 unfold getItem
 try with_reducible refine Da ?_
 first|refine At (AC ?_)|skip
 refine At (wpAny_sequenceKey ht.typeIs (by decide) ?_);refine At (wpAny_callSpecial?_slot (name:=Str.ofString "__getitem__") ht.typeIs PyProof.Rows.slot_tuple_getitem
  (wpAny_call_entry PyProof.Rows.slot_tuple_getitem ht.typeIs entry_tuple_getitem ?_ (args_tuple_getitem _ _)))
 show wpAny _ _ (Builtin.Tuple.tupleItemsOf (.ref t)>>=_) _ _ s;refine At (tupleItemsOf_ ht ?_);refine At (wpAny_typeOf hTs ?_);rw [if_pos (by decide)];refine At (eE hs pl pu ?_);have hno:¬((((sIx items.size 0 lo:Nat):Int)==0&&(1:Int)==1&&(sIx items.size items.size hi - sIx items.size 0 lo)==items.size)=true):=by
  intro q;rw [Bool.and_eq_true,Bool.and_eq_true] at q;have q1:((sIx items.size 0 lo:Nat):Int)=0:=eq_of_beq q.1.1;have q2:sIx items.size items.size hi - sIx items.size 0 lo=items.size:=eq_of_beq q.2;exact hw ⟨by omega,by omega⟩
 show wpAny _ _ (if (((sIx items.size 0 lo:Nat):Int)==0&&(1:Int)==1&&(sIx items.size items.size hi - sIx items.size 0 lo)==items.size)=true then _ else _) _ _ s;rw [if_neg hno,uY]
 first
  |exact At (m:=Builtin.Tuple.tupleExact _) (wpAny_newObj_type (AC ⟨_,rfl,AC h⟩) htake)
  |exact At (m:=Builtin.Tuple.tupleExact _) (wpAny_newObj_type (At (AC (AC ⟨_,rfl,AC h⟩))) htake)
  |exact At (At (m:=Builtin.Tuple.tupleExact _) (wpAny_newObj_type (AC (AC ⟨_,rfl,AC h⟩)) htake))
  |exact At (At (m:=Builtin.Tuple.tupleExact _) (wpAny_newObj_type (AC ⟨_,rfl,AC h⟩) htake))
end
end HT
namespace L2
open PySem PySem.Spec PyProof.Rows
noncomputable abbrev TO:=St->Hp->(Option Int->Hp->Prop)->Prop
noncomputable def PO (X:Cx) (e:Option Expr) (t:TO):Prop:=
 ∀(pins:List (Addr×Obj)) (s:Shared) (σ:St) (H:Hp) (Q:Option Int->Hp->Prop),Inv X pins σ H s->t σ H Q->
  wpAny (model X.prog X.w) X.A (evalPart e X.env) (fun u s'=>∃o H',Inv X pins σ H' s'∧IsPart u o∧Q o H') X.xe s
noncomputable def yQ:TO:=fun _ H Q=>Q none H
noncomputable def C4 (t:TE):TO:=fun σ H Q=>t σ H fun x H1=>∃i,x=.int i∧Q (some i) H1
section
variable {X:Cx} {e:Expr} {te:TE} {lo hi:Option Expr} {tl th:TO} {pos p2:Pos}
theorem yv:PO X none yQ:=by
 intro pins s σ H Q I h;rw [evalPart_none];exact AC ⟨none,H,I,.none,h⟩
theorem yw (h:PE X e te):PO X (some e) (C4 te):=by
 intro pins s σ H Q I hw;rw [evalPart_some];refine thn (h pins s σ H _ I hw) fun u s1 ⟨x,H1,I1,r1,q1⟩=>?_;obtain ⟨i,rfl,q⟩:=q1;obtain ⟨t,rfl⟩:=r1;exact ⟨some i,H1,I1,.int i t,q⟩
noncomputable def SlR (X:Cx) (r:V->Option Int->Option Int->Hp->VK->Prop):Prop:=
 ∀(pins:List (Addr×Obj)) (s:Shared) (σ:St) (H:Hp) (x:V) (v vl vu:Value) (lo hi:Option Int) (sl:Addr) (Q:VK),Inv X pins σ H s->RelV x v->s.heap.IsSliceOf sl vl vu .none->IsPart vl lo->IsPart vu hi->r x lo hi H Q->
  ∃T id,typeLookup (.type T) "__getitem__"=pure (some (.builtin id))∧s.TypeIs v T∧wpAny (model X.prog X.w) X.A (getItem v (.ref sl)) (EP X pins σ Q) X.xe s
theorem SlR.or (h:SlR X r) (h':SlR X r'):SlR X (fun x lo hi H Q=>r x lo hi H Q∨r' x lo hi H Q):=by
 intro pins s σ H x v vl vu lo hi sl Q I rx hs pl pu q;rcases q with q|q
 ·exact h pins s σ H x v vl vu lo hi sl Q I rx hs pl pu q
 ·exact h' pins s σ H x v vl vu lo hi sl Q I rx hs pl pu q
noncomputable def tSl (r:V->Option Int->Option Int->Hp->VK->Prop) (te:TE) (tl th:TO):TE:=fun σ H Q=>te σ H fun x H1=>tl σ H1 fun l H2=>th σ H2 fun u H3=>r x l u H3 Q
theorem mZ (hr:SlR X r) (he:PE X e te) (hl:PO X lo tl) (hu:PO X hi th):PE X (.Subscript e (.Slice lo hi none p2) pos) (tSl r te tl th):=by
 intro pins s σ H Q I h;refine Subscript_ (thn (he pins s σ H _ I h) fun v s1 ⟨x,H1,I1,r1,q1⟩=>?_);refine wpAny_Slice (thn (hl pins s1 σ H1 _ I1 q1) fun vl s2 ⟨l,H2,I2,pl,q2⟩=>thn (hu pins s2 σ H2 _ I2 q2) fun vu s3 ⟨u,H3,I3,pu,q3⟩=>?_);rw [evalPart_none];refine AC ?_;have I4:Inv X pins σ H3 {s3 with heap:=s3.heap.push {cls:=.type "slice",data:=.fields #[vl,vu,.none]}}:=I3.kept (t':=s3.toks) fun b ob q=>BT _ q;obtain ⟨T,id,hT,ht,hg⟩:=hr pins {s3 with heap:=s3.heap.push {cls:=.type "slice",data:=.fields #[vl,vu,.none]}} σ H3 x v vl vu l u s3.heap.objs.size Q I4 r1 (Heap.IsSliceOf.new ..) pl pu q3;show wpAny (model X.prog X.w) X.A (subscriptTail e (.Slice lo hi none p2) v (.ref s3.heap.objs.size)) (EP X pins σ Q) X.xe {s3 with heap:=s3.heap.push {cls:=.type "slice",data:=.fields #[vl,vu,.none]}};exact tail_any (ops:=[.ref s3.heap.objs.size,v]) ht hT hg (by with_unfolding_all rfl)
noncomputable def gE (xs:List V) (lo hi:Option Int):List V:=(xs.drop (HT.sIx xs.length 0 lo)).take (HT.sIx xs.length xs.length hi - HT.sIx xs.length 0 lo)
theorem iz (xs:List V) (lo hi:Option Int):(gE xs lo hi).length<=xs.length:=by
 unfold gE;rw [List.length_take,List.length_drop];omega
noncomputable def D2 (K:PySem.W.Frag):V->Option Int->Option Int->Hp->VK->Prop:=fun x lo hi H Q=>∃a xs,x=.ref a∧SqT K H a xs∧
 ¬(HT.sIx xs.length 0 lo=0∧HT.sIx xs.length xs.length hi=xs.length)∧∀p,H p=none->Q (.ref p) (upd H p (.tup (gE xs lo hi)))
theorem Bv:SlR X (D2 X.K):=by
 intro pins s σ H x v vl vu lo hi sl Q I rx hs pl pu h;obtain ⟨a,xs,rfl,hx,hw,q⟩:=h;cases rx;obtain ⟨its,r,ht,hz⟩:=I.tuple hx;have hlen:its.toArray.size=xs.length:=by rw [List.size_toArray];exact r.length.symm
 refine ⟨"tuple",_,PyProof.Rows.slot_tuple_getitem.lookup,ht.typeIs,?_⟩;refine HT.iu ht hs pl pu (by rw [hlen];exact hw) ?_ (by rw [hlen];exact hz);rw [hlen];refine ⟨.ref s.heap.objs.size,_,I.laid (t':=s.toks) (o:=.tup (gE xs lo hi)) (fun b ob q=>BT _ q) (EG _) ?_,rfl,q _ (I.hok.fresh (EG _))⟩;exact ⟨EE (iz xs lo hi) hz,_,(r.drop (HT.sIx xs.length 0 lo)).take (HT.sIx xs.length xs.length hi - HT.sIx xs.length 0 lo),IsTup.new _ _⟩
noncomputable def CJ (K:PySem.W.Frag):R2:=fun x y H Q=>∃a b xs ys,x=.ref a∧y=.ref b∧SqT K H a xs∧SqT K H b ys∧xs≠[]∧xs.length+ys.length<=sizeLine∧
 (ys=[]->Q (.ref a) H)∧(ys≠[]->∀p,H p=none->Q (.ref p) (upd H p (.tup (xs++ys))))
theorem Vals.j9 (r:Vals xs us):us=[]↔xs=[]:=by
 cases r with
 |nil=>simp
 |cons _ _=>simp
theorem x_:OpR X (binaryOp .Add) (CJ X.K):=by
 intro pins s σ H x y v u Q I rx ry h;obtain ⟨a,b,xs,ys,rfl,rfl,ha,hb,hx,hz,q1,q2⟩:=h;cases rx;cases ry;obtain ⟨its,r1,p1,_⟩:=I.tuple ha;obtain ⟨its2,r2,p2,_⟩:=I.tuple hb;refine HT.wH p1 p2 (fun z=>hx (r1.j9.mp z)) (fun z=>⟨.ref a,H,I,rfl,q1 (r2.j9.mp z)⟩) (fun z=>?_) (by rw [←r1.length,←r2.length];exact hz);refine ⟨.ref s.heap.objs.size,_,I.laid (t':=s.toks) (o:=.tup (xs++ys)) (fun b ob q=>BT _ q) (EG _) ?_,rfl,q2 (fun w=>z (r2.j9.mpr w)) _ (I.hok.fresh (EG _))⟩;exact ⟨by rw [Ey];exact hz,_,r1.append r2,IsTup.new _ _⟩
end
noncomputable def ixN (n:Nat) (i:Int):Option Nat:=if 0<=i then (if i<n then some i.toNat else none) else if -(n:Int)<=i then some (i+n).toNat else none
noncomputable def atI {α:Type} (xs:List α) (i:Int):Option α:=(ixN xs.length i).bind fun j=>xs[j]?
theorem oE (h:ixN n i=some j):seqIndex? i n=some j∧j<n∧ -(n:Int)<=i∧i<n:=by
 unfold ixN at h
 by_cases h0:0<=i
 ·rw [if_pos h0] at h
  by_cases h1:i<n
  ·rw [if_pos h1] at h;have e:i.toNat=j:=EL h;exact ⟨by rw [seqIndex_of h0 h1,e],by omega,by omega,h1⟩
  ·rw [if_neg h1] at h;cases h
 ·rw [if_neg h0] at h
  by_cases h1: -(n:Int)<=i
  ·rw [if_pos h1] at h;have e:(i+n).toNat=j:=EL h;exact ⟨by rw [seqIndex_neg (by omega) h1,e],by omega,h1,by omega⟩
  ·rw [if_neg h1] at h;cases h
theorem nR {α:Type} {xs:List α} {i:Int} {v:α} (h:atI xs i=some v):∃j,seqIndex? i xs.length=some j∧xs[j]?=some v∧j<xs.length∧ -(xs.length:Int)<=i∧i<xs.length:=by
 unfold atI at h;cases e:ixN xs.length i with
 |none=>rw [e] at h;cases h
 |some j=>
  rw [e] at h;obtain ⟨h1,h2,h3,h4⟩:=oE e;exact ⟨j,h1,h,h2,h3,h4⟩
theorem nU {α:Type} {xs:List α} {j:Nat} {v:α} (h:xs[j]?=some v):atI xs (j:Int)=some v:=by
 have hj:j<xs.length:=(Eu.mp h).1;have e:ixN xs.length (j:Int)=some j:=by
  unfold ixN;rw [if_pos (by omega),if_pos (by omega)];simp
 unfold atI;rw [e];exact h
noncomputable def jM (b:Expr):Prop:=∀o i,subscripted b false o i=operate [o,i] (getItem o i)
noncomputable def IxR (X:Cx) (r:R2):Prop:=
 ∀(value slice:Expr) (pins:List (Addr×Obj)) (s:Shared) (σ:St) (H:Hp) (x y:V) (v u:Value) (Q:VK),Inv X pins σ H s->RelV x v->RelV y u->r x y H Q->
  subscripted slice false v u=operate [v,u] (getItem v u)->wpAny (model X.prog X.w) X.A (subscriptTail value slice v u) (EP X pins σ Q) X.xe s
noncomputable def MtR (X:Cx) (id:String) (r:V->List V->Hp->VK->Prop):Prop:=
 ∀(pins:List (Addr×Obj)) (s:Shared) (σ:St) (H:Hp) (x:V) (xs:List V) (v:Value) (us:List Value) (Q:VK),Inv X pins σ H s->RelV x v->Vals xs us->r x xs H Q->
  wpAny (model X.prog X.w) X.A (call (.builtin id) (v::us)) (EP X pins σ Q) X.xe s
section
variable {X:Cx} {a b:Expr} {ta tb:TE} {pos:Pos}
theorem v_ (hr:IxR X r) (ha:PE X a ta) (hb:PE X b tb) (hs:jM b):PE X (.Subscript a b pos) (tOp r ta tb):=by
 intro pins s σ H Q I h;exact Subscript_ (tN ha hb I h fun v u s2 x y H2 I2 rx ry q=>hr a b pins s2 σ H2 x y v u Q I2 rx ry q (hs _ _))
noncomputable def DZ (K:PySem.W.Frag):R2:=fun x y H Q=>∃p xs i v,x=.ref p∧y=.int i∧SqL K H p xs∧atI xs i=some v∧Q v H
noncomputable def D0 (K:PySem.W.Frag):R2:=fun x y H Q=>∃p xs i v,x=.ref p∧y=.int i∧SqT K H p xs∧atI xs i=some v∧Q v H
theorem xQ:IxR X (DZ X.K):=by
 intro value slice pins s σ H x y v u Q I rx ry h hs;obtain ⟨p,xs,i,z,rfl,rfl,hq,he,q⟩:=h;cases rx;obtain ⟨t,rfl⟩:=ry;obtain ⟨its,r,pl,hz⟩:=I.list hq;obtain ⟨j,h1,h2,h3,h4,h5⟩:=nR he;obtain ⟨w,ew,rw'⟩:=r.get h2;have hl:=r.length;have hn:=jw;have fin:EP X pins σ Q w s:=⟨z,H,I,rw',q⟩
 by_cases h0:0<=i
 ·have hj:i.toNat=j:=by
   rw [seqIndex_of h0 h5] at h1;exact EL h1
  exact item_listR pl.isList h0 (by omega) (by rw [hj];simpa using ew) fin hs
 ·have hj:(i+(its.toArray.size:Int)).toNat=j:=by
   rw [seqIndex_neg (by omega) h4] at h1;rw [List.size_toArray,←hl];exact EL h1
  exact subscriptTail_builtinR (x:=w) pl.isList.typeIs slot_list_getitem.lookup
   (wpAny_getItem_list_neg (Q:=fun r s'=>r=w∧EP X pins σ Q r s') pl.isList (by omega) (by rw [List.size_toArray]<;>omega) (by omega) (by rw [hj];simpa using ew) ⟨rfl,fin⟩) hs
theorem An:IxR X (D0 X.K):=by
 intro value slice pins s σ H x y v u Q I rx ry h hs;obtain ⟨p,xs,i,z,rfl,rfl,hq,he,q⟩:=h;cases rx;obtain ⟨t,rfl⟩:=ry;obtain ⟨its,r,pl,hz⟩:=I.tuple hq;obtain ⟨j,h1,h2,h3,h4,h5⟩:=nR he;obtain ⟨w,ew,rw'⟩:=r.get h2;have hl:=r.length;have hn:=jw;have fin:EP X pins σ Q w s:=⟨z,H,I,rw',q⟩
 exact subscriptTail_builtinR (x:=w) pl.typeIs slot_tuple_getitem.lookup
  (getItem_tuple (j:=j) (Q:=fun r s'=>r=w∧EP X pins σ Q r s') pl (by omega) (by omega) (by rw [List.size_toArray,←hl];exact h1) (by simpa using ew) ⟨rfl,fin⟩) hs
theorem qf (its:List Value) (n j:Nat) (u:Value):Obj.mapSeq (·.setIfInBounds j u) {cls:=.type "list",data:=.seq its.toArray n}={cls:=.type "list",data:=.seq (its.set j u).toArray n}:=by
 simp [Obj.mapSeq]
theorem Inv.lst {pins:List (Addr×Obj)} {σ:St} {H:Hp} {s:Shared} {p:Addr} {xs:List V} (I:Inv X pins σ H s) (h:H p=some (.lst xs)):
  ∃(its:List Value) (n:Nat),Vals xs its∧s.heap.get? p=some {cls:=.type "list",data:=.seq its.toArray n}∧xs.length<=sizeLine:=by
 obtain ⟨z,its,n,r,e⟩:=I.hok p _ h;exact ⟨its,n,r,e,z⟩
theorem Inv.AD {pins:List (Addr×Obj)} {σ:St} {H:Hp} {s:Shared} {p:Addr} {xs ys:List V} {its its':List Value} {n n':Nat} {f:Obj->Obj} (I:Inv X pins σ H s) (h:H p=some (.lst xs))
  (ho:s.heap.get? p=some {cls:=.type "list",data:=.seq its.toArray n}) (hf:f {cls:=.type "list",data:=.seq its.toArray n}={cls:=.type "list",data:=.seq its'.toArray n'}) (r:Vals ys its') (hz:ys.length<=sizeLine) (t:Nat):
  Inv X pins σ (upd H p (.lst ys)) {s with heap:=s.heap.update p f,toks:=t}:=by
 have e:(s.heap.update p f).get? p=some {cls:=.type "list",data:=.seq its'.toArray n'}:=by
  rw [Heap.get?_update_self f ho (by rw [hf]<;>rfl),hf]
 refine I.write (x:=p) (e:=p) (by rw [h];trivial) (.inl rfl) (fun b u hb q=>(Heap.get?_update_other _ _ (Ne.symm hb)).trans q) ⟨_,e⟩ ?_;exact ⟨hz,its',n',r,e⟩
noncomputable def wg:V->V->V->Hp->(Hp->Prop)->Prop:=fun o i v H Q=>∃p xs k j,o=.ref p∧i=.int k∧H p=some (.lst xs)∧ixN xs.length k=some j∧Q (upd H p (.lst (xs.set j v)))
theorem set_list:Df X wg:=by
 intro pins s σ H o i v ov iv u Q I ro ri rv h;obtain ⟨p,xs,k,j,rfl,rfl,hp,hj,q⟩:=h;cases ro;obtain ⟨t,rfl⟩:=ri;obtain ⟨its,n,r,ho,hz⟩:=I.lst hp;obtain ⟨h1,h2,h3,h4⟩:=oE hj;have hl:=r.length;have hn:=jw;have I':Inv X pins σ (upd H p (.lst (xs.set j v))) {s with heap:=s.heap.update p (Obj.mapSeq (·.setIfInBounds j u))}:=
  I.AD hp ho (qf its n j u) (r.set rv j) (by rw [List.length_set];exact hz) s.toks
 by_cases h0:0<=k
 ·have hk:k.toNat=j:=by
   rw [seqIndex_of h0 h4] at h1;exact EL h1
  exact PySem.W.ki_setAt ho h0 (by omega) (by rw [List.size_toArray,←hl];exact h4) (by rw [hk];exact ⟨_,I',q⟩)
 ·have hk:(k+(its.toArray.size:Int)).toNat=j:=by
   rw [seqIndex_neg (by omega) h3] at h1;rw [List.size_toArray,←hl];exact EL h1
  exact PySem.W.ki_setBack ho (by omega) (by rw [List.size_toArray,←hl];exact h3) (by omega) (by rw [hk];exact ⟨_,I',q⟩)
theorem nv (lo hi:Option Int) (n:Nat):(sliceBounds lo hi none n).1=((HT.sIx n 0 lo:Nat):Int)∧(sliceBounds lo hi none n).2.1=((HT.sIx n n hi:Nat):Int)∧(sliceBounds lo hi none n).2.2=1:=by
 refine ⟨?_,?_,rfl⟩
 ·cases lo with
  |none=>simp [sliceBounds,HT.sIx]
  |some i=>
   simp only [sliceBounds,HT.sIx,Option.getD_none,show (1:Int)>0 by decide,if_true]
   by_cases h:i<0
   ·simp only [h,if_true]<;>omega
   ·simp only [h,if_false]<;>omega
 ·cases hi with
  |none=>simp [sliceBounds,HT.sIx]
  |some i=>
   simp only [sliceBounds,HT.sIx,Option.getD_none,show (1:Int)>0 by decide,if_true]
   by_cases h:i<0
   ·simp only [h,if_true]<;>omega
   ·simp only [h,if_false]<;>omega
theorem lD (its:List Value) (lo hi:Option Int):slicePick its.toArray lo hi none=((its.drop (HT.sIx its.length 0 lo)).take (HT.sIx its.length its.length hi - HT.sIx its.length 0 lo)).toArray:=by
 obtain ⟨h1,h2,h3⟩:=nv lo hi its.toArray.size;unfold slicePick;rw [h1,h2,h3];simp only [sliceRange_one,pick_run,List.size_toArray]<;>rfl
noncomputable def D1 (K:PySem.W.Frag):V->Option Int->Option Int->Hp->VK->Prop:=fun x lo hi H Q=>∃a xs,x=.ref a∧SqL K H a xs∧∀p,H p=none->Q (.ref p) (upd H p (.lst (gE xs lo hi)))
theorem yM:SlR X (D1 X.K):=by
 intro pins s σ H x v vl vu lo hi sl Q I rx hs pl pu h;obtain ⟨a,xs,rfl,hx,q⟩:=h;cases rx;obtain ⟨its,r,ht,hz⟩:=I.list hx;have hlen:=r.length;refine ⟨"list",_,slot_list_getitem.lookup,ht.isList.typeIs,?_⟩;refine wpAny_getItem_list_slice ht.isList hs pl pu .none (by simp) ?_ (by rw [List.size_toArray]<;>omega);rw [lD,←hlen];refine ⟨.ref s.heap.objs.size,_,I.laid (t':=s.toks) (o:=.lst (gE xs lo hi)) (fun b ob q=>BT _ q) (EG _) ?_,rfl,q _ (I.hok.fresh (EG _))⟩;exact ⟨EE (iz xs lo hi) hz,_,0,(r.drop (HT.sIx xs.length 0 lo)).take (HT.sIx xs.length xs.length hi - HT.sIx xs.length 0 lo),Ch _ rfl⟩
theorem l8:cj X (.builtin "len") (fun xs H Q=>∃p ys,xs=[.ref p]∧(SqL X.K H p ys∨SqT X.K H p ys)∧Q (.int ys.length) H):=by
 intro pins s σ H xs us Q I r h;obtain ⟨p,ys,rfl,hq,q⟩:=h;obtain ⟨u,rfl,rx⟩:=vals1 r;cases rx;have hn:=jw;rcases hq with hq|hq
 ·obtain ⟨its,r',pl,hz⟩:=I.list hq;have hlen:=r'.length;exact Calls.call_len_list pl.isList (by simp only [List.size_toArray]<;>omega) ⟨.int ys.length,H,I.tok _,⟨s.toks+1,by rw [List.size_toArray,hlen]⟩,q⟩
 ·obtain ⟨its,r',pl,hz⟩:=I.tuple hq;have hlen:=r'.length;exact len_tuple pl (by simp only [List.size_toArray]<;>omega) ⟨.int ys.length,H,I.tok _,⟨s.toks+1,by rw [List.size_toArray,hlen]⟩,q⟩
theorem l9:cj X (.type "list") (fun xs H Q=>∃p ys,xs=[.ref p]∧(SqL X.K H p ys∨SqT X.K H p ys)∧∀l,H l=none->Q (.ref l) (upd H l (.lst ys))):=by
 intro pins s σ H xs us Q I r h;obtain ⟨p,ys,rfl,hq,q⟩:=h;obtain ⟨u,rfl,rx⟩:=vals1 r;cases rx;have fin:∀(its:List Value),Vals ys its->ys.length<=sizeLine->∀(h':Heap) (c':Nat),(∀b o',s.heap.get? b=some o'->h'.get? b=some o')->
   h'.get? s.heap.objs.size=some {cls:=.type "list",dict:=none,data:=.seq its.toArray c',slots:=#[]}->EP X pins σ Q (.ref s.heap.objs.size) {s with heap:=h'}:=fun its r' hz h' c' kp e=>
  ⟨.ref s.heap.objs.size,_,I.laid (t':=s.toks) kp (EG _) (show aU X.prog X.w _ h' _ (.lst ys) from ⟨hz,its,c',r',e⟩),rfl,q _ (I.hok.fresh (EG _))⟩
 rcases hq with hq|hq
 ·obtain ⟨its,r',pl,hz⟩:=I.list hq;have hlen:=r'.length;obtain ⟨o,ho,hc,n,hd⟩:=pl.isList;exact call_list_seq p (.inl rfl) ho hc hd (fun h' c' kp e=>fin its r' hz h' c' kp e) (by simp only [List.size_toArray]<;>omega)
 ·obtain ⟨its,r',pl,hz⟩:=I.tuple hq;have hlen:=r'.length;obtain ⟨o,ho,hc,n,hd⟩:=pl;exact call_list_seq p (.inr rfl) ho hc hd (fun h' c' kp e=>fin its r' hz h' c' kp e) (by simp only [List.size_toArray]<;>omega)
theorem lA:cj X (.type "tuple") (fun xs H Q=>∃p ys,xs=[.ref p]∧((SqL X.K H p ys∧∀l,H l=none->Q (.ref l) (upd H l (.tup ys)))∨(SqT X.K H p ys∧Q (.ref p) H))):=by
 intro pins s σ H xs us Q I r h;obtain ⟨p,ys,rfl,h⟩:=h;obtain ⟨u,rfl,rx⟩:=vals1 r;cases rx;rcases h with ⟨hq,q⟩|⟨hq,q⟩
 ·obtain ⟨its,r',pl,hz⟩:=I.list hq;have hlen:=r'.length;refine call_tuple_list pl.isList (fun h' kp=>?_) (by simp only [List.size_toArray]<;>omega);have I1:Inv X pins σ H {s with heap:=h'}:=I.kept (t':=s.toks) kp;have I2:Inv X pins σ (upd H h'.objs.size (.tup ys)) {s with heap:=h'.push {cls:=.type "tuple",data:=.seq its.toArray}}:=
   I1.laid (t':=s.toks) (fun b o e=>BT _ e) (EG _) (show aU X.prog X.w _ _ _ (.tup ys) from ⟨hz,its,r',IsTup.new _ _⟩)
  exact ⟨.ref h'.objs.size,_,I2,rfl,q _ (I1.hok.fresh (EG _))⟩
 ·obtain ⟨its,r',pl,hz⟩:=I.tuple hq;exact call_tuple_same pl ⟨.ref p,H,I,rfl,q⟩
noncomputable def tyV (K:PySem.W.Frag) (T:String) (x:V) (H:Hp):Prop:=match x with
 |.str _=>T="str"
 |.int _=>T="int"
 |.ref p=>(T="list"∧∃xs,SqL K H p xs)∨(T="tuple"∧∃o,K.lookup p=some o∧o.cls=.type "tuple"∧o.dict=none)∨
   (T="dict"∧((∃kvs,H p=some (.dK kvs))∨∃kvs,H p=some (.dT kvs)))∨(T="set"∧∃S n,H p=some (.set S n))
 |_=>False
theorem BK (I:Inv X pins σ H s) (r:RelV x v) (ty:tyV X.K T x H):
  s.TypeIs v T∧∀a,v=.ref a->∃ob,s.heap.get? a=some ob∧ob.dict=none:=by
 cases x with
 |str z=>
  obtain ⟨t,rfl⟩:=r;cases (show T="str" from ty);exact ⟨typeIs_str s z t,fun _ e=>nomatch e⟩
 |int i=>
  obtain ⟨t,rfl⟩:=r;cases (show T="int" from ty);exact ⟨typeIs_int s i t,fun _ e=>nomatch e⟩
 |ref p=>
  cases r;rcases ty with ⟨rfl,xs,hq⟩|⟨rfl,o,hk,hc,hd⟩|⟨rfl,hk⟩|⟨rfl,S,n,hk⟩
  ·obtain ⟨its,_,pl,_⟩:=I.list hq;refine ⟨pl.isList.typeIs,fun a e=>?_⟩;cases e;obtain ⟨o,n,e,c,hd,_⟩:=pl;exact ⟨o,e,hd⟩
  ·refine ⟨⟨o,I.kIn p o hk,hc⟩,fun a e=>?_⟩;cases e;exact ⟨o,I.kIn _ o hk,hd⟩
  ·have z:∃o,s.heap.get? p=some o∧o.ExactDict:=by
    rcases hk with ⟨kvs,hk⟩|⟨kvs,hk⟩
    ·obtain ⟨_,_,_,_,o,_,_,e,ex,_⟩:=I.hok p _ hk;exact ⟨o,e,ex⟩
    ·obtain ⟨_,_,_,_,o,_,_,e,ex,_⟩:=I.hok p _ hk;exact ⟨o,e,ex⟩
   obtain ⟨o,e,ex⟩:=z;refine ⟨⟨o,e,ex.1⟩,fun a e2=>?_⟩;cases e2;exact ⟨o,e,ex.2.1⟩
  ·obtain ⟨o,_,_,_,e,ex,_⟩:=I.hok p _ hk;refine ⟨⟨o,e,ex.1⟩,fun a e2=>?_⟩;cases e2;exact ⟨o,e,ex.2.1⟩
 |_=>exact False.elim ty
noncomputable def tBM (K:PySem.W.Frag) (T:String) (r:V->List V->Hp->VK->Prop) (to:TE) (t:TA):TE:=fun σ H Q=>to σ H fun x H1=>tyV K T x H1∧t σ H1 fun xs H2=>r x xs H2 Q
variable {o e:Expr} {es:List Expr} {to:TE} {t:TA} {name:Str} {apos cpos:Pos} {T id:String} {r:V->List V->Hp->VK->Prop}
theorem Cz (pa:PlainAttrs T) (slot:Slot T name id) (hty:typeOf (.builtin id)=pure (.type "method_descriptor")) (hm:MtR X id r) (ho:PE X o to) (ha:PA X (e::es) t)
  (hbase:(attributeBase o name X.env (eval o X.env)=eval o X.env)⁻¹)
  (hfew:(((backTo cpos (starEach (e::es) X.env)).all (fun x=>!x.1)&&(backToKw cpos (keywordEach [] X.env)).all (fun x=>x.1.isSome)
   &&decide ((e::es).length+([]:List Keyword).length+(if ([]:List Keyword).isEmpty then 0 else 1)<30))=true)⁻¹)
  (hline:((apos.endLine==cpos.line)=true)⁻¹) (hs:(starEach (e::es) X.env=(false,eval e X.env)::starEach es X.env)⁻¹) (hplain:((backTo cpos (starEach es X.env)).any (·.1)=false)⁻¹):
  PE X (.Call (.Attribute o name apos) (e::es) [] cpos) (tBM X.K T r to t):=by
 intro pins s σ H Q I h;refine wpAny_Call_method_late hbase hfew hline rfl (thn (ho pins s σ H _ I h) fun v s1 ⟨x,H1,I1,r1,ty,q1⟩=>?_);obtain ⟨h1,h2⟩:=BK I1 r1 ty;refine ⟨T,id,pa,slot,hty,h1,h2,?_⟩;have hA:=ha cpos pins s1 σ H1 _ I1 q1;rw [hs] at hA ⊢;refine Calls.callWith_builtin (by show (false||(backTo cpos (starEach es X.env)).any (·.1))=false;rw [hplain]<;>rfl) (Calls.evalArgs_plain ?_);exact thn hA fun us s2 ⟨vs,H2,I2,r2,q2⟩=>hm pins s2 σ H2 x vs v us Q I2 r1 r2 q2
end
noncomputable def MtM (X:Cx) (id:String) (r:V->List V->Hp->VK->Prop):Prop:=
 ∀(pins:List (Addr×Obj)) (s:Shared) (σ:St) (H:Hp) (x:V) (xs:List V) (v:Value) (us:List Value) (Q:VK),Inv X pins σ H s->RelV x v->Vals xs us->r x xs H Q->
  wpAny (model X.prog X.w) X.A (call (.builtin id) (v::us)) (EP X pins σ Q) X.xe s
theorem Vals.one:∀{x:V} {us:List Value},Vals [x] us->∃u,us=[u]∧RelV x u
 |_,_,.cons r .nil=>⟨_,rfl,r⟩
section
variable {X:Cx} {pins:List (Addr×Obj)} {σ:St} {H:Hp} {s:Shared} {l b:Addr} {xs ys zs:List V}
theorem Inv.DN {its its':List Value} {n:Nat} {f:Array Value->Array Value} {t':Nat} (I:Inv X pins σ H s) (hH:H l=some (.lst xs))
  (e:s.heap.get? l=some {cls:=.type "list",data:=.seq its.toArray n}) (hf:f its.toArray=its'.toArray) (hv:Vals ys its') (hz:ys.length<=sizeLine):
  Inv X pins σ (upd H l (.lst ys)) {s with heap:=s.heap.update l (Obj.mapSeq f),toks:=t'}:=by
 have q:=PySem.IsL.update e f;rw [hf] at q;refine I.write (x:=l) (e:=l) (by rw [hH];exact trivial) (.inl rfl) (fun b' u hb hu=>(Heap.get?_update_other s.heap (Obj.mapSeq f) (Ne.symm hb)).trans hu) ⟨_,q⟩ ?_;exact ⟨hz,its',_,hv,q⟩
theorem Inv.DP (I:Inv X pins σ H s) (hH:H l=some (.lst xs)):xs.length<=sizeLine∧∃(its:List Value) (n:Nat),Vals xs its∧xs.length=its.length∧s.heap.get? l=some {cls:=.type "list",data:=.seq its.toArray n}:=by
 obtain ⟨z,its,n,r,e⟩:=I.hok l _ hH;exact ⟨z,its,n,r,r.length,e⟩
end
section
variable {X:Cx}
noncomputable def yH:V->List V->Hp->VK->Prop:=fun x vs H Q=>∃l xs y,x=.ref l∧vs=[y]∧H l=some (.lst xs)∧xs.length<sizeLine∧Q .non (upd H l (.lst (xs++[y])))
theorem sk:MtM X "list.append" yH:=by
 intro pins s σ H x vs v us Q I rx rv h;obtain ⟨l,xs,y,rfl,rfl,hH,hz,q⟩:=h;cases rx;obtain ⟨u,rfl,ru⟩:=rv.one;obtain ⟨z,its,n,r,hl,e⟩:=I.DP hH;refine call_meets F.slot_list_append ⟨_,e,rfl⟩ F.entry_list_append (F.args_list_append_2 _ _) (PySem.list_append l its.toArray n u (by rw [List.size_toArray];omega)) ⟨e,?_⟩;refine ⟨.non,_,I.DN (its':=its++[u]) hH e (by simp) (r.append (.cons ru .nil)) ?_,rfl,q⟩;rw [Ey,List.length_singleton];omega
end
end L2
namespace Att
open PySem PySem.W PySem.Calls PyProof.Rows
theorem js:∀(ns:List Int) (vs:List Value),WellAll P h vs (ns.map WData.int)->IntsAre vs ns:=by
 intro ns
 induction ns with
 |nil=>
  intro vs w;rw [List.map_nil] at w;cases w;exact .nil
 |cons n ns ih=>
  intro vs w;rw [List.map_cons] at w;cases w with
  |cons a b=>
   cases a;exact .cons _ _ (ih _ b)
theorem sX {l:OpenLaw} {n:Nat} (hn:l.most=some n) {P:Params} {h:Heap} {args:List WData} {vals:List Value}
  (hpre:l.row.toRowW.claim.pre args=true) (hwl:WellAll P h vals args):
  ∃a vs ns,vals=[Value.ref a]∧args=[WData.list (ns.map WData.int)]∧h.get? a=some {cls:=.type "list",data:=.seq vs.toArray}∧IntsAre vs ns∧ns.length<=n:=by
 have hsh:WShape.hasAll [] args [.list .int]=true:=(pre_splitW hpre).1;have hc:l.pre.holds [] {args:=args}=true:=(pre_splitW hpre).2;obtain ⟨d,r,rfl,h1,h2⟩:=hasAllW_cons hsh;obtain rfl:=hasAllW_nil h2;obtain ⟨xs,rfl,h3⟩:=hasW_list h1;obtain ⟨ns,rfl⟩:=items_int h3;have hlen:ns.length<=n:=by
  unfold OpenLaw.pre at hc;have h4:(WTm.not (.lt (.lit (.int (n:Int))) (.len (.arg 0)))).holds [] {args:=[.list (ns.map .int)]}=true:=by
   have h4:=(holds_andW hc).1;rw [hn] at h4;exact h4
  have h5:=condW_of h4 (w_not (w_lt w_lit (w_len_list (w_arg rfl))));rw [Ez] at h5;refine Nat.le_of_not_lt fun q=>?_;have q':(n:Int)<((ns.length:Nat):Int):=by omega
  first
   |(rw [EH q'] at h5;exact absurd h5 (by decide))
   |(simp at h5;omega)
 cases hwl with
 |cons w1 w2=>
  cases w2;cases w1 with
  |list ho hall=>exact ⟨_,_,ns,rfl,rfl,ho,js ns _ hall,hlen⟩
theorem sP (l:OpenLaw) (args:List WData):l.row.toRowW.claim.post args (.bool true) args=true:=
 postW_of (r:=l.row.toRowW) (X:=(true==true))
  (show WShape.has [] (.bool true) .bool=true by first|rfl|decide|simp [WShape.has,WShape.arms,WShape.armsAll])
  (show (WTm.eq .res (.lit (.bool true))).value [] {args:=args,res:=some (.bool true),after:=args}=some (.bool (true==true)) from w_eq_bool (w_res rfl) w_lit) rfl
theorem nK {l:OpenLaw} {n:Nat} {q:Program} {loose:List Str} {XP:(Str->Option Value)->Heap->Prop} {YP:World->Heap->Prop} {d:DefRec}
  (hn:l.most=some n) (hdf:d.params.defaults=[])
  (call:∀(w:World) (s₀ s₁:Shared) (mg mb:Str->Option Value) (fa:Addr) (o:Obj) (pm cd doc:Value) (a:Addr) (vs:List Value) (ns:List Int),
   Ground q loose [] XP w s₀ mg mb s₁.heap->YP w s₁.heap->
   s₁.heap.get? fa=some o->o.data=.func (docDef d.name d.params d.body d.scope pm cd doc)->s₁.heap.CodeRec cd d.name->mg d.name=some (.ref fa)->
   s₁.heap.get? a=some {cls:=.type "list",data:=.seq vs.toArray}->IntsAre vs ns->ns.length<=n->s₁.gens=#[]->
   codeAny (model l.prog w) callerA (.call (.ref fa) ⟨[.ref a],[]⟩) (fun r s'=>r=.ok (.ret (.bool true))∧OldK s₁.heap s'.heap∧s'.os=s₁.os∧AllBare s'.gens) s₁):
  WalkO q loose XP YP l.row.toRowW d [] (fun f vs=>PySem.call f vs):=by
 intro w s₀ s₁ mg mb G Y fa o pm cd doc dV kV ho hd hcd hD hmg hg args vals as hpre hlay hrd hwl hlo;obtain rfl:dV=.none:=Dflts.none hD hdf;obtain rfl:kV=.none:=Dflts.noKw hD;obtain ⟨a,vs,ns,rfl,rfl,hobj,hints,hlen⟩:=sX hn hpre hwl;refine enter_call (codeAny_mono (call w s₀ s₁ mg mb fa o pm cd doc a vs ns G Y ho (fd_plain hd) hcd hmg hobj hints hlen hg) fun r s' hq=>?_);obtain ⟨rfl,h2,h3,h4⟩:=hq;exact ⟨.inl ⟨.bool true,.bool true,[],rfl,fun _=>rfl,.bool true,sP l _,fun _=>⟨List.Pairwise.nil,fun _ hm=>(nomatch hm)⟩⟩,h2,h3,h4⟩
end Att
namespace L2
open PySem PySem.Spec PyProof.Rows
theorem lj:∀{vs:List Value} {ns:List Int},IntsAre vs ns->Vals (ns.map V.int) vs
 |_,_,.nil=>.nil
 |_,_,.cons n t h=>.cons ⟨t,rfl⟩ (lj h)
noncomputable def tI (H:Hp):Prop:=∀b,H b=none∨∃o xs,H b=some (.frz o (.lst xs))
theorem uE {P:Program} {w:World} {K:PySem.W.Frag} {mg mb:Str->Option Value} {CX:CXT} {k:Nat} {fa a:Addr} {fd:FuncData} {x:Str} {sp:Sp} {s₁:Shared} {vs:List Value} {ns:List Int}
  (KX:K.In s₁.heap) (hns:s₁.heap.Ns mainGlobals mg) (hb:s₁.heap.Ns builtinsNs mb) (hbb:∀x:Str,x≠"__name__"->mb x=bootBuiltins x) (hlim:s₁.heap.NoLimit) (hg:s₁.gens=#[])
  (ha:s₁.heap.get? a=some {cls:=.type "list",data:=.seq vs.toArray}) (hi:IntsAre vs ns) (hl:ns.length<=sizeLine) (hr:aJ k callerA)
  (F:∀base:Heap,K.In base->base.Ns mainGlobals mg->aE P w K mg base CX k fa fd [x] sp) (hbind:∀(s:Shared) (u:Value),BindsTo s fd ⟨[u],[]⟩ [(x,u)])
  (hsp:∀H:Hp,tI H->SqL K H a (ns.map V.int)->sp [.ref a] H (fun v _=>v=.bl true) fun _ _ _=>False)
  (hCX:∀H e s',CX [] H s₁ (fun _ _ _=>False) e s'->False):
  codeAny (model P w) callerA (.call (.ref fa) ⟨[.ref a],[]⟩) (fun r s'=>r=.ok (.ret (.bool true))∧OldK s₁.heap s'.heap∧s'.os=s₁.os∧AllBare s'.gens) s₁:=by
 have rv:=lj hi;have lenV:=hi.length;have core:∀H:Hp,tI H->SqL K H a (ns.map V.int)->HOk P w H s₁.heap->(∀b,H b≠none->b=a)->(H a≠none->K.lookup a=none)->
   codeAny (model P w) callerA (.call (.ref fa) ⟨[.ref a],[]⟩) (fun r s'=>r=.ok (.ret (.bool true))∧OldK s₁.heap s'.heap∧s'.os=s₁.os∧AllBare s'.gens) s₁:=by
  intro H hO hS hok hA hK;have base_of:∀{b:Addr} {o:Obj},s₁.heap.get? b=some o->H b=none->(fL s₁.heap H).get? b=some o:=fun e n=>uA e n;have noA:∀{b:Addr} {o:Obj} {es:Array DictEntry} {ep:Nat},s₁.heap.get? b=some o->o.data=.dict es ep->H b=none:=fun {b o es ep} e d=>by
   cases q:H b with
   |none=>rfl
   |some u=>
    have e':b=a:=hA b (by rw [q];simp);subst e';rw [ha] at e;cases e;have d':Data.seq vs.toArray _=Data.dict es ep:=d;cases d'
  have nsK:∀{b:Addr} {m:Str->Option Value},s₁.heap.Ns b m->(fL s₁.heap H).Ns b m:=fun {b m} ⟨o,es,ep,e,d,r⟩=>⟨o,es,ep,base_of e (noA e d),d,r⟩
  have hKb:K.In (fL s₁.heap H):=fun b o e=>base_of (KX b o e) (by
   cases q:H b with
   |none=>rfl
   |some u=>
    have e':b=a:=hA b (by rw [q];simp);subst e';rw [hK (by rw [q];simp)] at e;cases e)
  have hM:Mod K mg (fL s₁.heap H):=⟨hKb,nsK hns,⟨mb,nsK hb,hbb⟩,let ⟨mc,h1,h2⟩:=hlim;⟨mc,nsK h1,h2⟩⟩
  have e0:iH P w K mg (fL s₁.heap H) callerA [] s₁ H:=⟨rfl,hM,fun b o e=>xZ e,Nat.le_of_eq (rZ _ _),trivial,fun b hb=>absurd (show b∈([]:List Addr) from hb) (by simp),hok,.of_eq hg⟩
  refine codeAny_mono ((F _ hKb (nsK hns)).run callerA [] s₁ H ⟨[.ref a],[]⟩ [.ref a] [.ref a] _ _ hr e0 (hbind s₁ (.ref a)) (.cons rfl .nil) (hsp H hO hS)) fun r s' h=>?_;cases r with
  |error e=>exact (hCX H e s' h).elim
  |ok fl=>
   cases fl with
   |next=>exact False.elim h
   |brk=>exact False.elim h
   |cont=>exact False.elim h
   |ret u=>
    obtain ⟨v,H',os,bare,un,hok',r',q⟩:=h;have q':v=.bl true:=q;subst q';obtain rfl:u=Value.bool true:=r';refine ⟨rfl,OldK.of_keep fun b o e=>?_,os,bare⟩;cases q:H b with
    |none=>exact un.keep b o e q (by intro z;exact absurd (show b∈([]:List Addr) from z) (by simp)) (by simp)
    |some u=>
     rcases hO b with z|⟨ob,xs,z⟩
     ·rw [q] at z;cases z
     ·have z2:=un.eR b ob _ z;obtain ⟨e1,_⟩:=hok b _ z;obtain ⟨e2,_⟩:=hok' b _ z2;rw [e] at e1;cases e1;exact e2
 cases hk:K.lookup a with
 |some o=>
  have e:=KX a o hk;rw [ha] at e;cases e;refine core (fun _=>none) (fun _=>.inl rfl) (.inr ⟨_,vs.toArray,_,hk,rfl,rfl,rfl,by rw [List.size_toArray,lenV];exact hl,by simpa using rv⟩) (fun b u z=>by have z':(none:Option HO)=some u:=z;cases z') (fun b z=>absurd rfl z) fun z=>absurd rfl z
 |none=>
  refine core (fun b=>if b=a then some (.frz {cls:=.type "list",data:=.seq vs.toArray} (.lst (ns.map V.int))) else none) (fun b=>?_) (.inl (.inr ⟨{cls:=.type "list",data:=.seq vs.toArray},if_pos rfl⟩)) (fun b u z=>?_) (fun b z=>?_) fun _=>hk
  ·by_cases hb:b=a
   ·exact .inr ⟨_,_,if_pos hb⟩
   ·exact .inl (if_neg hb)
  ·by_cases hb:b=a
   ·have z':=(if_pos hb).symm.trans z;cases z';subst hb;exact ⟨ha,by rw [Ez];exact hl,vs,_,rv,ha⟩
   ·have z':=(if_neg hb).symm.trans z;cases z'
  ·by_cases hb:b=a
   ·exact hb
   ·exact absurd (if_neg hb) z
noncomputable abbrev KOf {K:PySem.W.Frag} {h:Heap} (_:K.In h):PySem.W.Frag:=K
theorem yT {l:PySem.W.OpenLaw} {n k:Nat} {q:Program} {loose:List Str} {XP:(Str->Option Value)->Heap->Prop} {YP:World->Heap->Prop} {d:DefRec} {K:Params->PySem.W.Frag} {CX:World->CXT} {sp:World->Sp} {x:Str}
  (hn:l.most=some n) (hn2:n<=sizeLine) (hdf:d.params.defaults=[]) (hr:aJ k callerA)
  (hY:∀(w:World) (h:Heap),YP w h->(K w.params).In h)
  (F:∀(w:World) (mg:Str->Option Value) (fa:Addr) (h:Heap),(K w.params).In h->h.Ns mainGlobals mg->mg d.name=some (.ref fa)->
   ∃fd:FuncData,(∀(s:Shared) (u:Value),BindsTo s fd ⟨[u],[]⟩ [(x,u)])∧
    ∀base:Heap,(K w.params).In base->base.Ns mainGlobals mg->aE l.prog w (K w.params) mg base (CX w) k fa fd [x] (sp w))
  (hsp:∀(w:World) (H:Hp) (a:Addr) (ns:List Int),ns.length<=n->tI H->SqL (K w.params) H a (ns.map V.int)->sp w [.ref a] H (fun v _=>v=.bl true) fun _ _ _=>False)
  (hCX:∀(w:World) (H:Hp) (s:Shared) (e:Value) (s':Shared),CX w [] H s (fun _ _ _=>False) e s'->False):
  PySem.W.WalkO q loose XP YP l.row.toRowW d [] (fun f vs=>PySem.call f vs):=by
 refine Att.nK hn hdf fun w s₀ s₁ mg mb fa o pm cd doc a vs ns G Y ho hd hcd hmg hobj hints hlen hg=>?_;have KX:=hY w _ Y;obtain ⟨fd,hb,hF⟩:=F w mg fa _ KX G.T.g hmg;exact uE KX G.T.g G.T.b G.T.builtins G.T.nolimit hg hobj hints (EE hlen hn2) hr hF hb (fun H hO hS=>hsp w H a ns hlen hO hS) fun H e s'=>hCX w H s₁ e s'
end L2
namespace L2
open PySem PySem.Spec PyProof.Rows
noncomputable def inClass (s:Stmt) (j:Nat):Stmt:=match s with
 |.ClassDef _ _ _ body _ _ _ _ _ _ _=>body.getD j (.Pass ⟨0,0,0,0⟩)
 |_=>.Pass ⟨0,0,0,0⟩
noncomputable def cM (s:Stmt):Arguments:=match s with
 |.FunctionDef _ a _ _ _ _ _ _ _ _=>a
 |_=>{posonlyargs:=[],args:=[],vararg:=none,kwonlyargs:=[],kw_defaults:=[],kwarg:=none,defaults:=[]}
noncomputable def aY (s:Stmt):List Stmt:=match s with
 |.FunctionDef _ _ b _ _ _ _ _ _ _=>b
 |_=>[]
noncomputable def aj (s:Stmt):Scope:=match s with
 |.FunctionDef _ _ _ _ _ _ sc _ _ _=>sc
 |_=>{kind:=.function,names:=[],isGenerator:=false,isCoroutine:=false}
noncomputable abbrev CX0:CXT:=fun _ _ _ _ _ _=>False
noncomputable abbrev E0:XK:=fun _ _ _=>False
theorem fW:Passes CX0 X E0:=fun _ _ _ _ _ _ _ h=>h.elim
structure Fun (K:PySem.W.Frag) (x qual:Str) (st:Stmt) (f:Addr) (fd:FuncData):Prop where
 ex:∃(oc:Value) (od:Option Addr) (kV doc pm:Value) (an:Option Addr) (cdv ct:Value) (osl:Array (Option Value)),
  fd=PySem.W.fnOf x qual (cM st) (aY st) (aj st) .none kV doc pm an cdv ct∧K.lookup f=some ⟨oc,od,.func fd,osl⟩∧PySem.W.codeIn K cdv qual=true
 kp:PySem.W.keepIn K (.ref f)=true
section
variable {P:Program} {w:World} {K:PySem.W.Frag} {mg:Str->Option Value} {base:Heap}
theorem Fun.ok {x qual:Str} {st:Stmt} {f:Addr} {fd:FuncData} {N ps:List Str} {k:Nat} {sp:Sp} (F:Fun K x qual st f fd) (S:bC N ps (aj st)) (len:∀vs H Q E,sp vs H Q E->vs.length=ps.length)
  (hbody:∀(cdv:Value) (A:Around) (outer:List Env) (s:Shared) (H:Hp) (vs:List V) (Q:VK) (E:XK),aJ k (A.deeper (envOfC qual (aj st) s.heap.objs.size f cdv))->sp vs H Q E->
   ∃t,PSs (dN CX0 P w K mg base N qual (aj st) f cdv A outer s H E).nox (aY st) t∧t {nx:=fun _ H'=>Q .non H',rt:=Q} (start N vs) H):aE P w K mg base CX0 (k+1) f fd ps sp:=by
 obtain ⟨oc,od,kV,doc,pm,an,cdv,ct,osl,rfl,lk,hcd⟩:=F.ex;refine Cc lk hcd S len fun A outer s H vs Q E hr hsp=>?_;obtain ⟨t,h,q⟩:=hbody cdv A outer s H vs Q E hr hsp;exact ⟨t,h.nox,q⟩
theorem Fun.binds {x qual:Str} {st:Stmt} {f:Addr} {fd:FuncData} {ps:List Str} (F:Fun K x qual st f fd)
  (h:∀(kV doc pm:Value) (an:Option Addr) (cdv ct:Value) (us:List Value),us.length=ps.length->bindArgs (PySem.W.fnOf x qual (cM st) (aY st) (aj st) .none kV doc pm an cdv ct) ⟨us,[]⟩=pure (ps.zip us)):Binds K fd ps []:=by
 obtain ⟨oc,od,kV,doc,pm,an,cdv,ct,osl,rfl,lk,hcd⟩:=F.ex;exact .all (h kV doc pm an cdv ct)
theorem rV {x qual:Str} {st:Stmt} {f:Addr} {oc:Value} {od an:Option Addr} {osl:Array (Option Value)} {kV doc pm cdv ct:Value} (l:K.lookup f=some ⟨oc,od,.func (PySem.W.fnOf x qual (cM st) (aY st) (aj st) .none kV doc pm an cdv ct),osl⟩)
  (c:PySem.W.codeIn K cdv qual=true) (k:PySem.W.keepIn K (.ref f)=true):Fun K x qual st f (PySem.W.fnOf x qual (cM st) (aY st) (aj st) .none kV doc pm an cdv ct):=⟨⟨oc,od,kV,doc,pm,an,cdv,ct,osl,rfl,l,c⟩,k⟩
end
theorem fP {A B:Prop} (h:B):if false=true then A else B:=by
 rw [if_neg EK];exact h
theorem eS {A B:Prop} (h:A):if true=true then A else B:=by
 rw [if_pos rfl];exact h
section
variable {κ:Type} [DecidableEq κ]
theorem bY.getD {o:Option V} {u:Option Value} {d:V} {d':Value} (r:bY o u) (rd:RelV d d'):RelV (o.getD d) (u.getD d'):=by
 cases o with
 |none=>cases u with
  |none=>exact rd
  |some _=>exact (show False from r).elim
 |some _=>cases u with
  |none=>exact (show False from r).elim
  |some _=>exact r
end
section
variable {X:Cx} {pins:List (Addr×Obj)} {σ:St} {H:Hp} {s:Shared} {a:Addr} {y v:V} {u r:Value} {o:Option V} {A:Around} {E:Value->Shared->Prop}
theorem Inv.big (I:Inv X pins σ H s):sysModules<s.heap.objs.size:=by
 have h:mainGlobals<s.heap.objs.size:=(I.mod.glob.keeps I.bk).lt;exact Nat.lt_trans (by decide) h
theorem wM {h':Heap} {t':Nat} {ob:HO} (I:Inv X pins σ H s) (mu:Mut (H a)) (hs:Heap.SameBut a s.heap h') (he:∃q,h'.get? a=some q) (new:aU X.prog X.w (upd H a ob) h' a ob):
  Inv X pins σ (upd H a ob) {s with heap:=h',toks:=t'}:=
 I.write (x:=a) (e:=a) mu (.inl rfl) (fun b q hb z=>(hs.2 b hb).trans z) he new
end
noncomputable def pf (i:Expr):Prop:=∀ov iv,subscripted i false ov iv=operate [ov,iv] (getItem ov iv)
theorem yO {prog:Program} {w:World} {A:Around} {E:Value->Shared->Prop} {s:Shared} {env:Env} {value slice:Expr} {pos:Pos} {T id:String} {Q:Value->Shared->Prop}
  (hl:typeLookup (.type T) "__getitem__"=pure (some (.builtin id))) (hs:pf slice)
  (h:wpAny (model prog w) A (eval value env) (fun o s₁=>wpAny (model prog w) A (eval slice env) (fun i s₂=>s₂.TypeIs o T∧wpAny (model prog w) A (getItem o i) Q E s₂) E s₁) E s):
  wpAny (model prog w) A (eval (.Subscript value slice pos) env) Q E s:=by
 refine Subscript_ (AT h (fun o s₁ h₁=>AT h₁ (fun i s₂ h₂=>?_) fun _ _ x=>x) fun _ _ x=>x);obtain ⟨hT,h₂⟩:=h₂;unfold subscriptTail;refine At ?_;rw [getitemInPython_of_ne hT.not_modules];refine At (wpAny_specialOf hT hl ?_);have fin:wpAny (model prog w) A (subscripted slice false o i) (fun r s₃=>wpAny (model prog w) A (letTemporaryGo value o r>>=fun _=>pure r) Q E s₃) E s₂:=by
  rw [hs o i];exact wpAny_operating (AT h₂ (fun r s₃ h₃=>At (wpAny_letTemporaryGo (AC h₃))) fun _ _ x=>x)
 first
  |exact AC (At fin)
  |exact At (AC (At fin))
  |exact At fin
structure M1 (X:Cx) (o:Expr) (m:Str) (apos:Pos) (e:Expr) (cpos:Pos):Prop where
 base:attributeBase o m X.env (eval o X.env)=eval o X.env
 few:((backTo cpos (starEach [e] X.env)).all (fun x=>!x.1)&&(backToKw cpos (keywordEach [] X.env)).all (fun x=>x.1.isSome)
  &&decide (([e]:List Expr).length+([]:List Keyword).length+(if ([]:List Keyword).isEmpty then 0 else 1)<30))=true
 line:(apos.endLine==cpos.line)=true
 trees:backTo cpos (starEach [e] X.env)=[(false,eval e X.env)]
end L2
set_option autoImplicit true
set_option relaxedAutoImplicit true
namespace CT
open PySem
noncomputable def cC (env:Env):List (Str×NameKind)->List (Str×Addr)->List (Str×Addr)
 |[],acc=>acc
 |(n,k)::r,acc=>if k==.free then cC env r ((n,(env.cells.lookup n).getD 0)::acc) else cC env r acc
theorem pI (f:Str×NameKind->List (Str×Addr)->Sem (ForInStep (List (Str×Addr))))
  (hf:∀n k acc,f (n,k) acc=if k==.free then (do let c←cellOf env n;pure (.yield ((n,c)::acc))) else pure (.yield acc)):
  ∀(names:List (Str×NameKind)) (acc:List (Str×Addr)),(∀x∈names,x.2=.free->∃c,env.cells.lookup x.1=some c)->forIn names acc f=pure (cC env names acc)
 |[],acc,_=>by rw [List.forIn_nil];rfl
 |(n,k)::r,acc,h=>by
  have hr:∀x∈r,x.2=.free->∃c,env.cells.lookup x.1=some c:=fun x hx=>h x (En _ hx);rw [List.forIn_cons,hf];unfold cC
  by_cases hk:(k==NameKind.free)=true
  ·rw [if_pos hk,if_pos hk];obtain ⟨c,hc⟩:=h (n,k) Eo (beq_iff_eq.mp hk);have hc':env.cells.lookup n=some c:=hc;rw [hc'];simp only [cellOf,hc',pure_bind,Option.getD_some];exact pI f hf r _ hr
  ·rw [if_neg hk,if_neg hk];simp only [pure_bind];exact pI f hf r _ hr
theorem cI (h:∀x∈scope.names,x.2=.free->∃c,env.cells.lookup x.1=some c):closureFor scope env=pure (cC env scope.names []):=by
 simp only [closureFor];rw [pI (env:=env) _ (fun n k acc=>by cases hk:k==NameKind.free<;>simp [hk]) _ _ h];rfl
theorem gi {α:Type} {x:Str} {v:α}:∀{l:List (Str×α)},(l.map (·.1)).Nodup->(x,v)∈l->l.lookup x=some v
 |(k,u)::r,hn,hm=>by
  rw [List.map_cons,List.nodup_cons] at hn;rw [List.lookup_cons];rcases Er.mp hm with e|hm
  ·cases e;simp
  ·have:x≠k:=fun e=>hn.1 (e▸Es.mpr ⟨(x,v),hm,rfl⟩);rw [beq_false_of_ne this];exact gi hn.2 hm
theorem eU {α:Type} {x:Str} {v:α}:∀{l:List (Str×α)},(x,v)∈l->∃u,l.lookup x=some u
 |(k,u)::r,hm=>by
  rw [List.lookup_cons];rcases Er.mp hm with e|hm
  ·cases e;exact ⟨v,by simp⟩
  ·cases x==k with
   |true=>exact ⟨u,rfl⟩
   |false=>exact eU hm
theorem iO:∀{names:List (Str×NameKind)} {acc:List (Str×Addr)},p∈acc->p∈cC env names acc
 |[],_,h=>h
 |(n,k)::r,acc,h=>by
  unfold cC;split
  ·exact iO (En _ h)
  ·exact iO h
theorem iP:∀{names:List (Str×NameKind)} {acc:List (Str×Addr)},(∀x∈names,x.2=.free->∃c,env.cells.lookup x.1=some c)->(n,c)∈cC env names acc->
  (n,c)∈acc∨(env.cells.lookup n=some c∧(n,NameKind.free)∈names)
 |[],_,_,h=>.inl h
 |(m,k)::r,acc,hf,h=>by
  have hr:∀x∈r,x.2=.free->∃c,env.cells.lookup x.1=some c:=fun x hx=>hf x (En _ hx);unfold cC at h;split at h
  ·rename_i hk;have hk':k=.free:=beq_iff_eq.mp hk;obtain ⟨c',hc⟩:=hf (m,k) Eo hk';have hc':env.cells.lookup m=some c':=hc;rcases iP hr h with h|⟨h1,h2⟩
   ·rcases Er.mp h with e|h
    ·rw [hc'] at e;cases e;exact .inr ⟨hc',by rw [hk'];exact Eo⟩
    ·exact .inl h
   ·exact .inr ⟨h1,En _ h2⟩
  ·rcases iP hr h with h|⟨h1,h2⟩
   ·exact .inl h
   ·exact .inr ⟨h1,En _ h2⟩
theorem me (hc:env.cells.lookup n=some c):∀{names:List (Str×NameKind)} {acc:List (Str×Addr)},(n,NameKind.free)∈names->(n,c)∈cC env names acc
 |(m,k)::r,acc,h=>by
  unfold cC;rcases Er.mp h with e|h
  ·cases e;rw [if_pos (by decide),hc];exact iO Eo
  ·split<;>exact me hc h
theorem bD:∀(names:List (Str×NameKind)) (n:Nat) (acc:List (Str×Addr)),cellsFrom n names acc=cellsFrom n names []++acc
 |[],_,_=>rfl
 |(m,k)::r,n,acc=>by
  unfold cellsFrom;split
  ·rw [bD r (n+1) ((m,n)::acc),bD r (n+1) [(m,n)],EB];rfl
  ·exact bD r n acc
theorem dJ:∀{names:List (Str×NameKind)} {n:Nat} {acc:List (Str×Addr)},(x,c)∈cellsFrom n names acc->(x,c)∈acc∨(x,NameKind.cell)∈names
 |[],_,_,h=>.inl h
 |(m,k)::r,n,acc,h=>by
  unfold cellsFrom at h;split at h
  ·rename_i hk;have hk':k=.cell:=beq_iff_eq.mp hk;rcases dJ h with h|h
   ·rcases Er.mp h with e|h
    ·cases e;exact .inr (by rw [hk'];exact Eo)
    ·exact .inl h
   ·exact .inr (En _ h)
  ·rcases dJ h with h|h
   ·exact .inl h
   ·exact .inr (En _ h)
theorem dI:∀{names:List (Str×NameKind)} {n:Nat} {acc:List (Str×Addr)},(x,NameKind.cell)∈names->∃c,(x,c)∈cellsFrom n names acc
 |(m,k)::r,n,acc,h=>by
  unfold cellsFrom;rcases Er.mp h with e|h
  ·cases e;rw [if_pos (by decide),bD];exact ⟨n,Db _ Eo⟩
  ·split
   ·exact dI h
   ·exact dI h
theorem lookup_map2 {α β:Type} {f:Str->α->β} {x:Str}:∀{l:List (Str×α)},(l.map fun p=>(p.1,f p.1 p.2)).lookup x=(l.lookup x).map (f x)
 |[]=>rfl
 |(n,k)::r=>by
  rw [List.map_cons,List.lookup_cons,List.lookup_cons]
  by_cases hx:x=n
  ·subst hx;simp
  ·rw [beq_false_of_ne hx];exact lookup_map2
noncomputable def kin (env:Env) (x:Str) (k:NameKind):NameKind:=if (k==NameKind.free&&env.scope.kind==.function&&env.kindOf x==some .cell)=true then .cell else k
theorem kl {env:Env} {x:Str} {names:List (Str×NameKind)}:
  (names.map fun (n,k)=>if (k==NameKind.free&&env.scope.kind==.function&&env.kindOf n==some .cell) then (n,NameKind.cell) else (n,k)).lookup x=(names.lookup x).map (kin env x):=by
 rw [←lookup_map2 (f:=kin env)]
 congr 1
 refine List.map_congr_left fun p _=>?_;obtain ⟨n,k⟩:=p;show (if _ then _ else _)=(n,if _ then _ else _)
 split<;>rfl
theorem lF
  (h:Q {scope:=scope,locals:=s.heap.objs.size,globals:=globals,cells:=cellsFrom (s.heap.objs.size+1) scope.names cl,qual:=qual,func:=none,code:=env.code,frame:=env.frame,builtins:=env.builtins}
   {s with heap:=pushCells (s.heap.push {cls:=.type "dict",data:=.dict #[]}) scope.names}):
  wpAny M A (newFunctionEnv scope globals cl [] qual none .none (some env)) Q E s:=by
 simp only [newFunctionEnv,Option.isSome_some,if_true];refine At (wpAny_alloc ?_);refine At (wpAny_layCells _ (fun name kind cells=>by cases hkc:kind==NameKind.cell<;>simp [hkc]) _ _ _ _ ?_);rw [show ({s with heap:=s.heap.push {cls:=.type "dict",data:=.dict #[]}}:Shared).heap.objs.size=s.heap.objs.size+1 from Heap.size_push ..];simp only [List.forIn_nil,pure_bind];exact AC h
noncomputable def aW (elt:Expr) (gens:List Comprehension) (scope:Scope) (pos:Pos) (d:Nat) (acc:Value) (env:Env):Sem Unit:=
 match gens[d+1]? with
 |some g'=>do
  let x←eval g'.iter env
  standAt g'.iter.pos
  let x←if g'.is_async !=0 then foldedIterable g'.iter x else foldedSetIterable g'.iter env x
  let _←runOwn (.compStart (.ListComp elt gens scope pos) (d+1) (←holding [x] (if g'.is_async !=0 then asyncIter x else pyIter x)) acc env) env
 |none=>do let _←call (.builtin "list.append") [acc,←eval elt env]
theorem dy (elt:Expr) (gens:List Comprehension) (scope:Scope) (pos:Pos) (d:Nat) (it acc:Value) (env:Env) (hg:gens[d]?=some ⟨tg,iter,ifs,0⟩):
  compTurn (.ListComp elt gens scope pos) d it acc env=(standAt iter.pos>>=fun _=>pyNext it>>=fun r=>match r with
   |none=>pure (.done .next)
   |some v=>letOwnedTupleGo tg it v>>=fun _=>assign tg env v>>=fun _=>
    (forIn ifs true fun c r=>if r=true then do let ok←isTrue c env (eval c env);pure (ForInStep.yield ok) else pure (ForInStep.yield r))>>=fun ok=>
     (if ok=true then aW elt gens scope pos d acc env else pure ())>>=fun _=>again (.compLoop (.ListComp elt gens scope pos) d it acc env)):=by
 unfold compTurn aW;simp only [hg,show ((0:Int) !=0)=false from rfl,Bool.false_eq_true,if_false]
 congr 1
 funext _
 congr 1
 funext r
 cases r with
 |none=>rfl
 |some v=>
  dsimp only
  congr 1;funext _
  congr 1;funext _
  congr 1;funext ok
  cases ok with
  |false=>simp
  |true=>
   simp only [if_true];cases gens[d+1]? with
   |none=>rfl
   |some g'=>
    by_cases ha:(g'.is_async !=0)=true
    ·simp [ha,bind_assoc]
    ·simp [ha,bind_assoc]
section
variable {prog:Program} {w:World} {A:Around} {R:Result->Shared->Prop} {s:Shared}
theorem d7 (hg:gens[d]?=some ⟨tg,iter,ifs,0⟩)
  (h0:codeAny (model prog w) A (.compLoop (.ListComp elt gens scope pos) d it acc env) R s)
  (h:wpAny (model prog w) A (pyIter it) (fun it' s'=>codeAny (model prog w) A (.compLoop (.ListComp elt gens scope pos) d it' acc env) R s') (notedBy (model prog w) A env fun x s'=>R (.error x) s') s):
  codeAny (model prog w) A (.compStart (.ListComp elt gens scope pos) d it acc env) R s:=by
 refine codeAny_of_tree ?_;show wpAny _ _ ((compStart (.ListComp elt gens scope pos) d it acc env).onRaise (fun x=>do noteFrame x env;standAt theWindowsPlace)) _ _ s;refine wpAny_notedAt ?_;unfold compStart;have e:(clausesOf (.ListComp elt gens scope pos))[d]?=some ⟨tg,iter,ifs,0⟩:=hg;rw [e];show wpAny _ _ (ask>>=_) _ _ s;refine At (wpAny_askSetting (wpAny_ite ?_));split
 ·first
   |exact At (AC (AC (And.intro rfl h0)))
   |exact AC (And.intro rfl h0)
 ·first
   |exact At (wpAny_rule (At (wpAny_standAt (At (AT h (fun it' s' h'=>AC (And.intro rfl h')) fun _ _ x=>x)))))
   |(refine At (wpAny_rule ?_);show wpAny _ _ (standAt iter.pos>>=_) _ _ s;exact At (wpAny_standAt (At (AT h (fun it' s' h'=>AC (And.intro rfl h')) fun _ _ x=>x))))
end
end CT
set_option autoImplicit true
set_option relaxedAutoImplicit true
namespace CT
open PySem PySem.Spec L2
open PyProof.Rows hiding St
noncomputable def bL (X:Cx) (scope:Scope) (n0:Nat):Env:=
 {scope:=relabel scope X.env,locals:=n0+1,globals:=X.env.globals,cells:=cellsFrom (n0+2) scope.names (cC X.env scope.names []),qual:=X.env.qual,func:=none,code:=X.env.code,frame:=X.env.frame,builtins:=X.env.builtins}
structure CS (X:Cx) (scope:Scope) (own:List Str) (cap:List (Str×Nat)):Prop where
 kind:scope.kind=.function
 nd:(scope.names.map (·.1)).Nodup
 fr:∀x∈scope.names,x.2=.free->X.env.kindOf x.1=some .cell∨X.env.kindOf x.1=some .free
 DY:∀x∈own,(x,NameKind.local)∈scope.names∨(x,NameKind.cell)∈scope.names
 Dk:∀p∈cap,X.N[p.2]?=some p.1∧(p.1,NameKind.free)∈scope.names
 nN:(own++cap.map (·.1)).Nodup
noncomputable def cX (X:Cx) (scope:Scope) (own:List Str) (cap:List (Str×Nat)) (pins:List (Addr×Obj)) (s₂:Shared) (H₂:Hp) (fp:List Addr):Cx:=
 {prog:=X.prog,w:=X.w,K:=X.K,mg:=X.mg,base:=X.base,A:=X.A,N:=own++cap.map (·.1),s₀:=s₂,H₀:=H₂,env:=bL X scope s₂.heap.objs.size,outer:=X.stack,stack:=X.stack,ex:=fp,
  fn:=fun x=>decide (x∈own),calm:=X.calm,pn:=X.pn++pins,xe:=fun _ _=>False}
noncomputable def cS (own:List Str) (cap:List (Str×Nat)) (σ:St):St:=own.map (fun _=>none)++cap.map fun p=>(σ[p.2]?).join
section
variable {X:Cx} {scope:Scope} {own:List Str} {cap:List (Str×Nat)} {pins:List (Addr×Obj)} {σ:St} {H:Hp} {s:Shared} {fp:List Addr}
theorem CS.lk (cs:CS X scope own cap) (h:(x,k)∈scope.names):scope.names.lookup x=some k:=gi cs.nd h
theorem CS.uniq (cs:CS X scope own cap) (h:(x,k)∈scope.names) (h':(x,k')∈scope.names):k=k':=EL ((cs.lk h).symm.trans (cs.lk h'))
theorem iy:(bL X scope n0).kindOf x=(scope.names.lookup x).map (kin X.env x):=kl
theorem d6:∀{names:List (Str×NameKind)} {n:Nat} {acc:List (Str×Addr)},(x,c)∈cellsFrom n names acc->(x,c)∈acc∨n<=c
 |[],_,_,h=>.inl h
 |(m,k)::r,n,acc,h=>by
  unfold cellsFrom at h;split at h
  ·rcases d6 h with h|h
   ·rcases Er.mp h with e|h
    ·cases e;exact .inr (EG _)
    ·exact .inl h
   ·exact .inr (Nat.le_of_succ_le h)
  ·exact d6 h
theorem CS.jW (cs:CS X scope own cap) (ok:X.Ok):∀x∈scope.names,x.2=.free->∃c,X.env.cells.lookup x.1=some c:=fun x hx e=>ok.has x.1 (cs.fr x hx e)
theorem CS.bj (cs:CS X scope own cap) (ok:X.Ok) (h:(bL X scope n0).cells.lookup x=some c):
  ((x,NameKind.cell)∈scope.names∧n0+2<=c∧(x,c)∈cellsFrom (n0+2) scope.names [])∨((x,NameKind.free)∈scope.names∧X.env.cells.lookup x=some c):=by
 have hm:(x,c)∈cellsFrom (n0+2) scope.names (cC X.env scope.names []):=mem_of_lookup h;rw [bD] at hm;rcases Ep.mp hm with hm|hm
 ·refine .inl ⟨?_,?_,hm⟩
  ·rcases dJ hm with z|z
   ·cases z
   ·exact z
  ·rcases d6 hm with z|z
   ·cases z
   ·exact z
 ·rcases iP (cs.jW ok) hm with z|⟨z1,z2⟩
  ·cases z
  ·exact .inr ⟨z2,z1⟩
theorem CS.ma (cs:CS X scope own cap) (ok:X.Ok) (hx:(x,NameKind.free)∈scope.names) (hc:X.env.cells.lookup x=some c):(bL X scope n0).cells.lookup x=some c:=by
 have hm:(x,c)∈cellsFrom (n0+2) scope.names (cC X.env scope.names []):=by
  rw [bD];exact Db _ (me hc hx)
 obtain ⟨u,hu⟩:=eU hm;have hu':(bL X scope n0).cells.lookup x=some u:=hu;rcases cs.bj ok hu' with ⟨z,_⟩|⟨_,z⟩
 ·cases cs.uniq hx z
 ·rw [hc] at z;cases z;exact hu'
theorem CS.uQ (cs:CS X scope own cap) (hx:(x,NameKind.cell)∈scope.names):∃c,(bL X scope n0).cells.lookup x=some c:=by
 obtain ⟨c,hc⟩:=dI (n:=n0+2) (acc:=cC X.env scope.names []) hx;exact eU hc
theorem B0 (I:Inv X pins σ H s) (cs:CS X scope own cap) (hf:∀b∈fp,bh X pins H b) (hlt:∀b∈fp,b<s.heap.objs.size):(cX X scope own cap pins s H fp).Ok where
 mod:=I.ok.mod
 kind:=cs.kind
 glob:=I.ok.glob
 blt:=I.ok.blt
 above:=Nat.le_succ _
 inj:=fun x y c h1 h2=>by
  rcases cs.bj I.ok h1 with ⟨a1,a2,a3⟩|⟨a1,a2⟩<;>rcases cs.bj I.ok h2 with ⟨b1,b2,b3⟩|⟨b1,b2⟩
  ·have k:=cellsFrom_ok scope.names ((s.heap.push {cls:=.type "list",data:=.seq #[] 0}).push {cls:=.type "list",data:=.seq #[] 0}) 0 [] ⟨fun _ _ hm=>(nomatch hm),List.Pairwise.nil⟩ (Nat.zero_le _);rw [Heap.size_push,Heap.size_push] at k;exact name_of_addr k.apart a3 b3
  ·obtain ⟨v,hv⟩:=I.cell y c b2;exact absurd (EC hv.lt (EE (Nat.le_add_right _ 2) a2)) (Nat.lt_irrefl _)
  ·obtain ⟨v,hv⟩:=I.cell x c a2;exact absurd (EC hv.lt (EE (Nat.le_add_right _ 2) b2)) (Nat.lt_irrefl _)
  ·exact I.ok.inj x y c a2 b2
 has:=fun x hx=>by
  have e:(bL X scope s.heap.objs.size).kindOf x=(scope.names.lookup x).map (kin X.env x):=iy;have hx':(scope.names.lookup x).map (kin X.env x)=some .cell∨(scope.names.lookup x).map (kin X.env x)=some .free:=by rw [←e];exact hx
  cases hk:scope.names.lookup x with
  |none=>rw [hk] at hx';rcases hx' with z|z<;>cases z
  |some k=>
   rw [hk] at hx';have hm:=mem_of_lookup hk
   by_cases hfree:k=.free
   ·subst hfree;obtain ⟨c,hc⟩:=cs.jW I.ok _ hm rfl;exact ⟨c,cs.ma I.ok hm hc⟩
   ·have hkk:kin X.env x k=k:=by
     unfold kin;rw [if_neg];intro z;have:(k==NameKind.free)=false:=by simpa using hfree
     rw [this] at z;cases z
    have hk':k=.cell:=by
     rcases hx' with z|z
     ·have z':some (kin X.env x k)=some NameKind.cell:=z;rw [hkk] at z';exact EL z'
     ·have z':some (kin X.env x k)=some NameKind.free:=z;rw [hkk] at z';exact absurd (EL z') hfree
    subst hk';exact cs.uQ hm
 cab:=fun x c hx hc=>by
  have hx':x∈own:=of_decide_eq_true hx;rcases cs.bj I.ok hc with ⟨_,a,_⟩|⟨a,_⟩
  ·exact EE (Nat.le_add_right _ 2) a
  ·rcases cs.DY x hx' with z|z<;>cases cs.uniq a z
 hd:=I.ok.hd
 frames:=I.ok.frames
 stk:=.inl rfl
 exf:=fun b hb=>⟨EF (Nat.lt_succ_of_lt (hlt b hb)),fun x c hc=>by
  rcases cs.bj I.ok hc with ⟨_,a,_⟩|⟨_,a⟩
  ·exact Nat.ne_of_gt (EC (hlt b hb) (EE (Nat.le_add_right _ 2) a))
  ·exact (hf b hb).2.2.2.2.1 x c a⟩
 bs:=fun b o e=>I.bs b o e
 bsz:=EE I.ok.bsz I.sz
 iW:=fun b o e hb=>by
  rcases (hf b hb).2.2.2.1 with z|z
  ·exact I.ok.iW b o e z
  ·exact absurd (EC (Cl e) (EE I.ok.bsz z)) (Nat.lt_irrefl _)
 mC:=fun b hb z=>by
  rcases Er.mp (I.fk b z) with z|z
  ·exact (hf b hb).2.1 z
  ·exact (hf b hb).2.2.1 z
 c_:=I.stack
 frf:=I.o5
theorem uC (h:env.kindOf x=some .cell∨env.kindOf x=some .free):kin env x .free=.cell∨kin env x .free=.free:=by
 unfold kin;split
 ·exact .inl rfl
 ·exact .inr rfl
theorem tO (I:Inv X pins σ H s) (cs:CS X scope own cap) (hf:∀b∈fp,bh X pins H b) (hlt:∀b∈fp,b<s.heap.objs.size) (hof:o.isFreed=false):
  Inv (cX X scope own cap pins s H fp) [] (cS own cap σ) H {s with heap:=pushCells ((s.heap.push o).push {cls:=.type "dict",data:=.dict #[]}) scope.names}:=by
 have kp:∀b u,s.heap.get? b=some u->(pushCells ((s.heap.push o).push {cls:=.type "dict",data:=.dict #[]}) scope.names).get? b=some u:=fun b u e=>pushCells_keeps _ _ b u (BT _ (BT _ e));have ck:=cellsFrom_ok scope.names ((s.heap.push o).push {cls:=.type "dict",data:=.dict #[]}) 0 [] ⟨fun _ _ hm=>(nomatch hm),List.Pairwise.nil⟩ (Nat.zero_le _);rw [Heap.size_push,Heap.size_push] at ck;refine ⟨B0 I cs hf hlt,rfl,I.bare,Un.kept kp,?_,?_,I.hok.fresh (Nat.le_succ _),?_,?_,I.hok.kept kp,?_⟩
 ·refine ⟨fun _=>none,?_,fun i x v e1 e2 e3=>?_⟩
  ·have n:=Heap.Ns.new (s.heap.push o) (.type "dict");rw [Heap.size_push] at n;exact n.keeps (pushCells_keeps _ _)
  ·have e1':(own++cap.map (·.1))[i]?=some x:=e1;have e2':(own.map (fun _=>(none:Option V))++cap.map fun p=>(σ[p.2]?).join)[i]?=some (some v):=e2
   by_cases hi:i<own.length
   ·rw [List.getElem?_append_left (by simpa using hi),List.getElem?_map] at e2';cases hq:own[i]? with
    |none=>rw [hq] at e2';cases e2'
    |some y=>rw [hq] at e2';cases e2'
   ·have hi':own.length<=i:=Nat.le_of_not_lt hi;rw [List.getElem?_append_right hi',List.getElem?_map] at e1';rw [List.getElem?_append_right (by simpa using hi'),List.getElem?_map,Ez] at e2';cases hq:cap[i - own.length]? with
    |none=>rw [hq] at e1';cases e1'
    |some p=>
     rw [hq] at e1' e2';have e1'':p.1=x:=EL e1';have e2'':(σ[p.2]?).join=some v:=EL e2';subst e1'';have e2s:σ[p.2]?=some (some v):=by
      cases hs:σ[p.2]? with
      |none=>rw [hs] at e2'';cases e2''
      |some y=>rw [hs] at e2'';rw [show y=some v from e2'']
     obtain ⟨hN,hfree⟩:=cs.Dk p (List.mem_of_getElem? hq);have hkk:=cs.fr _ hfree rfl;have vis:Vis X.env.scope p.1:=hkk.elim (fun z=>.inr (.inl z)) fun z=>.inr (.inr z);obtain ⟨m,hn,hl⟩:=I.loc;obtain ⟨u,r,l⟩:=hl p.2 p.1 v hN e2s vis;refine ⟨u,r,.inr ⟨?_,?_⟩⟩
     ·have e:(bL X scope s.heap.objs.size).kindOf p.1=(scope.names.lookup p.1).map (kin X.env p.1):=iy;rw [cs.lk hfree] at e;rcases uC hkk with z|z
      ·exact .inl (e.trans (congrArg some z))
      ·exact .inr (e.trans (congrArg some z))
     ·rcases l with ⟨lk,_⟩|⟨_,c,hc,hcell⟩
      ·rcases hkk with z|z<;>(rw [z] at lk;cases lk)
      ·exact ⟨c,cs.ma I.ok hfree hc,hcell.keeps kp⟩
 ·intro x c hc;rcases cs.bj I.ok hc with ⟨_,_,a⟩|⟨_,a⟩
  ·exact ⟨_,(ck.empty x c a).1⟩
  ·obtain ⟨v,hv⟩:=I.cell x c a;exact ⟨v,hv.keeps kp⟩
 ·intro x c hc;rcases cs.bj I.ok hc with ⟨_,a,_⟩|⟨_,a⟩
  ·exact I.hok.fresh (EE (Nat.le_add_right _ 2) a)
  ·exact I.cV x c a
 ·intro p hp;have hp':p∈X.pn++pins:=by simpa [cX] using hp
  obtain ⟨e,n,ne,nf,d⟩:=I.pin p hp';refine ⟨kp _ _ e,n,EF (Nat.lt_succ_of_lt (Cl e)),fun z=>?_,d⟩;rcases Er.mp (I.fk p.1 z) with z|z
  ·exact ne z
  ·exact nf z
 ·simp [cX,cS]
noncomputable def Acc (h:Heap) (acc:Addr) (ys:List V):Prop:=∃its:List Value,Vals ys its∧h.PlainList acc its.toArray
theorem Acc.at (x:Acc h acc ys) (k:∀o,h.get? acc=some o->h'.get? acc=some o):Acc h' acc ys:=let ⟨its,r,p⟩:=x;⟨its,r,p.at k⟩
theorem Acc.obj (x:Acc h acc ys):∃o,h.get? acc=some o∧∀v,o.data≠.cell v:=by
 obtain ⟨its,r,n,e⟩:=x;exact ⟨_,e,fun v z=>by
  have z':Data.seq _ _=Data.cell v:=z;cases z'⟩
end
structure AK (α:Type) where
 ac:Heap->Addr->α->Prop
 kept:∀{h h':Heap} {acc:Addr} {ys:α},ac h acc ys->(∀o,h.get? acc=some o->h'.get? acc=some o)->ac h' acc ys
 obj:∀{h:Heap} {acc:Addr} {ys:α},ac h acc ys->∃o,h.get? acc=some o∧∀v,o.data≠.cell v
noncomputable def pw:AK (List V):=⟨Acc,Acc.at,Acc.obj⟩
noncomputable abbrev TBg (α:Type):=St->Hp->α->(α->Hp->Prop)->Prop
noncomputable abbrev TB:=TBg (List V)
noncomputable def PBg {α:Type} (B:AK α) (Y:Cx) (acc:Addr) (m:Sem Unit) (t:TBg α):Prop:=
 ∀(pins:List (Addr×Obj)) (s:Shared) (σ:St) (H:Hp) (ys:α) (Q:α->Hp->Prop),Inv Y pins σ H s->bh Y pins H acc->B.ac s.heap acc ys->t σ H ys Q->
  wpAny (model Y.prog Y.w) Y.A m (fun _ s'=>∃ys' H',Inv Y pins σ H' s'∧H' acc=none∧B.ac s'.heap acc ys'∧Q ys' H') Y.xe s
noncomputable abbrev PB (Y:Cx) (acc:Addr) (m:Sem Unit) (t:TB):Prop:=PBg pw Y acc m t
noncomputable def PTs (Y:Cx) (ifs:List Expr) (t:TT):Prop:=
 ∀(pins:List (Addr×Obj)) (s:Shared) (σ:St) (H:Hp) (Q:Bool->Hp->Prop),Inv Y pins σ H s->t σ H Q->
  wpAny (model Y.prog Y.w) Y.A (forIn ifs true fun c r=>if r=true then do let ok←isTrue c Y.env (eval c Y.env);pure (ForInStep.yield ok) else pure (ForInStep.yield r)) (TP Y pins σ Q) Y.xe s
noncomputable def lT:TT:=fun _ H Q=>Q true H
theorem gU {P:Addr->Prop} {a:Addr} (h:P a):∀b∈[a],P b:=fun b hb=>by
 have e:b=a:=by simpa using hb
 rw [e];exact h
section
variable {Y:Cx} {acc:Addr}
theorem kj:PTs Y [] lT:=fun _ _ _ H _ I h=>AC ⟨H,I,h⟩
theorem yE (h:PT Y c t):PTs Y [c] t:=fun pins s σ H Q I hw=>by
 simp only [List.forIn_cons,List.forIn_nil,if_true];exact At (At (thn (h pins s σ H Q I hw) fun b s' hb=>AC (AC hb)))
noncomputable def CV (te:TE):TB:=fun σ H ys Q=>ys.length<=sizeLine∧te σ H fun v H1=>Q (ys++[v]) H1
theorem ye {elt:Expr} {te:TE} (he:PE Y elt te):PB Y acc (do let _←call (.builtin "list.append") [.ref acc,←eval elt Y.env]) (CV te):=by
 intro pins s σ H ys Q I hf ha h;obtain ⟨hz,h⟩:=h;have I1:=I.pinned (fp:=[acc]) (gU hf) (gU ha.obj);refine At (thn (he _ s σ H _ I1 h) fun u s1 zz=>?_);obtain ⟨v,H1,I2,r,q⟩:=zz;obtain ⟨o,eo,_⟩:=ha.obj;have pin:=I2.pin (acc,o) (Db _ (Db _ (bG (by simp) eo)));have ha1:Acc s1.heap acc ys:=ha.at fun o' e'=>by rw [eo] at e';cases e';exact pin.1
 obtain ⟨its,rv,pl⟩:=ha1;obtain ⟨f0,f1,f2,f3,f4,f5⟩:=hf;refine At (wpAny_list_append_plain pl (fun h' pl' sb=>AC ?_) ?_)
 ·have I3:Inv Y pins σ H1 {s1 with heap:=h'}:=I2.bT.turned (t':=s1.toks) (fun b o hb e=>(sb.2 b hb).trans e) pin.2.1 f1 f3 f4 f5;exact ⟨ys++[v],H1,I3,pin.2.1,⟨its++[u],rv.append (.cons r .nil),by simpa using pl'⟩,q⟩
 ·have:=rv.length;simp only [List.size_toArray];omega
noncomputable def Fgt (σ σ':St):Prop:=σ.length=σ'.length∧∀(i:Nat) v,σ[i]?=some (some v)->σ'[i]?=some (some v)
noncomputable def f9 {α:Type} (g:TG) (tt:TT) (tb:TBg α) (J:It) (σ:St) (H:Hp) (ys:α) (Q:α->Hp->Prop):Prop:=
 ∃W:Nat->Nat->α->Hp->Prop,(∃m,W 0 m ys H)∧∀i m ys H,W i m ys H->
  (J.stop i H∧Q ys H)∨(J.go i H∧∀x H',J.yld i H x H'->g x σ H' fun σ2 H2=>Fgt σ σ2∧tt σ2 H2 fun b H3=>
   if b=true then tb σ2 H3 ys fun ys' H4=>∃m',m'<m∧W (i+1) m' ys' H4 else ∃m',m'<m∧W (i+1) m' ys H3)
noncomputable def jb (P:Program) (w:World) (node:Expr) (d:Nat) (it acc:Value) (env:Env):Prop:=(∀A:Around,A.under (.compLoop node d it acc env)=A)∧(model P w).den (.compLoop node d it acc env)=(compTurn node d it acc env).onRaise (fun x=>do noteFrame x env;theTreesLotGoes x)
theorem lP {P:Program} {w:World} {elt:Expr} {gens:List Comprehension} {scope:Scope} {pos:Pos} {d:Nat} {it acc:Value} {env:Env}:jb P w (.ListComp elt gens scope pos) d it acc env:=⟨fun _=>rfl,rfl⟩
noncomputable def jc (node:Expr) (d:Nat) (tg iter:Expr) (ifs:List Expr) (it acc:Value) (env:Env) (ins:Sem Unit):Prop:=
 compTurn node d it acc env=(standAt iter.pos>>=fun _=>pyNext it>>=fun r=>match r with
   |none=>pure (.done .next)
   |some v=>letOwnedTupleGo tg it v>>=fun _=>assign tg env v>>=fun _=>
    (forIn ifs true fun c r=>if r=true then do let ok←isTrue c env (eval c env);pure (ForInStep.yield ok) else pure (ForInStep.yield r))>>=fun ok=>
     (if ok=true then ins else pure ())>>=fun _=>again (.compLoop node d it acc env))
theorem gC {α:Type} {B:AK α} {node:Expr} {d:Nat} {tg iter:Expr} {ifs:List Expr} {ins:Sem Unit} {it:Addr} (hd:jb Y.prog Y.w node d (.ref it) (.ref acc) Y.env) (hg:jc node d tg iter ifs (.ref it) (.ref acc) Y.env ins) {g:TG} {tt:TT} {tb:TBg α} (hc:Y.calm=true) (hx:∀e s,Y.xe e s->False)
  (h1:PG Y tg g) (h2:PTs Y ifs tt) (h3:PBg B Y acc ins tb)
  {J:It} {fp:List Addr} {tn:Nat->Heap->Prop} (T:Turn Y.prog Y.w Y.K tg J fp it tn) (hac:acc∉fp)
  {pins:List (Addr×Obj)} {s:Shared} {σ:St} {H:Hp} {ys:α} {Q:α->Hp->Prop} {R:Result->Shared->Prop} (I:Inv Y pins σ H s) (st:tn 0 s.heap) (hf:∀b∈fp,bh Y pins H b) (ha:bh Y pins H acc) (ac:B.ac s.heap acc ys)
  (h:f9 g tt tb J σ H ys Q) (hR:∀s' ys' H',Inv Y pins σ H' s'->H' acc=none->B.ac s'.heap acc ys'->Q ys' H'->R (.ok .next) s'):
  codeAny (model Y.prog Y.w) Y.A (.compLoop node d (.ref it) (.ref acc) Y.env) R s:=by
 obtain ⟨W,⟨m0,w0⟩,turn⟩:=h;have stat:∀{H':Hp},(∀b∈fp,H' b=none)->∀b∈fp,bh Y pins H' b:=fun hn b hb=>⟨hn b hb,(hf b hb).2⟩
 have nox:∀{E:Value->Shared->Prop} {α:Type} {m:Sem α} {P:α->Shared->Prop} {s:Shared},wpAny (model Y.prog Y.w) Y.A m P Y.xe s->wpAny (model Y.prog Y.w) Y.A m P E s:=fun h=>AT h (fun _ _ q=>q) fun _ _ z=>(hx _ _ z).elim;refine codeAny_loop rfl (fun n s'=>∃i H' ys',Inv Y pins σ H' s'∧tn i s'.heap∧(∀b∈fp,H' b=none)∧H' acc=none∧B.ac s'.heap acc ys'∧W i n ys' H') ?_ m0 ⟨0,H,ys,I,st,fun b hb=>(hf b hb).1,ha.1,ac,w0⟩;rintro n s3 ⟨i,H3,ys3,I3,st3,fr3,an3,ac3,w3⟩;rw [hd.1,hd.2];refine wpAny_noted ?_;rw [hg];refine At (wpAny_standAt (At ?_));obtain ⟨oa,ea,da⟩:=(B.obj ac3)
 have fa3:bh Y pins H3 acc:=⟨an3,ha.2⟩
 have J3:Inv Y (pins++bV [acc] s3.heap) σ H3 s3:=I3.pinned (fp:=[acc]) (gU fa3) (gU (B.obj ac3));have inpa:(acc,oa)∈bV [acc] s3.heap:=bG (by simp) ea;have stat':∀{H':Hp},(∀b∈fp,H' b=none)->∀b∈fp,bh Y (pins++bV [acc] s3.heap) H' b:=fun hn b hb=>by
  obtain ⟨f0,f1,f2,f3,f4,f5⟩:=stat hn b hb;refine ⟨f0,f1,f2,f3,f4,fun p hp z=>?_⟩;rw [←EB] at hp;rcases Ep.mp hp with hp|hp
  ·exact f5 p hp z
  ·have e:p.1=acc:=by simpa using (gY hp).1
   exact hac (by rw [←e,z];exact hb)
 rcases turn i n ys3 H3 w3 with ⟨stop,qn⟩|⟨go,step⟩
 ·refine thn (T.done Y rfl rfl rfl hc i _ s3 σ H3 _ J3 (stat' fr3) st3 stop) fun r s4 zz=>?_;obtain ⟨hr,I4⟩:=zz;subst hr;refine AC ?_;have p4:=I4.pin (acc,oa) (Db _ (Db _ inpa));exact hR s4 ys3 H3 I4.bT an3 (B.kept ac3 fun o e=>by rw [ea] at e;cases e;exact p4.1) qn
 ·refine thn (T.item Y rfl rfl rfl hc i _ s3 σ H3 _ J3 (stat' fr3) st3 go) fun r s4 zz=>?_;obtain ⟨u,hr,h4⟩:=zz;subst hr;refine At (thn h4 fun _ s5 zz=>?_);obtain ⟨x,H5,I5,r5,y5,st5,fr5⟩:=zz;have I5':=I5.pinned (stat' fr5) (T.obj _ _ st5);refine At (nox (thn (h1 _ s5 σ H5 x u _ I5' r5 (step x H5 y5)) fun _ s6 zz=>?_));obtain ⟨σ6,H6,I6,fg,q6⟩:=zz;refine At (nox (thn (h2 _ s6 σ6 H6 _ I6 q6) fun ok s7 zz=>?_));obtain ⟨H7,I7,q7⟩:=zz;have p7:=I7.pin (acc,oa) (Db _ (Do _ (Db _ inpa)));have ac7:B.ac s7.heap acc ys3:=B.kept ac3 fun o e=>by rw [ea] at e;cases e;exact p7.1
  have I7':Inv Y (pins++bV fp s5.heap) σ6 H7 s7:=I7.kf fun p hp=>I7.pin p (Db _ ((Ep.mp hp).elim (fun z=>Do _ (Do _ z)) fun z=>Db _ z));have again':∀{s8:Shared} {H8:Hp} {ys8:α},Inv Y (pins++bV fp s5.heap) σ6 H8 s8->H8 acc=none->B.ac s8.heap acc ys8->(∃m',m'<n∧W (i+1) m' ys8 H8)->
    ∃m,m<n∧∃i H' ys',Inv Y pins σ H' s8∧tn i s8.heap∧(∀b∈fp,H' b=none)∧H' acc=none∧B.ac s8.heap acc ys'∧W i m ys' H':=fun {s8 H8 ys8} I8 an8 ac8 ⟨m',hm,w8⟩=>by
   refine ⟨m',hm,i+1,H8,ys8,I8.bT.weak fg.1 fg.2,T.keep _ _ _ st5 fun b hb o e=>(I8.pin (b,o) (Db _ (Db _ (bG hb e)))).1,fun b hb=>?_,an8,ac8,w8⟩;obtain ⟨o,e,_⟩:=T.obj _ _ st5 b hb;exact (I8.pin (b,o) (Db _ (Db _ (bG hb e)))).2.1
  cases ok with
  |false=>
   rw [if_neg EK] at q7 ⊢;exact At (AC (AC ⟨rfl,again' I7' p7.2.1 ac7 q7⟩))
  |true=>
   rw [if_pos rfl] at q7 ⊢;have fa7:bh Y (pins++bV fp s5.heap) H7 acc:=by
    obtain ⟨_,f1,f2,f3,f4,f5⟩:=ha;refine ⟨p7.2.1,f1,f2,f3,f4,fun p hp z=>?_⟩;rw [←EB] at hp;rcases Ep.mp hp with hp|hp
    ·exact f5 p hp z
    ·exact hac (by rw [←z];exact (gY hp).1)
   exact At (nox (thn (h3 _ s7 σ6 H7 ys3 _ I7' fa7 ac7 q7) fun _ s8 ⟨ys8,H8,I8,an8,ac8,q8⟩=>AC ⟨rfl,again' I8 an8 ac8 q8⟩))
noncomputable def CZ (wi:TI) (g:TG) (tt:TT) (tb:TB):TB:=fun σ H ys Q=>wi σ H fun J H1=>f9 g tt tb J σ H1 ys Q
theorem yf {elt:Expr} {gens:List Comprehension} {scope:Scope} {pos:Pos} {d:Nat} {tg iter:Expr} {ifs:List Expr} (hg:gens[d+1]?=some ⟨tg,iter,ifs,0⟩) {wi:TI} {g:TG} {tt:TT} {tb:TB} (hc:Y.calm=true) (hx:∀e s,Y.xe e s->False)
  (hi:PI Y tg iter wi) (h1:PG Y tg g) (h2:PTs Y ifs tt) (h3:PB Y acc (aW elt gens scope pos (d+1) (.ref acc) Y.env) tb) (hs:∀x,foldedSetIterable iter Y.env x=pure x:=by intro _;rfl):
  PB Y acc (aW elt gens scope pos d (.ref acc) Y.env) (CZ wi g tt tb):=by
 intro pins s σ H ys Q I hf ha h;unfold aW;rw [hg];obtain ⟨oa,ea,da⟩:=ha.obj;have J1:Inv Y (pins++bV [acc] s.heap) σ H s:=I.pinned (fp:=[acc]) (gU hf) (gU ha.obj);have inpa:(acc,oa)∈bV [acc] s.heap:=bG (by simp) ea;refine At (thn (hi _ s σ H _ J1 h) fun x s1 h1'=>At (wpAny_standAt ?_));show wpAny _ _ (foldedSetIterable iter Y.env x>>=_) _ _ s1;refine At (wpAny_of_eq (hs x) ?_);show wpAny _ _ (holding [x] (pyIter x)>>=_) _ _ s1;refine At (Da (thn h1' fun itv s2 h2'=>?_));obtain ⟨it,fp,tn,J,H2,e,I2,T,st2,f2,lp⟩:=h2';subst e;have p2:=I2.pin (acc,oa) (Db _ (Db _ inpa));have ac2:Acc s2.heap acc ys:=ha.at fun o e=>by rw [ea] at e;cases e;exact p2.1
 have hac:acc∉fp:=fun z=>(f2 acc z).2.2.2.2.2 (acc,oa) (Db _ (Db _ inpa)) rfl;have f2':∀b∈fp,bh Y pins H2 b:=fun b hb=>by
  obtain ⟨a0,a1,a2,a3,a4,a5⟩:=f2 b hb;exact ⟨a0,a1,a2,a3,a4,fun p hp=>a5 p ((Ep.mp hp).elim (fun z=>Do _ z) fun z=>Db _ (Do _ z))⟩
 have fa2:bh Y pins H2 acc:=⟨p2.2.1,hf.2⟩
 refine At (wpAny_runOwn (d7 hg ?_ ?_))
 ·exact gC lP (dy _ _ _ _ _ _ _ _ hg) hc hx h1 h2 h3 T hac I2.bT st2 f2' fa2 ac2 lp fun s' ys' H' I' an' ac' q'=>AC ⟨ys',H',I',an',ac',q'⟩
 ·exact T.self _ 0 _ _ _ st2 (gC lP (dy _ _ _ _ _ _ _ _ hg) hc hx h1 h2 h3 T hac I2.bT st2 f2' fa2 ac2 lp fun s' ys' H' I' an' ac' q'=>AC ⟨ys',H',I',an',ac',q'⟩)
end
section
variable {X:Cx} {scope:Scope} {own:List Str} {cap:List (Str×Nat)} {pins:List (Addr×Obj)} {σ:St} {H H':Hp} {s s':Shared} {fp:List Addr} {acc:Addr} {ys:List V}
theorem tW (I:Inv X pins σ H s) (hf:∀b∈fp,bh X pins H b) (I':Inv (cX X scope own cap pins s H fp) [] σ' H' s') (hacc:s.heap.objs.size<=acc) (han:H' acc=none) (hob:∀H0,aU X.prog X.w H0 s'.heap acc ob):
  Inv X pins σ (upd H' acc ob) s':=by
 have nacc:∀b o,s.heap.get? b=some o->b≠acc:=fun b o e=>EF (EC (Cl e) hacc);have u:Un (frs X.stack) fp H H' s.heap s'.heap:=I'.base;refine I.B3 (ch:=fp) I'.os ⟨u.keep,u.slot,fun b o e n hx=>?_,u.there,fun b xs e=>?_,fun b o v e=>?_,fun b ps e=>?_⟩ (fun b o e=>?_) I'.bare fun b hb=>?_
 ·rw [ao (nacc b o e)];exact u.free b o e n hx
 ·have:=u.gc b xs e;rw [ao (aM this han)];exact this
 ·have:=u.eR b o v e;rw [ao (aM this han)];exact this
 ·obtain ⟨more,this⟩:=u.f_ b ps e;exact ⟨more,by rw [ao (aM this han)];exact this⟩
 ·by_cases hb:b=acc
  ·subst hb;rw [aG] at e;cases e;exact hob _
  ·rw [ao hb] at e;exact (I'.hok b o e).hU (fun _ _ _ q=>q) (fun c q=>by rw [ao (aM q han)];exact q) fun c xs q=>by rw [ao (aM q han)];exact q
 ·obtain ⟨f0,f1,f2,f3,f4,f5⟩:=hf b hb;exact ⟨f3,f1,f4,f5⟩
theorem eF {α:Type} {B:AK α} {node tg iter:Expr} {ifs:List Expr} {ins:Addr->Env->Sem Unit} {g:TG} {tt:TT} {tb:TBg α} {newAcc:Sem Value} {o:Obj} {z0:α} {fin:α->Prop} {ho:Addr->α->HO} (cs:CS X scope own cap)
  (hnew:∀{Q:Value->Shared->Prop} {E:Value->Shared->Prop} {s:Shared},Q (.ref s.heap.objs.size) {s with heap:=s.heap.push o}->wpAny (model X.prog X.w) X.A newAcc Q E s) (hof:o.isFreed=false) (hz0:∀h a,h.get? a=some o->B.ac h a z0)
  (hho:∀H0 h a ys,(a==sysModules)=false->B.ac h a ys->fin ys->aU X.prog X.w H0 h a (ho a ys)) (hdn:∀it acc env,jb X.prog X.w node 0 (.ref it) (.ref acc) env) (hti:∀it acc env,jc node 0 tg iter ifs (.ref it) (.ref acc) env (ins acc env))
  (hcs:∀{it acc:Value} {env:Env} {R:Result->Shared->Prop} {s:Shared},codeAny (model X.prog X.w) X.A (.compLoop node 0 it acc env) R s->wpAny (model X.prog X.w) X.A (pyIter it) (fun it' s'=>codeAny (model X.prog X.w) X.A (.compLoop node 0 it' acc env) R s') (notedBy (model X.prog X.w) X.A env fun x s'=>R (.error x) s') s->codeAny (model X.prog X.w) X.A (.compStart node 0 it acc env) R s)
  (hc:X.calm=true)
  (h1:∀pins s₂ H₂ fp,PG (cX X scope own cap pins s₂ H₂ fp) tg g) (h2:∀pins s₂ H₂ fp,PTs (cX X scope own cap pins s₂ H₂ fp) ifs tt)
  (h3:∀pins s₂ H₂ fp acc,PBg B (cX X scope own cap pins s₂ H₂ fp) acc (ins acc (bL X scope s₂.heap.objs.size)) tb)
  {J:It} {it:Addr} {tn:Nat->Heap->Prop} (T:Turn X.prog X.w X.K tg J fp it tn) (I:Inv X pins σ H s) (st:tn 0 s.heap) (hf:∀b∈fp,bh X pins H b)
  {Q:VK} (h:f9 g tt tb J (cS own cap σ) H z0 fun ys H2=>fin ys∧∀a,H2 a=none->Q (.ref a) (upd H2 a (ho a ys))) {RR:Value->Addr->Result->Shared->Prop} {E:Value->Shared->Prop}
  (hR:∀acc C s' H' m,s.heap.objs.size<=C->Inv X pins σ H' s'->H' C=none->s'.heap.Ns C m->Q (.ref acc) H'->RR (.ref acc) C (.ok .next) s'):
  wpAny (model X.prog X.w) X.A newAcc (fun acc s₃=>wpAny (model X.prog X.w) X.A (newFunctionEnv scope X.env.globals (cC X.env scope.names []) [] X.env.qual none .none (some X.env)) (fun cenv s₄=>
   codeAny (model X.prog X.w) X.A (.compStart node 0 (.ref it) acc {cenv with scope:=relabel scope X.env}) (RR acc cenv.locals) s₄) E s₃) E s:=by
 have hlt:∀b∈fp,b<s.heap.objs.size:=fun b hb=>by
  obtain ⟨o,e,_⟩:=T.obj _ _ st b hb;exact Cl e
 refine hnew (lF ?_);have e1:(s.heap.push o).objs.size=s.heap.objs.size+1:=Heap.size_push ..;have I1:=tO I cs hf hlt (o:=o) hof;have kp:∀b u,s.heap.get? b=some u->(pushCells ((s.heap.push o).push {cls:=.type "dict",data:=.dict #[]}) scope.names).get? b=some u:=
  fun b u e=>pushCells_keeps _ _ b u (BT _ (BT _ e))
 have st1:=T.keep _ _ _ st fun b _ o e=>kp b o e;have ac1:B.ac (pushCells ((s.heap.push o).push {cls:=.type "dict",data:=.dict #[]}) scope.names) s.heap.objs.size z0:=
  hz0 _ _ (pushCells_keeps _ _ _ _ (BT _ (Ch _ hof)))
 dsimp only;rw [e1];have hac:s.heap.objs.size∉fp:=fun z=>Nat.lt_irrefl _ (hlt _ z);have fa:bh (cX X scope own cap pins s H fp) [] H s.heap.objs.size:=by
  refine ⟨I.hok.fresh (EG _),EF (Nat.lt_succ_self _),fun z=>?_,.inr (EG _),fun x c e z=>?_,fun p hp z=>?_⟩
  ·rcases Er.mp (I.fk _ z) with z|z
   ·exact absurd I.lt (by rw [←z];exact Nat.lt_irrefl _)
   ·exact I.AJ (EG _) z
  ·rcases cs.bj I.ok e with ⟨_,a,_⟩|⟨_,a⟩
   ·rw [z] at a;omega
   ·obtain ⟨v,q⟩:=I.cell x c a;exact absurd q.lt (by rw [z];exact Nat.lt_irrefl _)
  ·have hp':p∈X.pn++pins:=by simpa [cX] using hp
   exact absurd (Cl (I.pin p hp').1) (by rw [z];exact Nat.lt_irrefl _)
 have ff:∀b∈fp,bh (cX X scope own cap pins s H fp) [] H b:=fun b hb=>by
  obtain ⟨f0,f1,f2,f3,f4,f5⟩:=hf b hb;refine ⟨f0,EF (Nat.lt_succ_of_lt (hlt b hb)),fun z=>?_,.inl hb,fun x c e=>?_,fun p hp=>?_⟩
  ·rcases Er.mp (I.fk _ z) with z|z
   ·exact f1 z
   ·exact f2 z
  ·rcases cs.bj I.ok e with ⟨_,a,_⟩|⟨_,a⟩
   ·exact Nat.ne_of_gt (EC (hlt b hb) (EE (Nat.le_add_right _ 2) a))
   ·exact f4 x c a
  ·have hp':p∈X.pn++pins:=by simpa [cX] using hp
   exact f5 p hp'
 have fin':∀s' ys' H',Inv (cX X scope own cap pins s H fp) [] (cS own cap σ) H' s'->H' s.heap.objs.size=none->B.ac s'.heap s.heap.objs.size ys'->(fin ys'∧∀a,H' a=none->Q (.ref a) (upd H' a (ho a ys')))->
   RR (.ref s.heap.objs.size) (s.heap.objs.size+1) (.ok .next) s':=fun s' ys' H' I' an' ac' q'=>by
  have I2:=tW I hf I' (EG _) an' fun H0=>hho H0 _ _ _ (beq_eq_false_iff_ne.mpr (Ne.symm (EF I.big))) ac' q'.1;obtain ⟨m,hn,_⟩:=I'.loc;refine hR _ _ s' _ m (Nat.le_succ _) I2 ?_ hn (q'.2 _ an');rw [ao (Nat.ne_of_gt (Nat.lt_succ_self _))];exact I'.free
 have lp:∀s₄:Shared,s₄={s with heap:=pushCells ((s.heap.push o).push {cls:=.type "dict",data:=.dict #[]}) scope.names}->
   codeAny (model X.prog X.w) X.A (.compLoop node 0 (.ref it) (.ref s.heap.objs.size) (bL X scope s.heap.objs.size)) (RR (.ref s.heap.objs.size) (s.heap.objs.size+1)) s₄:=by
  rintro s₄ rfl;exact gC (Y:=cX X scope own cap pins s H fp) (d:=0) (hdn _ _ _) (hti _ _ _) hc (fun _ _ z=>z) (h1 pins s H fp) (h2 pins s H fp) (h3 pins s H fp s.heap.objs.size) T hac I1 st1 ff fa ac1 h fin'
 exact hcs (lp _ rfl) (T.self _ 0 _ _ _ st1 (lp _ rfl))
theorem oA (H0:Hp) (h:Heap) (a:Addr) (ys:List V) (_:(a==sysModules)=false) (ac:pw.ac h a ys) (hz:ys.length<=sizeLine):aU P w H0 h a (.lst ys):=by
 obtain ⟨its,r,n,pl⟩:=ac;exact ⟨hz,its,n,r,pl⟩
noncomputable def qB (own:List Str) (cap:List (Str×Nat)) (wi:TI) (g:TG) (tt:TT) (tb:TB):TE:=fun σ H Q=>wi σ H fun J H1=>f9 g tt tb J (cS own cap σ) H1 [] fun ys H2=>ys.length<=sizeLine∧∀a,H2 a=none->Q (.ref a) (upd H2 a (.lst ys))
variable {elt tg iter:Expr} {ifs:List Expr} {rest:List Comprehension} {pos:Pos} {wi:TI} {g:TG} {tt:TT} {tb:TB}
theorem CS.names (cs:CS X scope own cap):∀x∈scope.names,x.2=.local->scope.names.lookup x.1=some .local:=fun x hx e=>cs.lk (by rw [←e];exact hx)
theorem Inv.lO (I:Inv X pins σ H s) (I':Inv X pins σ' H' s') (hC:s.heap.objs.size<=C) (hn:H' C=none) (hs:Heap.SameBut C s'.heap h'):Inv X pins σ' H' {s' with heap:=h'}:=by
 obtain ⟨f0,f1,f2,f3,f4,f5⟩:=I.fI hC hn;exact I'.turned (t':=s'.toks) (fun b o hb e=>(hs.2 b hb).trans e) f0 f1 f3 f4 f5
theorem yi (cs:CS X scope own cap) (hc:X.calm=true) (hi:PI X tg iter wi) (h1:∀pins s₂ H₂ fp,PG (cX X scope own cap pins s₂ H₂ fp) tg g) (h2:∀pins s₂ H₂ fp,PTs (cX X scope own cap pins s₂ H₂ fp) ifs tt)
  (h3:∀pins s₂ H₂ fp acc,PB (cX X scope own cap pins s₂ H₂ fp) acc (aW elt (⟨tg,iter,ifs,0⟩::rest) scope pos 0 (.ref acc) (bL X scope s₂.heap.objs.size)) tb)
  (hs:∀x,foldedSetIterable iter X.env x=pure x:=by intro _;rfl):PE X (.ListComp elt (⟨tg,iter,ifs,0⟩::rest) scope pos) (qB own cap wi g tt tb):=by
 intro pins s σ H Q I h;rw [eval_ListComp];refine wpAny_comprehension_free (use:=none) rfl hs (cI (cs.jW I.ok)) cs.kind cs.names ?_;refine thn (hi pins s σ H _ I h) fun x s1 h1'=>thn h1' fun itv s2 h2'=>?_;obtain ⟨it,fp,tn,J,H2,e,I2,T,st2,f2,lp⟩:=h2';subst e;refine eF (B:=pw) (fin:=fun ys=>ys.length<=sizeLine) (ho:=fun _ ys=>.lst ys) (RR:=fun acc C=>compPost (model X.prog X.w) X.A X.xe none (EP X pins σ Q) acc C) cs wpAny_newObj_type rfl (fun h a e=>⟨[],.nil,_,e⟩) oA (fun _ _ _=>lP) (fun it acc env=>dy _ _ _ _ _ _ _ _ rfl) (d7 rfl) hc h1 h2 h3 T I2 st2 f2 lp ?_;intro acc C s' H' m hC I' hn hns q;exact ⟨m,hns,fun h' hs'=>⟨.ref acc,H',CT.Inv.lO I2 I' hC hn hs',rfl,q⟩⟩
theorem yx {i:Nat} {x:Str} {pos' spos:Pos} (cs:CS X scope own cap) (hc:X.calm=true) (hN:X.N.Nodup) (hix:X.N[i]?=some x) (hx:Loc X.env.scope x) (hi:PI X tg iter wi) (h1:∀pins s₂ H₂ fp,PG (cX X scope own cap pins s₂ H₂ fp) tg g)
  (h2:∀pins s₂ H₂ fp,PTs (cX X scope own cap pins s₂ H₂ fp) ifs tt)
  (h3:∀pins s₂ H₂ fp acc,PB (cX X scope own cap pins s₂ H₂ fp) acc (aW elt (⟨tg,iter,ifs,0⟩::rest) scope pos 0 (.ref acc) (bL X scope s₂.heap.objs.size)) tb)
  (hsw:swapsWith (.ListComp elt (⟨tg,iter,ifs,0⟩::rest) scope pos) (some (.Name x pos')) spos.line X.env=pure true)
  (hs:∀x,foldedSetIterable iter X.env x=pure x:=by intro _;rfl) (hf:X.fn x=true∨X.env.scope.names.lookup x=some .local:=by first|exact .inl rfl|exact .inr rfl|assumption):
  PS X (.Assign [.Name x pos'] (.ListComp elt (⟨tg,iter,ifs,0⟩::rest) scope pos) spos) (kq (qB own cap wi g tt tb) (dR i)):=by
 intro pins s σ H D I h;rw [exec_Assign_Name_used _ _ _ _ hsw];refine At (wpAny_standAt (At ?_));show wpAny _ X.A (do let _←comprehension (.ListComp elt (⟨tg,iter,ifs,0⟩::rest) scope pos) scope X.env _ (newList []) false (eval iter X.env) (some (assign (.Name x pos') X.env))) _ _ s;refine At (AT (wpAny_comprehension_free (use:=some (assign (.Name x pos') X.env)) (Q:=fun _ s'=>SP X pins D .next s') rfl hs (cI (cs.jW I.ok)) cs.kind cs.names ?_) (fun _ s' hq=>AC (AC hq)) fun _ _ e=>e);refine thn (hi pins s σ H _ I h) fun xv s1 h1'=>thn h1' fun itv s2 h2'=>?_;obtain ⟨it,fp,tn,J,H2,e,I2,T,st2,f2,lp⟩:=h2';subst e;refine eF (B:=pw) (fin:=fun ys=>ys.length<=sizeLine) (ho:=fun _ ys=>.lst ys) (Q:=fun x H1=>dR i x σ H1 D.nx) (RR:=fun acc C=>compPost (model X.prog X.w) X.A X.xe (some (assign (.Name x pos') X.env)) (fun _ s'=>SP X pins D .next s') acc C) cs wpAny_newObj_type rfl (fun h a e=>⟨[],.nil,_,e⟩) oA (fun _ _ _=>lP) (fun it acc env=>dy _ _ _ _ _ _ _ _ rfl) (d7 rfl) hc h1 h2 h3 T I2 st2 f2 lp ?_;intro acc C s' H' m hC I' hn hns q;show wpAny _ X.A (assign (.Name x pos') X.env (.ref acc)) _ _ _;refine wpAny_assign_Name (hV I' hN hix hx (v:=.ref acc) rfl (fun s'' I'' ⟨a,sb,ha⟩=>?_) hf);have hne:C≠a:=by
  rcases ha with z|z
  ·rw [z];exact Nat.ne_of_gt (EC I2.lt hC)
  ·obtain ⟨v,hv⟩:=I2.cell x a z;exact Nat.ne_of_gt (EC hv.lt hC)
 exact ⟨m,hns.sameBut sb hne,fun h' hs'=>⟨_,H',CT.Inv.lO I2 I'' hC hn hs',q⟩⟩
variable {s₂:Shared} {H₂:Hp}
end
end CT
set_option autoImplicit true
set_option relaxedAutoImplicit true
namespace CT
open PySem PySem.Builtin
theorem iV:fillsNumberSlot (.type "tuple") "mul"=pure false:=
 fillsNumberSlot_seq (id:="tuple.__mul__") (r:=some (.builtin "tuple.__rmul__")) F.slot_tuple_mul.lookup (by decide+kernel) F.slot_tuple_rmul.lookup (by decide+kernel)
theorem nh:seqRepeat? (.type "tuple")=pure (some (.builtin "tuple.__mul__")):=by
 unfold seqRepeat?;rw [seqSlot_of (T:="tuple") (name:="__mul__") (id:="tuple.__mul__") F.slot_tuple_mul.lookup (by decide+kernel),seqSlot_of (T:="tuple") (name:="__rmul__") (id:="tuple.__rmul__") F.slot_tuple_rmul.lookup (by decide+kernel)];rfl
theorem km (a:Int) (t:Tok) (l:Addr) (d:Option Addr) (its:Array Value) (n:Nat) (sl:Array (Option Value)):
  Meets (Builtin.«int.__rmul__» ⟨[.int a t,.ref l],[]⟩) (fun _ R s=>s.heap.get? l=some {cls:=.type "tuple",dict:=d,data:=.seq its n,slots:=sl}∧R (.ok (.ret Value.notImplemented)) s):=
 .of_wp fun prog w A R s h=>by obtain ⟨hp,g,d,tk,os⟩:=s;obtain ⟨hl,h⟩:=h;wp_walk;exact ⟨_,rfl,h⟩
theorem lB (l:Addr) (d:Option Addr) (v:Value) (n:Nat) (sl:Array (Option Value)) (k:Int) (u:Tok) (h0:0<=k) (h1:k<2^20):
  Meets (Builtin.«tuple.__mul__» ⟨[.ref l,.int k u],[]⟩) (fun _ R s=>s.heap.get? l=some {cls:=.type "tuple",dict:=d,data:=.seq #[v] n,slots:=sl}∧
   if k=1 then R (.ok (.ret (.ref l))) s else R (.ok (.ret (.ref s.heap.objs.size))) {s with heap:=s.heap.push {cls:=.type "tuple",data:=.seq (List.replicate k.toNat v).toArray}}):=
 .of_wp fun prog w A R s h=>by
  obtain ⟨hp,g,dd,tk,os⟩:=s;obtain ⟨hl,h⟩:=h
  wp_walk
  refine wpAny_ite_false (by simp;omega) ?_
  wp_walk
  by_cases k1:k=1
  ·subst k1;rw [if_pos rfl] at h
   wp_walk
   exact ⟨_,rfl,h⟩
  ·rw [if_neg k1] at h
   by_cases k0:k=0
   ·subst k0
    wp_walk
    exact ⟨_,rfl,h⟩
   ·have e:List.foldl (fun x1 x2=>x1++x2) #[] (List.replicate k.toNat #[v])=(List.replicate k.toNat v).toArray:=by
     have f:∀(m:Nat) (acc:List Value),List.foldl (fun x1 x2=>x1++x2) acc.toArray (List.replicate m #[v])=(acc++List.replicate m v).toArray:=by
      intro m
      induction m with
      |zero=>intro acc;simp
      |succ m ih=>
       intro acc;rw [List.replicate_succ,List.foldl_cons,show acc.toArray++#[v]=(acc++[v]).toArray by simp,ih,List.replicate_succ];simp
     have:=f k.toNat [];rw [List.nil_append] at this;exact this
    wp_walk
    refine wpAny_ite_false (by simp;omega) ?_;refine wpAny_ite_false (by simp;omega) ?_;refine wpAny_ite_false (by simp [Tuple.tupleTooMany,sizeLine];omega) ?_;rw [e]
    wp_walk
    refine wpAny_ite_false (by simp [sizeLine];omega) ?_
    wp_walk
    exact ⟨_,rfl,h⟩
end CT
set_option autoImplicit true
set_option relaxedAutoImplicit true
namespace CT
open PySem PySem.Spec PySem.W L2
open Builtin Builtin.ObjectAttr
noncomputable abbrev bmV:List Value:=[.type "ValueError",.type "Exception",.type "BaseException",.type "object"]
noncomputable def lR:List Value->Bool
 |[]=>false
 |v::r=>(v::r)==bmV||(match v with|.ref _=>lR r|_=>false)
theorem la (hx:bmV.contains x=true):∀{l:List Value},lR l=true->l.contains x=true
 |[],e=>nomatch e
 |v::r,e=>by
  unfold lR at e;rcases Bool.or_eq_true_iff.mp e with q|q
  ·rw [beq_iff_eq.mp q];exact hx
  ·cases v with
   |ref c=>rw [List.contains_cons,la hx q,Bool.or_true]
   |_=>cases q
structure iL (K:Frag) (C:Addr):Prop where
 hd:hasDictIn K C=true
 ov:(clsIn K C).any (fun cd=>lR cd.mro)=true
 ga:findIn K (.ref C) "__getattribute__"=some (some (.builtin "BaseException.__getattribute__"))
 gn:findIn K (.ref C) "__getattr__"=some none
 sa:findIn K (.ref C) "__setattr__"=some (some (.builtin "object.__setattr__"))
theorem iL.mro (c:iL K C) (hx:bmV.contains x=true):mroIn K C x=some true:=by
 obtain ⟨cd,hc,ho⟩:=any_some c.ov;have h:=la hx ho;unfold mroIn;rw [hc,Option.bind_some,if_neg (fun q=>by cases hl:cd.mro with|nil=>rw [hl] at h;cases h|cons _ _=>rw [hl] at q;cases q),h]
section
variable {prog:Program} {w:World} {A:Around} {E:Value->Shared->Prop} {s:Shared} {K:Frag} {x C:Addr} {ox:Obj} {od:Option Obj} {name:Str}
theorem Ag (X:K.In s.heap) (I:InstAt s.heap x ox C od) (hf:findObj K C od name=some f)
  (h:wpAny (model prog w) A (match f with|.value v=>ret v|.bind g a=>bindTo g a (.ref x) (.ref C)|.missing=>unsupported "x") Q E s) (hm:f≠.missing):
  wpAny (model prog w) A (Builtin.«object.__getattribute__» ⟨[.ref x,.str name tk],[]⟩) Q E s:=by
 have L0:=I.type (M:=model prog w);have L1:=looks_find (M:=model prog w) X I hf;unfold Builtin.«object.__getattribute__»;refine At (AC (At (AC (At (L0.here (At (L1.here ?_)))))));cases f with
 |missing=>exact absurd rfl hm
 |value v=>exact h
 |bind g a=>exact h
theorem xJ (X:K.In s.heap) (I:InstAt s.heap x ox C od) (c:iL K C) (hf:findObj K C od name=some f) (hm:f≠.missing)
  (h:wpAny (model prog w) A.in1 (match f with|.value v=>ret v|.bind g a=>bindTo g a (.ref x) (.ref C)|.missing=>unsupported "x")
   (fun fin s'=>match fin with|.done f=>R (.ok f) s'|.again c'=>c'.quiet=true∧codeAny (model prog w) A c' R s') (fun e s'=>R (.error e) s') s):
  codeAny (model prog w) A (.call (.builtin "BaseException.__getattribute__") ⟨[.ref x,.str name tk],[]⟩) R s:=by
 have S:=PySem.F.attr_ValueError.ga;have L0:Looks (model prog w) s.heap (isInstance (.ref x) (.type "BaseException")) true:=I.type.andThen (looks_mroIn X (c.mro (by decide)));refine codeAny_call_builtin S.plain F.entry_bexc_ga (@check_slot (model prog w) _ _ s "BaseException.__getattribute__" "BaseException" "__getattribute__" (.ref x) [.str name tk] [] _ (by decide+kernel) (by decide+kernel) L0 (F.args_bexc_ga (.ref x) (.str name tk)) ?_);exact Ag X I hf h hm
theorem yU (X:K.In s.heap) (I:InstAt s.heap x ox C od) (c:iL K C) (hf:findObj K C od name=some f) (hm:f≠.missing)
  (h:wpAny (model prog w) A.in1 (match f with|.value v=>ret v|.bind g a=>bindTo g a (.ref x) (.ref C)|.missing=>unsupported "x")
   (fun fin s'=>match fin with|.done (.ret v)=>wpAny (model prog w) A (handedOut v) Q E s'|_=>False) (fun e s'=>False) s):
  wpAny (model prog w) A (getAttrBy (.ref x) (.str name tk) fill expr) Q E s:=by
 have L0:=I.type (M:=model prog w);have L1:=looks_findIn (M:=model prog w) X c.ga;have L2:=looks_findIn (M:=model prog w) X c.gn;have S:=PySem.F.attr_ValueError.ga;unfold getAttrBy;refine Da (At (L0.here (At (L1.here ?_))));show wpAny _ _ (getAttrByItsOwn _ _ _ _ _ _) _ _ _;unfold getAttrByItsOwn;refine At (L2.here ?_);refine At (wpAny_attempt (Da ?_));have ec:callGetattribute (.ref x) (.str name tk) (.builtin "BaseException.__getattribute__") expr=boundAndCalled (.builtin "BaseException.__getattribute__") (.ref x) (.str name tk):=by cases expr<;>rfl
 rw [ec];unfold boundAndCalled;rw [S.bind];refine At (AC (wpAny_call (xJ X I c hf hm (AT h (fun fin s' z=>?_) fun e s' z=>z.elim))));rcases fin with (_|_|_|_)|_<;>first|exact z|exact z.elim
theorem vq (X:K.In s.heap) (I:InstAt s.heap x ox C od) (c:iL K C) (hf:findObj K C od "__class__"=some (.bind (.builtin "getset_descriptor.__get__") (.builtin "object.__class__")))
  (h:Q (some (.ref C)) {s with toks:=s.toks+1}):wpAny (model prog w) A (getAttr? (.ref x) "__class__") Q E s:=by
 unfold getAttr? getAttrBy?;refine At (wpAny_mkText (At (wpAny_attempt (yU (s:={s with toks:=s.toks+1}) X I c hf (fun z=>nomatch z) ?_))));refine At (Da (wpAny_call (class_get (s:={s with toks:=s.toks+1}) X I (c.mro (by decide)) ?_)));exact AC (AC (AC h))
theorem mM (c:iL K C) (hf:findObj K C od "__class__"=some (.bind (.builtin "getset_descriptor.__get__") (.builtin "object.__class__"))):KitX K (.ref x) (.ref C) (fun h=>InstAt h x ox C od) where
 ty:=fun _ _ _ I=>I.type
 it:=fun M h X _=>by
  obtain ⟨cd,hc,_⟩:=any_some c.ov;unfold clsIn at hc;split at hc
  ·rename_i ho;intro A' Q' E' s' k q;unfold isType loadHead;exact At (wpAny_loadPart (k _ _ (X _ _ ho)) (AC q))
  ·cases hc
 ne:=fun h tp dd its n sl X htp=>by
  obtain ⟨cd,hc,_⟩:=any_some c.ov;cases hb:(Value.ref C==Value.ref tp) with
  |false=>rfl
  |true=>
   have e:=Value.ref.inj (beq_iff_eq.mp hb);rw [←e] at htp;unfold clsIn at hc;split at hc
   ·rename_i ho;have z:=htp.symm.trans (X _ _ ho);cases z
   ·cases hc
 ca:=fun X I k=>vq X I c hf k
end
end CT
set_option autoImplicit true
set_option relaxedAutoImplicit true
set_option autoImplicit true
set_option relaxedAutoImplicit true
namespace CT
open PySem PySem.Spec PySem.W L2
noncomputable def lG (fr:Bool) (x C:Addr) (dx:Option Addr):HO:=.ext fun h=>∃vs,h.get? x=some ⟨.ref C,dx,.fields vs,#[]⟩∧vs.size=6∧(fr=true->vs[1]?=some .none)
noncomputable def tH (d:Addr) (fs:List (Str×V)):HO:=.ext fun h=>∃mA,h.Ns1 d mA∧(∀f,bY (fs.lookup f) (mA f))∧Within mA (fs.map (·.1))
section
variable {P:Program} {w:World} {H:Hp} {h:Heap} {x C d:Addr} {dx:Option Addr} {fs:List (Str×V)} {fr:Bool}
theorem rP (o:aU P w H h x (lG fr x C dx)):∃vs,h.get? x=some ⟨.ref C,dx,.fields vs,#[]⟩∧vs.size=6∧(fr=true->vs[1]?=some .none):=o.1
theorem Cr (o:aU P w H h d (tH d fs)):∃mA,h.Ns1 d mA∧(∀f,bY (fs.lookup f) (mA f))∧Within mA (fs.map (·.1)):=o.1
end
section
variable {X:Cx} {pins:List (Addr×Obj)} {σ:St} {H:Hp} {s:Shared} {a C dx:Addr} {fs:List (Str×V)} {f:Str} {v:V} {A:Around} {E:Value->Shared->Prop} {fr:Bool}
theorem C_ (I:Inv X pins σ H s) (e:H a=some (lG fr a C (some dx))) (n:H dx=some (tH dx fs)):∃vs mA odd,s.heap.get? a=some ⟨.ref C,some dx,.fields vs,#[]⟩∧s.heap.Ns1 dx mA∧(∀f,bY (fs.lookup f) (mA f))∧Within mA (fs.map (·.1))∧
  InstAt s.heap a ⟨.ref C,some dx,.fields vs,#[]⟩ C (some odd)∧∀name,lookIn name odd=some (mA name):=by
 obtain ⟨vs,h1,_⟩:=rP (I.hok a _ e);obtain ⟨mA,h2,r,q⟩:=Cr (I.hok dx _ n);obtain ⟨odd,h3,h4⟩:=kZ h2;exact ⟨vs,mA,odd,h1,h2,r,q,⟨h1,rfl,rfl,h3⟩,h4⟩
end
end CT
set_option autoImplicit true
set_option relaxedAutoImplicit true
set_option autoImplicit true
set_option relaxedAutoImplicit true
namespace CT
open PySem
inductive PK where
 |i (n:Int)
 |t (l:List PK)
mutual
noncomputable def PK.py:PK->PyData
 |.i n=>.int n
 |.t l=>.tuple (PK.pyL l)
noncomputable def PK.pyL:List PK->List PyData
 |[]=>[]
 |k::ks=>PK.py k::PK.pyL ks
end
mutual
noncomputable def PK.hs:PK->Int
 |.i n=>hashInt n
 |.t l=>reduceHash (Builtin.Tuple.tupleHashOf (PK.hsL l))
noncomputable def PK.hsL:List PK->List Int
 |[]=>[]
 |k::ks=>PK.hs k::PK.hsL ks
end
mutual
noncomputable def PK.dr:PK->Nat
 |.i _=>1
 |.t l=>PK.drL l+1
noncomputable def PK.drL:List PK->Nat
 |[]=>0
 |k::ks=>PK.dr k+PK.drL ks
end
mutual
noncomputable def PK.dp:PK->Nat
 |.i _=>0
 |.t l=>PK.dpL l+1
noncomputable def PK.dpL:List PK->Nat
 |[]=>0
 |k::ks=>max (PK.dp k) (PK.dpL ks)
end
mutual
noncomputable def bK (h:Heap):PK->Value->Prop
 |.i n,v=>∃tk,v=.int n tk
 |.t l,v=>∃a o its n,v=.ref a∧h.get? a=some o∧o.cls=.type "tuple"∧o.data=.seq its n∧ba h l its.toList
noncomputable def ba (h:Heap):List PK->List Value->Prop
 |[],vs=>vs=[]
 |k::ks,vs=>∃v us,vs=v::us∧bK h k v∧ba h ks us
end
mutual
theorem bK.inj:∀{x y:PK} {v:Value},bK h x v->bK h y v->x=y
 |.i n,.i m,v,⟨tk,e1⟩,⟨tk',e2⟩=>by rw [e1] at e2;cases e2;rfl
 |.i n,.t l,v,⟨tk,e1⟩,⟨a,_,_,_,e2,_⟩=>by rw [e1] at e2;cases e2
 |.t l,.i n,v,⟨a,_,_,_,e2,_⟩,⟨tk,e1⟩=>by rw [e1] at e2;cases e2
 |.t l,.t l',v,⟨a,o,its,n,e1,g1,_,d1,r1⟩,⟨a',o',its',n',e2,g2,_,d2,r2⟩=>by
  rw [e1] at e2;cases e2;rw [g1] at g2;cases g2;rw [d1] at d2;cases d2;rw [ba.inj r1 r2]
theorem ba.inj:∀{x y:List PK} {vs:List Value},ba h x vs->ba h y vs->x=y
 |[],[],_,_,_=>rfl
 |[],_::_,_,e,⟨_,_,e',_⟩=>by rw [show _=_ from e] at e';cases e'
 |_::_,[],_,⟨_,_,e',_⟩,e=>by rw [show _=_ from e] at e';cases e'
 |k::ks,k'::ks',vs,⟨v,us,e,a,b⟩,⟨v',us',e',a',b'⟩=>by
  rw [e] at e';cases e';rw [bK.inj a a',ba.inj b b']
end
mutual
theorem bK.keep (hk:∀b o its n,h.get? b=some o->o.data=.seq its n->h'.get? b=some o):∀{x:PK} {v:Value},bK h x v->bK h' x v
 |.i _,_,e=>e
 |.t _,_,⟨a,o,its,n,e1,g,c,d,r⟩=>⟨a,o,its,n,e1,hk _ _ _ _ g d,c,d,ba.keep hk r⟩
theorem ba.keep (hk:∀b o its n,h.get? b=some o->o.data=.seq its n->h'.get? b=some o):∀{x:List PK} {vs:List Value},ba h x vs->ba h' x vs
 |[],_,e=>e
 |_::_,_,⟨v,us,e,a,b⟩=>⟨v,us,e,bK.keep hk a,ba.keep hk b⟩
end
mutual
theorem bK.reads:∀{x:PK} {v:Value},bK h x v->∃as,Reads h v x.py as
 |.i n,_,⟨tk,e⟩=>by subst e;exact ⟨_,.int n tk⟩
 |.t l,_,⟨a,o,its,n,e1,g,c,d,r⟩=>by
  subst e1;obtain ⟨as,ra⟩:=ba.reads r;exact ⟨_,.tuple g c d ra⟩
theorem ba.reads:∀{x:List PK} {vs:List Value},ba h x vs->∃as,ReadsAll h vs (PK.pyL x) as
 |[],_,e=>by cases (show _=_ from e);exact ⟨_,.nil⟩
 |_::_,_,⟨v,us,e,a,b⟩=>by
  subst e;obtain ⟨as,ra⟩:=bK.reads a;obtain ⟨bs,rb⟩:=ba.reads b;exact ⟨_,.cons ra rb⟩
end
mutual
theorem PK.lay:∀k:PK,k.py.canLay0=true
 |.i _=>rfl
 |.t l=>PK.Aw l
theorem PK.Aw:∀l:List PK,PyData.canLayAll0 (PK.pyL l)=true
 |[]=>rfl
 |k::ks=>by
  show (PyData.canLay0 (PK.py k)&&PyData.canLayAll0 (PK.pyL ks))=true;rw [PK.lay k,PK.Aw ks];rfl
end
mutual
theorem PK.dep:∀k:PK,k.py.depth=k.dp
 |.i _=>rfl
 |.t l=>by
  show PyData.depthAll (PK.pyL l)+1=PK.dpL l+1;rw [PK.zM l]
theorem PK.zM:∀l:List PK,PyData.depthAll (PK.pyL l)=PK.dpL l
 |[]=>rfl
 |k::ks=>by
  show max (PyData.depth (PK.py k)) (PyData.depthAll (PK.pyL ks))=max (PK.dp k) (PK.dpL ks);rw [PK.dep k,PK.zM ks]
end
noncomputable instance:DecidableEq PK:=fun a b=>Classical.propDecidable (a=b)
mutual
theorem PK.eqv:∀a b:PK,PyData.eqv a.py b.py=decide (a=b)
 |.i n,.i m=>by
  show decide (n=m)=_
  by_cases h:n=m<;>simp [h]
 |.i n,.t l=>by rw [EI (by intro e;cases e)];rfl
 |.t l,.i n=>by rw [EI (by intro e;cases e)];rfl
 |.t l,.t l'=>by
  show PyData.eqvAll (PK.pyL l) (PK.pyL l')=_;rw [PK.z7 l l']
  by_cases h:l=l'<;>simp [h]
theorem PK.z7:∀a b:List PK,PyData.eqvAll (PK.pyL a) (PK.pyL b)=decide (a=b)
 |[],[]=>by rw [EH rfl];rfl
 |[],_::_=>by rw [EI (by intro e;cases e)];rfl
 |_::_,[]=>by rw [EI (by intro e;cases e)];rfl
 |k::ks,k'::ks'=>by
  show (PyData.eqv (PK.py k) (PK.py k')&&PyData.eqvAll (PK.pyL ks) (PK.pyL ks'))=_;rw [PK.eqv k k',PK.z7 ks ks']
  by_cases h:k=k'<;>by_cases h2:ks=ks'<;>simp [h,h2]
end
section
variable {prog:Program} {w:World} {E:Value->Shared->Prop}
theorem CC (hu:A.units+min x.dp y.dp<cLine) (hx:bK s.heap x u) (hy:bK s.heap y v) (h:Q (decide (x=y)) s):wpAny (model prog w) A (eqBool u v) Q E s:=by
 obtain ⟨as,ra⟩:=hx.reads;obtain ⟨bs,rb⟩:=hy.reads;refine SeqAt.eqAt_reads _ _ A s u v as bs ra rb x.lay y.lay (by rw [PK.dep,PK.dep];exact hu) prog w E Q ?_;rw [PK.eqv];exact h
end
set_option autoImplicit true
set_option relaxedAutoImplicit true
theorem uk:PK.dpL (k::ks)=max k.dp (PK.dpL ks):=rfl
theorem jo:∀(a b:List PK),PK.hsL (a++b)=PK.hsL a++PK.hsL b
 |[],_=>rfl
 |k::ks,b=>by show PK.hs k::PK.hsL (ks++b)=_;rw [jo ks b];rfl
theorem jj:∀(a b:List PK),PK.drL (a++b)=PK.drL a+PK.drL b
 |[],_=>by show _=0+_;rw [Nat.zero_add];rfl
 |k::ks,b=>by show PK.dr k+PK.drL (ks++b)=(PK.dr k+PK.drL ks)+_;rw [jj ks b];omega
section
variable {prog:Program} {w:World}
theorem yr:∀(n:Nat) (k:PK),k.dp<=n->∀{A:Around} {E:Value->Shared->Prop} {s:Shared} {v:Value} {Q:Int->Shared->Prop},A.units+n<cLine->bK s.heap k v->Q k.hs {s with toks:=s.toks+k.dr}->
  wpAny (model prog w) A (pyHash v) Q E s:=by
 intro n
 induction n with
 |zero=>
  intro k hk A E s v Q hu hi h;cases k with
  |i m=>obtain ⟨tk,e⟩:=hi;subst e;exact wpAny_pyHash_int h
  |t l=>exact absurd (show PK.dpL l+1<=0 from hk) (by omega)
 |succ n ih=>
  intro k hk A E s v Q hu hi h;cases k with
  |i m=>obtain ⟨tk,e⟩:=hi;subst e;exact wpAny_pyHash_int h
  |t l=>
   obtain ⟨a,o,its,m,e,g,c,d,r⟩:=hi;subst e;have hl:PK.dpL l<=n:=by have:PK.dpL l+1<=n+1:=hk;omega
   have T:s.TypeIs (.ref a) "tuple":=⟨o,g,c⟩
   have no:¬((some (Value.builtin "tuple.__hash__")==some Value.none)=true):=by rw [beq_builtin_none];exact EK
   unfold pyHash
   first|unfold pyHashByItsType|skip
   first|refine At (wpAny_cRoomFor_or (.inr (by omega)) ?_)|skip
   refine At (wpAny_specialOf T F.slot_tuple_hash.lookup ?_);show wpAny _ _ (if (some (Value.builtin "tuple.__hash__")==some Value.none)=true then _ else _) Q E s;rw [if_neg no];refine At (wpAny_specialOf T F.slot_tuple_hash.lookup ?_);show wpAny _ _ (callSpecialIfBoundUnlessNone? (.ref a) "__hash__" _>>=_) Q E s;refine At (wpAny_callSpecialIfBoundUnlessNone?_slot T F.slot_tuple_hash (wpAny_call_entry F.slot_tuple_hash T F.entry_tuple_hash ?_ (F.args_tuple_hash_1 _)));show wpAny _ _ (Builtin.Tuple.tupleItemsOf (.ref a)>>=_) _ _ s;refine At (wpAny_tupleItemsOf g d ?_);refine At ?_;rw [←Array.forIn_toList];refine wpAny_forIn_list _ (fun rest (b:Array Int) s'=>∃dn lf,l=dn++lf∧ba s.heap lf rest∧b.toList=PK.hsL dn∧s'={s with toks:=s.toks+PK.drL dn}) _ ?_ ?_ _ _ ⟨[],l,rfl,r,rfl,rfl⟩
   ·rintro x rest b s' ⟨dn,lf,e1,hl',hb,e2⟩;subst e1 e2;cases lf with
    |nil=>exact nomatch (show x::rest=[] from hl')
    |cons k' ks'=>
     obtain ⟨v',us,e3,ha,ht⟩:=hl';cases e3;have hk':k'.dp<=n:=by
      have:∀(dn:List PK),k'.dp<=PK.dpL (dn++k'::ks'):=by
       intro dn
       induction dn with
       |nil=>show k'.dp<=max _ _;omega
       |cons z zs ihz=>show k'.dp<=max _ (PK.dpL (zs++k'::ks'));omega
      exact EE (this dn) hl
     refine At (ih k' hk' (show A.in1.units+n<cLine by show A.units+1+n<cLine;omega) (s:={s with toks:=s.toks+PK.drL dn}) ha ?_);have fin:∃dn' lf',dn++k'::ks'=dn'++lf'∧ba s.heap lf' rest∧(b.push (PK.hs k')).toList=PK.hsL dn'∧({s with toks:=s.toks+PK.drL dn+PK.dr k'}:Shared)={s with toks:=s.toks+PK.drL dn'}:=
      ⟨dn++[k'],ks',by simp,ht,by rw [Array.toList_push,hb,jo];rfl,by rw [jj];show _={s with toks:=s.toks+(PK.drL dn+(PK.dr k'+0))};rw [Nat.add_zero,Nat.add_assoc]⟩
     first
      |exact AC fin
      |exact At (AC (AC fin))
   ·rintro b s' ⟨dn,lf,e1,hl',hb,e2⟩;subst e1 e2;cases lf with
    |cons _ _=>obtain ⟨_,_,e3,_⟩:=hl';cases e3
    |nil=>
     rw [List.append_nil] at h;show wpAny _ _ (retInt (Builtin.Tuple.tupleHashOf b.toList)) _ _ _;rw [hb];refine wpAny_ret_mkInt ?_;change Q (reduceHash (Builtin.Tuple.tupleHashOf (PK.hsL dn))) {s with toks:=s.toks+(PK.drL dn+1)} at h;generalize Builtin.Tuple.tupleHashOf (PK.hsL dn)=z at h ⊢;show wpAny _ _ (if (decide (-(2:Int)^63<=z)&&decide (z<2^63))=true then _ else _) Q E _;unfold reduceHash at h
     by_cases hz:(decide (-(2:Int)^63<=z)&&decide (z<2^63))=true
     ·rw [if_pos hz] at h ⊢;exact AC (by simpa [Nat.add_assoc] using h)
     ·rw [if_neg hz] at h ⊢;exact At (wpAny_rule (AC (by simpa [Nat.add_assoc] using h)))
theorem uZ:∀(n:Nat) (k:PK),k.dp<=n->∀{A:Around} {E:Value->Shared->Prop} {s:Shared} {v:Value} {Q:Bool->Shared->Prop},bK s.heap k v->Q true s->wpAny (model prog w) A (eqIsQuiet n v) Q E s:=by
 intro n
 induction n with
 |zero=>
  intro k hk A E s v Q hi h;cases k with
  |i m=>obtain ⟨tk,e⟩:=hi;subst e;rw [eqIsQuiet_byValue _ (by rfl)];exact AC h
  |t l=>exact absurd (show PK.dpL l+1<=0 from hk) (by omega)
 |succ n ih=>
  intro k hk A E s v Q hi h;cases k with
  |i m=>obtain ⟨tk,e⟩:=hi;subst e;rw [eqIsQuiet_byValue _ (by rfl)];exact AC h
  |t l=>
   obtain ⟨a,o,its,m,e,g,c,d,r⟩:=hi;subst e;have hl:PK.dpL l<=n:=by have:PK.dpL l+1<=n+1:=hk;omega
   have T:s.TypeIs (.ref a) "tuple":=⟨o,g,c⟩
   unfold eqIsQuiet;refine At (wpAny_specialOf T F.slot_tuple_eq.lookup ?_);show wpAny _ _ (isInstance (.ref a) (.type "tuple")>>=_) _ _ s;refine At (wpAny_isInstance T isSubtype_tuple_tuple ?_);simp only [Bool.not_true,Bool.false_eq_true,if_false];refine At (wpAny_seqItems g d ?_);refine At ?_;show wpAny _ _ (forIn its _ _) _ _ s;rw [←Array.forIn_toList];refine wpAny_forIn_list _ (fun rest q s'=>q.1=none∧s'=s∧∃lf,PK.dpL lf<=n∧ba s.heap lf rest) _ ?_ ?_ _ _ ⟨rfl,rfl,l,hl,r⟩
   ·rintro x rest q s' ⟨hq,e1,lf,hlf,hr⟩;subst e1;cases lf with
    |nil=>exact nomatch (show x::rest=[] from hr)
    |cons k' ks'=>
     obtain ⟨v',us,e3,ha,ht⟩:=hr;cases e3;rw [uk] at hlf;refine At (ih k' (by omega) ha ?_);simp only [Bool.not_true,Bool.false_eq_true,if_false];exact AC ⟨rfl,rfl,ks',by omega,ht⟩
   ·rintro ⟨q1,q2⟩ s' ⟨hq,e1,_⟩;subst e1;cases (show q1=none from hq);exact AC h
noncomputable def bI (prog:Program) (w:World):HeapKind prog w PK where
 is:=fun h k a=>bK h k (.ref a)∧k.dp<=8
 hash:=PK.hs
 draws:=PK.dr
 room:=fun A=>A.units+8<cLine
 inj:=fun hx hy=>hx.1.inj hy.1
 keeps:=fun x ho hd hs=>⟨x.1.keep fun b o its n hb hb2=>(hs.2 b (by
  rintro rfl;rw [ho] at hb;cases hb;rw [hd] at hb2;cases hb2)).trans hb,x.2⟩
 pyHash:=fun hu hk h=>yr 8 _ hk.2 hu hk.1 h
 eqBool:=fun {A E s x y a b Q} hu hx hy h=>CC (by have:=hx.2;have:=hy.2;omega) hx.1 hy.1 h
 quiet:=fun hk h=>uZ 8 _ hk.2 hk.1 h
end
set_option autoImplicit true
set_option relaxedAutoImplicit true
section
variable {prog:Program} {w:World} {E:Value->Shared->Prop} {K:Type} [DecidableEq K] {knd:HeapKind prog w K} {A:Around} {s:Shared}
theorem nM {es:Array DictEntry} (hn:(es.toList.map (·.hash)).Nodup) (e:DictEntry):¬(es.filter (·.hash==e.hash)).size>1:=by
 have key:∀l:List DictEntry,(l.map (·.hash)).Nodup->(l.filter (·.hash==e.hash)).length<=1:=by
  intro l
  induction l with
  |nil=>intro _;exact Nat.zero_le _
  |cons x l ih=>
   intro h;rw [List.map_cons,List.nodup_cons] at h;rw [List.filter_cons];split
   ·rename_i hx;have:l.filter (·.hash==e.hash)=[]:=by
     rw [List.filter_eq_nil_iff];intro y hy hh;exact h.1 (Es.mpr ⟨y,hy,by rw [eq_of_beq hh,eq_of_beq hx]⟩)
    rw [this];exact EG _
   ·exact ih h.2
 have:=key es.toList hn;have e2:(es.filter (·.hash==e.hash)).size=(es.toList.filter (·.hash==e.hash)).length:=by rw [←Array.length_toList,Array.toList_filter]
 omega
theorem pL {id:String} {d:Addr} {o:Obj} {es:Array DictEntry} {ep:Nat} {Q:Array DictEntry->Shared->Prop} (ho:s.heap.get? d=some o) (hd:o.data=.dict es ep) (hn:(es.toList.map (·.hash)).Nodup)
  (hq:∀e∈es,wpAny (model prog w) A (Builtin.Dict.quietEq e.key) (fun b s'=>s'=s) E s) (h:Q es s):wpAny (model prog w) A (Builtin.Dict.entriesForEmpty id d) Q E s:=by
 unfold Builtin.Dict.entriesForEmpty;refine At (wpAny_dictEntries ho hd ?_);refine At ?_;rw [←Array.forIn_toList];refine wpAny_forIn_list _ (fun rest _ s'=>s'=s∧∀e∈rest,e∈es) _ ?_ ?_ _ _ ⟨rfl,fun e he=>Array.mem_toList_iff.mp he⟩
 ·rintro x rest b s' ⟨rfl,hr⟩;refine At (AT (hq x (hr x Eo)) (fun b s'' e=>?_) fun _ _ z=>z);subst e;have e1:(es.filter (·.hash==x.hash)).size>1↔False:=⟨nM hn x,False.elim⟩
  cases b
  ·simp only [Bool.not_false,if_true,e1,if_false];exact AC ⟨rfl,fun e he=>hr e (En _ he)⟩
  ·simp only [Bool.not_true,Bool.false_eq_true,if_false];exact AC ⟨rfl,fun e he=>hr e (En _ he)⟩
 ·rintro b s' ⟨rfl,_⟩;exact AC h
noncomputable def au (knd:HeapKind prog w K) (h:Heap) (d:Addr) (xs:List (K×Addr×Value)) (ep:Nat):Prop:=
 ∃o es,h.get? d=some o∧o.ExactDict∧o.data=.dict es ep∧es.toList=xs.map (entryOfKey knd)∧(xs.map (·.1)).Nodup
theorem au.typeIs (x:au knd s.heap d xs ep):s.TypeIs (.ref d) "dict":=let ⟨o,_,g,c,_⟩:=x;⟨o,g,c.1⟩
theorem au.ofH (x:au knd h d xs ep) (hk:∀y∈xs,knd.is h y.1 y.2.1):h.DictOfH knd d xs:=let ⟨o,es,g,c,e,l,n⟩:=x;⟨o,es,ep,g,c,e,l,hk,n⟩
theorem oW (x:h.DictOfH knd d xs):∃ep,au knd h d xs ep:=let ⟨o,es,ep,g,c,e,l,_,n⟩:=x;⟨ep,o,es,g,c,e,l,n⟩
theorem au.keep (x:au knd h d xs ep) (k:∀o,h.get? d=some o->h'.get? d=some o):au knd h' d xs ep:=let ⟨o,es,g,r⟩:=x;⟨o,es,k o g,r⟩
theorem au.new (h:Heap):au knd (h.push {cls:=.type "dict",data:=.dict #[]}) h.objs.size [] 0:=⟨_,#[],Ch _ rfl,⟨rfl,rfl,rfl⟩,rfl,rfl,List.nodup_nil⟩
theorem sV (hT:s.TypeIs (.ref a) "tuple"):wpAny M A (Builtin.Dict.quietEq (.ref a)) (fun b s'=>s'=s) E s:=by
 unfold Builtin.Dict.quietEq;exact At (wpAny_specialOf hT F.slot_tuple_eq.lookup (AC rfl))
theorem si (hdo:d≠o) (hoS:(o==sysModules)=false) (hd:au knd s.heap d [] 0) (ho:au knd s.heap o xs ep)
  (hk:∀x∈xs,s.TypeIs (.ref x.2.1) "tuple") (hh:(xs.map fun x=>knd.hash x.1).Nodup) (hsz:xs.length<=sizeLine)
  (hQ:∀h' ep',au knd h' d xs ep'->Heap.SameBut d s.heap h'->Q () {s with heap:=h'}):wpAny (model prog w) A (Builtin.Dict.mergeDict nm d o) Q E s:=by
 obtain ⟨od,ed,gd,cd,dd,ld,nd⟩:=id hd;obtain ⟨oo,eo,go,co,do',lo,no⟩:=id ho;have hed:ed=#[]:=by
  cases ed with
  |mk l=>cases (show l=[] from ld);rfl
 unfold Builtin.Dict.mergeDict;rw [if_neg (by simpa using hdo)];unfold Builtin.Dict.showsAll;rw [if_neg (by rw [hoS];exact EK)];refine At (AC (At (wpAny_dictEntries go do' ?_)));cases xs with
 |nil=>
  have heo:eo=#[]:=by
   cases eo with
   |mk l=>cases (show l=[] from lo);rfl
  subst heo;rw [if_neg (by simp)];refine At (wpAny_dictEpoch go do' (At (wpAny_dictEntries go do' (At ?_))));rw [Std.Legacy.Range.forIn_eq_forIn_range'];exact AC (AC (hQ s.heap 0 hd (Heap.SameBut.refl _ _)))
 |cons x xs=>
  have hfew:¬((!(decide (eo.size<=8)&&eo.all fun e=>(keyPart e.key).isSome))=false):=by
   have h1:(eo.all fun e=>(keyPart e.key).isSome)=false:=by
    rw [←Array.all_toList,lo,List.map_cons,List.all_cons];rfl
   rw [h1,Bool.and_false];decide
  have hfew':(!(decide (eo.size<=8)&&eo.all fun e=>(keyPart e.key).isSome))=true:=by
   cases h:(!(decide (eo.size<=8)&&eo.all fun e=>(keyPart e.key).isSome)) with
   |true=>rfl
   |false=>exact absurd h hfew
  rw [if_pos hfew'];refine At (wpAny_dictEntries gd dd ?_);subst hed;rw [if_pos (by rfl)];have hn:(eo.toList.map (·.hash)).Nodup:=by rw [lo,List.map_map];exact hh
  refine At (pL go do' hn (fun e he=>?_) ?_)
  ·have:e∈(x::xs).map (entryOfKey knd):=lo▸Array.mem_toList_iff.mpr he;obtain ⟨y,hy,rfl⟩:=Es.mp this;exact sV (hk y hy)
  have hne:(!eo.isEmpty)=true:=by
   cases eo with
   |mk l=>cases (show l=_ from lo);rfl
  rw [if_pos hne];have hz:eo.size=(x::xs).length:=size_of_entries lo;refine At (wpAny_updateDictKeysTo gd dd (AC (hQ _ _ ⟨_,_,Heap.get?_update_self _ gd (Obj.isFreed_of_dict (Obj.data_mapDictKeys dd _)),cd.mapDictKeys _,Obj.data_mapDictKeys dd _,lo,no⟩ (Heap.SameBut.update ..))) (by rw [hz];omega))
theorem rG (hoS:(o==sysModules)=false) (ho:au knd s.heap o xs ep) (hk:∀x∈xs,s.TypeIs (.ref x.2.1) "tuple") (hh:(xs.map fun x=>knd.hash x.1).Nodup)
  (hsz:xs.length<=sizeLine) (h:∀h' ep',au knd h' s.heap.objs.size xs ep'->Heap.SameBut s.heap.objs.size (s.heap.push {cls:=.type "dict",data:=.dict #[]}) h'->Q (.ref s.heap.objs.size) {s with heap:=h'}):
  wpAny (model prog w) A (call (.type "dict") [.ref o]) Q E s:=by
 refine callType_codes (Q₁:=fun ob s₁=>ob=.ref s.heap.objs.size∧s₁={s with heap:=s.heap.push {cls:=.type "dict",data:=.dict #[]}}) F.kt_called_dict (F.kt_typeCall_dict_1 _) F.entry_dict_init (kt_code_dict_new _ ⟨rfl,rfl⟩) ?_;rintro ob s₁ ⟨rfl,rfl⟩;have nw:au knd (s.heap.push {cls:=.type "dict",data:=.dict #[]}) s.heap.objs.size [] 0:=au.new s.heap;have ho':au knd (s.heap.push {cls:=.type "dict",data:=.dict #[]}) o xs ep:=ho.keep fun ob g=>BT _ g;have hdo:s.heap.objs.size≠o:=by
  obtain ⟨_,_,hg,_⟩:=ho;exact fun e=>absurd (Cl hg) (by rw [e];exact Nat.lt_irrefl _)
 have hT:({s with heap:=s.heap.push {cls:=.type "dict",data:=.dict #[]}}:Shared).TypeIs (.ref s.heap.objs.size) "dict":=nw.typeIs;have hTo:({s with heap:=s.heap.push {cls:=.type "dict",data:=.dict #[]}}:Shared).TypeIs (.ref o) "dict":=ho'.typeIs;refine ⟨hT,F.args_dict_init_2 _ _,?_⟩;unfold Builtin.«dict.__init__»;refine At ?_;unfold Builtin.Dict.selfAndRest;refine At (wpAny_notOrdered_dict hT ?_);show wpAny _ _ (pure (s.heap.objs.size,[Value.ref o])) _ _ _;refine AC ?_;show wpAny _ _ (Builtin.Dict.updateFrom "dict.__init__" s.heap.objs.size (.ref o) [] .none) _ _ _;unfold Builtin.Dict.updateFrom;refine At (wpAny_typeOf hTo ?_);rw [if_neg (by decide)];refine At ?_;unfold Builtin.Dict.merge;refine At ?_;unfold Builtin.Dict.readDirectly;refine At (wpAny_isInstance hTo isSubtype_dict_dict ?_);simp only [Bool.not_true,Bool.false_eq_true,if_false];refine At (wpAny_specialOf hTo F.slot_dict_iter.lookup (AC ?_));simp only [beq_self_eq_true,if_true];refine At (AC ?_);refine si hdo hoS nw ho' (fun x hx=>?_) hh hsz fun h' ep' hd' hs'=>?_
 ·obtain ⟨ob,g,c⟩:=hk x hx;exact ⟨ob,BT _ g,c⟩
 ·show wpAny _ _ (Builtin.Dict.addKeywords s.heap.objs.size []>>=_) _ _ _;exact At (AC (AC ⟨rfl,h h' ep' hd' hs'⟩))
end
set_option autoImplicit true
set_option relaxedAutoImplicit true
section
variable {prog:Program} {w:World} {E:Value->Shared->Prop} {K:Type} [DecidableEq K] {knd:HeapKind prog w K} {A:Around} {s:Shared}
theorem pX (hd:(d==sysModules)=false) (hm:au knd s.heap d xs ep)
  (hQ:Q (.ref s.heap.objs.size) {s with heap:=s.heap.push {cls:=.type "dict_keyiterator",data:=.fields #[.ref d,.int 0 0,.int xs.length 0,.int ep 0]}}):wpAny (model prog w) A (pyIter (.ref d)) Q E s:=by
 have T:=hm.typeIs;obtain ⟨o,es,g,c,hda,l,n⟩:=hm;have hz:es.size=xs.length:=size_of_entries l;refine wpAny_pyIter_slot T F.slot_dict_iter (wpAny_call_entry F.slot_dict_iter T F.entry_dict_iter ?_ (F.args_dict_iter_1 _));unfold Builtin.«dict.__iter__»;refine At ?_;unfold Builtin.Dict.dictSlotNone;refine At (wpAny_notOrdered_dict T ?_);show wpAny _ _ (pure (Value.ref d)) _ _ s;refine AC ?_;show wpAny _ _ (Builtin.Dict.showsAll d>>=_) _ _ s;unfold Builtin.Dict.showsAll;rw [if_neg (by rw [hd];exact EK)];refine At (AC (At (wpAny_dictEntries g hda (At (wpAny_dictEpoch g hda ?_)))));refine At (wpAny_newObj_type (AC ⟨_,rfl,"dict_keyiterator",_,⟨_,Ch _ rfl,rfl⟩,F.slot_dict_keyiterator_next.lookup,?_⟩));simpa [rawInt,hz] using hQ
theorem qj (hit:s.heap.IsKeyIter it d i xs.length ep) (hm:au knd s.heap d xs ep) (hx:xs[i]?=some x)
  (hQ:∀h',h'.IsKeyIter it d (i+1) xs.length ep->Heap.SameBut it s.heap h'->Q (some (.ref x.2.1)) {s with heap:=h'}):wpAny (model prog w) A (pyNext (.ref it)) Q E s:=by
 have T:=hit.typeIs;obtain ⟨o,ho,hc,hd⟩:=hit;obtain ⟨od,es,g,c,hda,l,n⟩:=hm;have hz:es.size=xs.length:=size_of_entries l;have hn:¬((Value.ref d==Value.none)=true):=EK;have hown:Builtin.Dict_items.ownsTuple "dict_keyiterator"=false:=by decide
 have hlt:i<es.size:=by
  rw [hz];rcases Nat.lt_or_ge i xs.length with h|h
  ·exact h
  ·rw [List.getElem?_eq_none h] at hx;cases hx
 have hk:es[i].key=.ref x.2.1:=by
  have e:=entry_at (knd:=knd) l i;rw [hx,Array.getElem?_eq_getElem hlt] at e;have e':=EL e;rw [e'];rfl
 unfold pyNext;refine At (wpAny_attempt (wpAny_callSpecial?_slot (name:=Str.ofString "__next__") T F.slot_dict_keyiterator_next (wpAny_call_entry F.slot_dict_keyiterator_next T F.entry_dict_keyiterator_next ?_ (F.args_dict_keyiterator_next_1 _))));refine At (AC (At (At ?_)))
 first|refine At (wpAny_typeNameOfWhole_keyiter T (AC ?_))|refine At (wpAny_typeNameOf_keyiter T (AC ?_))
 refine At (wpAny_fieldsOf ho hd ?_);simp only [hown,Bool.false_eq_true,if_false];show wpAny _ _ (if (Value.ref d==Value.none)=true then _ else _) _ _ s;rw [if_neg hn];refine At (AC (At (wpAny_dictEntries g hda ?_)));rw [if_neg (by rw [hz];simp)];refine At (AC (At (wpAny_dictEpoch g hda ?_)));rw [if_neg (by simp)];refine AC ?_;simp only [show ¬((i:Int)<0) from by omega,if_false,Int.toNat_natCast,Array.getElem?_eq_getElem hlt];refine At ?_
 first|refine At (wpAny_typeNameOfWhole_keyiter T (AC ?_))|refine At (wpAny_typeNameOf_keyiter T (AC ?_))
 refine At (wpAny_isOneOf_keyiter T ?_);show wpAny _ _ (setField (.ref it) 1 (rawInt ((i:Int)+1))>>=_) _ _ s;refine At (wpAny_setField ho hd (by simp) ?_);have hi2:(s.heap.update it (Obj.mapFields (·.setIfInBounds 1 (rawInt ((i:Int)+1))))).IsKeyIter it d (i+1) xs.length ep:=⟨_,Heap.get?_update_self _ ho (Obj.isFreed_of_fields (Obj.data_mapFields hd _)),(Obj.cls_mapFields ..).trans hc,by rw [Obj.data_mapFields hd];simp [rawInt]⟩
 refine At (Da (At (wpAny_isOneOf_keyiter (s:={s with heap:=s.heap.update it (Obj.mapFields (·.setIfInBounds 1 (rawInt ((i:Int)+1))))}) hi2.typeIs ?_)));show wpAny _ _ (pure es[i].key) _ _ _;rw [hk];exact AC (AC ⟨_,rfl,AC (hQ _ hi2 (Heap.SameBut.update ..))⟩)
theorem rM (hh:A.handled=none) (hit:s.heap.IsKeyIter it d i xs.length ep) (hm:au knd s.heap d xs ep) (hx:xs[i]?=none)
  (hQ:∀h',Heap.ExtBut it s.heap h'->Q none {s with heap:=h'}):wpAny (model prog w) A (pyNext (.ref it)) Q E s:=by
 have T:=hit.typeIs;obtain ⟨o,ho,hc,hd⟩:=hit;obtain ⟨od,es,g,c,hda,l,n⟩:=hm;have hz:es.size=xs.length:=size_of_entries l;have hn:¬((Value.ref d==Value.none)=true):=EK;have hown:Builtin.Dict_items.ownsTuple "dict_keyiterator"=false:=by decide
 have hge:es.size<=i:=by rw [hz];exact List.getElem?_eq_none_iff.mp hx
 unfold pyNext;refine At (wpAny_attempt (wpAny_callSpecial?_slot (name:=Str.ofString "__next__") T F.slot_dict_keyiterator_next (wpAny_call_entry F.slot_dict_keyiterator_next T F.entry_dict_keyiterator_next ?_ (F.args_dict_keyiterator_next_1 _))));refine At (AC (At (At ?_)))
 first|refine At (wpAny_typeNameOfWhole_keyiter T (AC ?_))|refine At (wpAny_typeNameOf_keyiter T (AC ?_))
 refine At (wpAny_fieldsOf ho hd ?_);simp only [hown,Bool.false_eq_true,if_false];show wpAny _ _ (if (Value.ref d==Value.none)=true then _ else _) _ _ s;rw [if_neg hn];refine At (AC (At (wpAny_dictEntries g hda ?_)));rw [if_neg (by rw [hz];simp)];refine At (AC (At (wpAny_dictEpoch g hda ?_)));rw [if_neg (by simp)];refine AC ?_;simp only [show ¬((i:Int)<0) from by omega,if_false,Int.toNat_natCast,Array.getElem?_eq_none hge];refine At ?_
 first|refine At (wpAny_typeNameOfWhole_keyiter T (AC ?_))|refine At (wpAny_typeNameOf_keyiter T (AC ?_))
 show wpAny _ _ (setField (.ref it) 0 .none>>=_) _ _ s;refine At (wpAny_setField ho hd (by simp) ?_);show wpAny _ _ (newExc (.type "StopIteration") []>>=_) _ _ _;refine At ?_;simp only [newExc,newTuple];refine At (wpAny_newObj_type ?_ (by size_fits));refine At (m:=firstArgMember _ _) (wpAny_of_eq (a:=Value.none) (by first|rfl|(simp only [firstArgMember];rfl)) (wpAny_newObj_type ?_ (by size_fits)));simp only [raiseNew];refine At (wpAny_handled ?_);rw [show A.in1.handled=none from hh];refine At (AC (wpAny_throw ?_));refine At (wpAny_isInstance (b:=true) (T:="StopIteration") (by exact ⟨_,Ch _ rfl,rfl⟩) isSubtype_stop ?_);exact AC (hQ _ (((Heap.SameBut.update ..).extBut.push _).push _))
end
set_option autoImplicit true
set_option relaxedAutoImplicit true
noncomputable def Sit (h:Heap) (b:Bool) (i a:Addr) (k:Nat):Prop:=match b with|true=>h.IsTupleIter i a k|false=>h.IsListIter i a k
noncomputable def Ssq (h:Heap) (b:Bool) (a:Addr) (xs:Array Value):Prop:=match b with|true=>h.IsTuple a xs|false=>h.IsList a xs
theorem Sit.at (x:Sit h b i a k) (e:∀o,h.get? i=some o->h'.get? i=some o):Sit h' b i a k:=by
 cases b with
 |true=>obtain ⟨o,ho,r⟩:=x;exact ⟨o,e o ho,r⟩
 |false=>exact Heap.IsListIter.at x e
theorem Ssq.at (x:Ssq h b a xs) (e:∀o,h.get? a=some o->h'.get? a=some o):Ssq h' b a xs:=by
 cases b with
 |true=>obtain ⟨o,ho,r⟩:=x;exact ⟨o,e o ho,r⟩
 |false=>exact Heap.IsList.at x e
theorem Sit.rec (x:Sit h b i a k):∃o n vs,h.get? i=some o∧o.cls=.type n∧o.data=.fields vs:=by
 cases b with
 |true=>obtain ⟨o,ho,c,d⟩:=x;exact ⟨o,_,_,ho,c,d⟩
 |false=>obtain ⟨o,ho,c,d⟩:=x;exact ⟨o,_,_,ho,c,d⟩
section
variable {prog:Program} {w:World} {A:Around} {E:Value->Shared->Prop} {s:Shared}
theorem iw {items} (hit:s.heap.IsTupleIter it t i) (ht:s.heap.IsTuple t items) (hx:items[i]?=some x)
  (hQ:∀h',h'.IsTupleIter it t (i+1)->Heap.SameBut it s.heap h'->Q x {s with heap:=h'}):wpAny (model prog w) A (Builtin.SmallTypes.nextOf (.ref it)) Q E s:=by
 obtain ⟨o,ho,hc,hd⟩:=id hit;obtain ⟨ol,hol,_,nl,hdl⟩:=ht;unfold Builtin.SmallTypes.nextOf;refine At (wpAny_callSpecial?_slot (name:=Str.ofString "__next__") hit.typeIs F.slot_tuple_iterator_next
  (wpAny_call_entry F.slot_tuple_iterator_next hit.typeIs F.entry_tuple_iterator_next ?_ (F.args_tuple_iterator_next_1 _)))
 show wpAny _ _ (field (.ref it) 0>>=_) _ _ s;refine At (wpAny_field ho hd (x:=.ref t) rfl ?_);show wpAny _ _ (if (Value.ref t==Value.none)=true then _ else _) _ _ s;rw [if_neg (show ¬((Value.ref t==Value.none)=true) from EK)];show wpAny _ _ (field (.ref it) 1>>=_) _ _ s;refine At (wpAny_field ho hd (x:=.int i 0) rfl ?_);show wpAny _ _ (seqItems? (.ref t)>>=_) _ _ s;refine At (wpAny_seqItems hol hdl ?_);simp only [Int.toNat_natCast,hx];refine At (wpAny_setField ho hd (by simp) (AC ⟨x,rfl,AC (hQ _ ?_ (Heap.SameBut.update ..))⟩));exact ⟨_,Heap.get?_update_self _ ho (Obj.isFreed_of_fields (Obj.data_mapFields hd _)),(Obj.cls_mapFields ..).trans hc,by
  rw [Obj.data_mapFields hd];simp [rawInt]⟩
theorem iU {items} (hh:A.handled=none) (hit:s.heap.IsTupleIter it t i) (ht:s.heap.IsTuple t items) (hx:items[i]?=none)
  (hE:∀h' e,Heap.ExtBut it s.heap h'->(∃o,h'.get? e=some o∧o.cls=.type "StopIteration")->E (.ref e) {s with heap:=h'}):
  wpAny (model prog w) A (Builtin.SmallTypes.nextOf (.ref it)) Q E s:=by
 obtain ⟨o,ho,hc,hd⟩:=id hit;obtain ⟨ol,hol,_,nl,hdl⟩:=ht;unfold Builtin.SmallTypes.nextOf;refine At (wpAny_callSpecial?_slot (name:=Str.ofString "__next__") hit.typeIs F.slot_tuple_iterator_next
  (wpAny_call_entry F.slot_tuple_iterator_next hit.typeIs F.entry_tuple_iterator_next ?_ (F.args_tuple_iterator_next_1 _)))
 show wpAny _ _ (field (.ref it) 0>>=_) _ _ s;refine At (wpAny_field ho hd (x:=.ref t) rfl ?_);show wpAny _ _ (if (Value.ref t==Value.none)=true then _ else _) _ _ s;rw [if_neg (show ¬((Value.ref t==Value.none)=true) from EK)];show wpAny _ _ (field (.ref it) 1>>=_) _ _ s;refine At (wpAny_field ho hd (x:=.int i 0) rfl ?_);show wpAny _ _ (seqItems? (.ref t)>>=_) _ _ s;refine At (wpAny_seqItems hol hdl ?_);simp only [Int.toNat_natCast,hx];refine At (wpAny_rule (At (wpAny_setField ho hd (by simp) ?_)));show wpAny _ _ (newExc (.type "StopIteration") []>>=_) _ _ _;refine At ?_;simp only [newExc,newTuple];refine At (wpAny_newObj_type ?_ (by size_fits));refine At (m:=firstArgMember _ _) (wpAny_of_eq (a:=Value.none) (by first|rfl|(simp only [firstArgMember];rfl)) ?_);refine wpAny_newObj_type ?_ (by size_fits);simp only [raiseNew];refine At (wpAny_handled ?_)
 first|rw [show A.in1.handled=none from hh]|rw [hh]
 refine At (AC (wpAny_throw ?_));exact hE _ _ (((Heap.SameBut.update ..).extBut.push _).push _) ⟨_,Ch _ rfl,rfl⟩
theorem jA (hit:Sit s.heap b it a i) (hl:Ssq s.heap b a items) (hx:items[i]?=some x)
  (hQ:∀h',Sit h' b it a (i+1)->Heap.SameBut it s.heap h'->Q x {s with heap:=h'}):wpAny (model prog w) A (Builtin.SmallTypes.nextOf (.ref it)) Q E s:=by
 cases b with
 |true=>exact iw hit hl hx hQ
 |false=>exact wpAny_nextOf_list_item hit hl hx hQ
theorem gV (hh:A.handled=none) (hit:Sit s.heap b it a i) (hl:Ssq s.heap b a items) (hx:items[i]?=none)
  (hE:∀h' e,Heap.ExtBut it s.heap h'->(∃o,h'.get? e=some o∧o.cls=.type "StopIteration")->E (.ref e) {s with heap:=h'}):wpAny (model prog w) A (Builtin.SmallTypes.nextOf (.ref it)) Q E s:=by
 cases b with
 |true=>exact iU hh hit hl hx hE
 |false=>exact wpAny_nextOf_list_end hh hit hl hx hE
noncomputable abbrev aK (h:Heap) (T:Addr) (vs:Array Value):Prop:=h.get? T=some {cls:=.type "tuple",data:=.seq vs}
theorem sZ:8<=sizeLine:=by rw [sizeLine_eq];decide
theorem lE (hT:aK s.heap T vs) (hv:vs.size<=8)
  (h:∀h',aK h' T (vs.setIfInBounds k x)->Heap.SameBut T s.heap h'->Q () {s with heap:=h'}):wpAny (model prog w) A (updateSeq T (·.setIfInBounds k x)) Q E s:=by
 have h8:=sZ;refine wpAny_updateSeq hT rfl (h _ ?_ (Heap.SameBut.update ..)) (hz:=by omega) (_hz':=by simp;omega);show Heap.get? _ _=_;rw [Heap.get?_update_self _ hT rfl];simp [Obj.mapSeq]
structure Zc where
 b:Bool
 i:Addr
 a:Addr
noncomputable abbrev zI (cs:List Zc):List Addr:=cs.map (·.i)
theorem take_set {ts:Array Value} {n:Nat} {x:Value} (h:n<ts.size):(ts.setIfInBounds n x).toList.take (n+1)=ts.toList.take n++[x]:=by
 have h':n<ts.toList.length:=by rw [Array.length_toList];exact h
 rw [Array.toList_setIfInBounds,List.take_add_one,Ew h',List.take_set_of_le (EG n)];rfl
theorem BS {z TI TO:Addr} {cs:List Zc} {F:Zc->Array Value} {k:Nat} {ts:Array Value} {Q:Value->Shared->Prop} (hh:A.handled=none) (nd:(z::TI::TO::zI cs).Nodup) (na:∀c∈cs,c.a∉z::TO::zI cs) (hne:cs≠[]) (h8:cs.length<=8)
  (hz:IsZip s.heap z TI TO .none) (hTI:aK s.heap TI (cs.map fun c=>Value.ref c.i).toArray) (hTO:aK s.heap TO ts) (hts:ts.size=cs.length) (hit:∀c∈cs,Sit s.heap c.b c.i c.a k∧Ssq s.heap c.b c.a (F c))
  (hQ:∀(vs:List Value) h',cs.map (fun c=>(F c)[k]?)=vs.map some->IsZip h' z TI TO (rawInt s.heap.objs.size)->aK h' TO vs.toArray->(∀c∈cs,Sit h' c.b c.i c.a (k+1))->aK h' s.heap.objs.size vs.toArray->h'.objs.size=s.heap.objs.size+1->
   (∀c o,c∉z::TO::zI cs->s.heap.get? c=some o->h'.get? c=some o)->Q (.ref s.heap.objs.size) {s with heap:=h'})
  (hE:∀h' e,(∃c∈cs,(F c)[k]?=none)->(∀c o,c∉z::TO::zI cs->s.heap.get? c=some o->h'.get? c=some o)->(∃o,h'.get? e=some o∧o.cls=.type "StopIteration")->E (.ref e) {s with heap:=h'}):
  wpAny (model prog w) A (Builtin.«zip.__next__» ⟨[.ref z],[]⟩) (fun fin s'=>∃v,fin=.done (.ret v)∧Q v s') E s:=by
 obtain ⟨nz,_,nT,ni⟩:z∉TI::TO::zI cs∧TI∉TO::zI cs∧TO∉zI cs∧(zI cs).Nodup:=by simpa only [List.nodup_cons] using nd
 have zTO:z≠TO:=fun e=>nz (by simp [e]);have zi:∀c∈cs,c.i≠z:=fun c hc e=>nz (En _ (En _ (e▸List.mem_map_of_mem hc)));have Ti:∀c∈cs,c.i≠TO:=fun c hc e=>nT (e▸List.mem_map_of_mem hc);have az:∀c∈cs,c.a≠z:=fun c hc e=>na c hc (by simp [e]);have aT:∀c∈cs,c.a≠TO:=fun c hc e=>na c hc (by simp [e]);have ai:∀c∈cs,∀d∈cs,c.a≠d.i:=fun c hc d hd e=>na c hc (En _ (En _ (e▸List.mem_map_of_mem hd)));show wpAny _ _ (field (.ref z) 2>>=_) _ _ _;refine At (wpAny_field hz rfl (x:=.bool false) rfl ?_);show wpAny _ _ (field (.ref z) 3>>=_) _ _ _;refine At (wpAny_field hz rfl (x:=.ref TI) rfl ?_);refine At (wpAny_seqItems hTI rfl ?_);have he:(cs.map fun c=>Value.ref c.i).toArray.isEmpty=false:=by cases cs with|nil=>exact absurd rfl hne|cons=>rfl
 simp only [he,Bool.false_eq_true,if_false];show wpAny _ _ (Builtin.SmallTypes.ownedTupleIsFree (.ref z)>>=_) _ _ _;refine At ?_;unfold Builtin.SmallTypes.ownedTupleIsFree;refine At (wpAny_field hz rfl (x:=.none) rfl (AC ?_));simp only [if_true];refine At (wpAny_rule ?_);refine At (wpAny_field hz rfl (x:=.ref TO) rfl ?_);refine At (wpAny_setField_rec hz (by simp) fun h1 hz1 hs1=>?_);replace hz1:IsZip h1 z TI TO .ellipsis:=hz1;refine At ?_;refine wpAny_forIn_list _ (fun rest q s'=>q=(none,())∧∃(d e:List Zc) (vs:List Value) (h':Heap) (ts':Array Value),cs=d++e∧rest=(e.map fun c=>Value.ref c.i).zipIdx d.length∧s'={s with heap:=h'}∧d.map (fun c=>(F c)[k]?)=vs.map some∧IsZip h' z TI TO .ellipsis∧aK h' TO ts'∧ts'.size=cs.length∧ts'.toList.take d.length=vs
   ∧(∀c∈d,Sit h' c.b c.i c.a (k+1))∧(∀c∈e,Sit h' c.b c.i c.a k)∧(∀c∈cs,Ssq h' c.b c.a (F c))∧h'.objs.size=s.heap.objs.size∧∀c o,c∉z::TO::zI cs->s.heap.get? c=some o->h'.get? c=some o) _ ?_ ?_ _ _
  ⟨rfl,[],cs,[],h1,ts,rfl,rfl,rfl,rfl,hz1,hs1.extBut _ _ (Ne.symm zTO) hTO,hts,rfl,(fun c hc=>nomatch hc),(fun c hc=>(hit c hc).1.at fun o e=>hs1.extBut _ _ (zi c hc) e),(fun c hc=>(hit c hc).2.at fun o e=>hs1.extBut _ _ (az c hc) e),hs1.1,fun c o hc e=>hs1.extBut _ _ (fun q=>hc (by simp [q])) e⟩
 ·rintro x rest q s' ⟨rfl,d,e,vs,h2,ts',ec,er,rfl,ev,hz2,hT2,hs2,ht2,hd2,he2,hq2,hn2,hk2⟩;cases e with
  |nil=>cases er
  |cons c e=>
   rw [List.map_cons,List.zipIdx_cons] at er;cases er;have hc:c∈cs:=by rw [ec];simp
   have hde:∀c',c'∈d∨c'∈e->c'∈cs∧c'.i≠c.i:=fun c' h=>by
    rw [ec,zI,List.map_append,List.map_cons] at ni;obtain ⟨_,n2,n3⟩:=List.nodup_append.mp ni;rcases h with h|h
    ·exact ⟨by rw [ec];simp [h],fun z=>n3 _ (List.mem_map_of_mem h) _ Eo z⟩
    ·exact ⟨by rw [ec];simp [h],fun z=>(List.nodup_cons.mp n2).1 (z▸List.mem_map_of_mem h)⟩
   refine At (wpAny_onRaise ?_);show wpAny _ _ (Builtin.SmallTypes.nextOf (.ref c.i)>>=_) _ _ _;have hi:=he2 c Eo;have kc:∀{p:Addr},p∉z::TO::zI cs->p≠z∧p≠TO∧p≠c.i:=fun hp=>⟨fun q=>hp (by simp [q]),fun q=>hp (by simp [q]),fun q=>hp (En _ (En _ (q▸List.mem_map_of_mem hc)))⟩
   cases hx:(F c)[k]? with
   |none=>
    refine At (gV hh hi (hq2 c hc) hx fun h3 e3 hs3 ho=>?_);obtain ⟨oe,hoe,hce⟩:=ho;have hz3:IsZip h3 z TI TO .ellipsis:=hs3 _ _ (Ne.symm (zi c hc)) hz2;have hez:e3≠z:=fun x=>by subst x;rw [hz3] at hoe;cases hoe;simp at hce
    exact wpAny_setField_rec hz3 (by simp) fun h4 _ hs4=>hE h4 e3 ⟨c,hc,hx⟩ (fun p o hp q=>hs4.extBut _ _ (kc hp).1 (hs3 _ _ (kc hp).2.2 (hk2 p o hp q))) ⟨oe,hs4.extBut _ _ hez hoe,hce⟩
   |some x=>
    refine At (jA hi (hq2 c hc) hx fun h3 hi3 hs3=>AC ?_);have hT3:aK h3 TO ts':=hs3.extBut _ _ (Ne.symm (Ti c hc)) hT2;refine At (wpAny_seqItems hT3 rfl ?_);refine At (lE hT3 (by omega) fun h4 hT4 hs4=>?_);refine At (wpAny_letGo (AC ?_));have st:∀c'∈cs,c'.i≠c.i->∀o,h2.get? c'.i=some o->h4.get? c'.i=some o:=fun c' h n o q=>hs4.extBut _ _ (Ti c' h) (hs3.extBut _ _ n q);have hl:d.length<cs.length:=by rw [ec];simp
    refine ⟨rfl,d++[c],e,vs++[x],h4,_,by rw [ec];simp,by simp,rfl,by rw [List.map_append,List.map_append,ev,List.map_singleton,hx];rfl,hs4.extBut _ _ zTO (hs3.extBut _ _ (Ne.symm (zi c hc)) hz2),hT4,by simp [hs2],?_,?_,?_,?_,by rw [hs4.1,hs3.1];exact hn2,fun p o hp q=>hs4.extBut _ _ (kc hp).2.1 (hs3.extBut _ _ (kc hp).2.2 (hk2 p o hp q))⟩
    ·rw [Ey,List.length_singleton,take_set (by omega),ht2]
    ·intro c' h;rcases Ep.mp h with h|h
     ·exact (hd2 c' h).at fun o q=>st c' (hde c' (.inl h)).1 (hde c' (.inl h)).2 o q
     ·cases Et.mp h;exact hi3.at fun o q=>hs4.extBut _ _ (Ti c hc) q
    ·exact fun c' h=>(he2 c' (En _ h)).at fun o q=>st c' (hde c' (.inr h)).1 (hde c' (.inr h)).2 o q
    ·exact fun c' h=>(hq2 c' h).at fun o q=>hs4.extBut _ _ (aT c' h) (hs3.extBut _ _ (ai c' h c hc) q)
 ·rintro q s' ⟨rfl,d,e,vs,h5,ts',ec,er,rfl,ev,hz5,hT5,hs5,ht5,hd5,_,_,hn5,hk5⟩;cases e with
  |cons c e=>rw [List.map_cons,List.zipIdx_cons] at er;cases er
  |nil=>
   rw [List.append_nil] at ec;subst ec;have et:ts'=vs.toArray:=by
    rw [←ht5,←hs5,←Array.length_toList,List.take_length]
   subst et;refine At (wpAny_seqItems hT5 rfl ?_);refine At (wpAny_newTuple ?_);have hzlt:z<h5.objs.size:=Cl hz5;show wpAny _ _ (Builtin.SmallTypes.ownedTupleHandOut (.ref z) (.ref h5.objs.size)>>=_) _ _ _;refine At ?_;unfold Builtin.SmallTypes.ownedTupleHandOut;have hz6:IsZip (h5.push {cls:=.type "tuple",data:=.seq vs.toArray}) z TI TO .ellipsis:=BT _ hz5;refine At (wpAny_setField_rec hz6 (by simp) fun h7 hz7 hs7=>?_);replace hz7:IsZip h7 z TI TO (rawInt h5.objs.size):=hz7;refine wpAny_setField_rec hz7 (by simp) fun h8' hz8 hs8=>?_;replace hz8:IsZip h8' z TI TO (rawInt h5.objs.size):=hz8;have up:∀c o,c≠z->h5.get? c=some o->h8'.get? c=some o:=fun c o c1 e=>hs8.extBut _ _ c1 (hs7.extBut _ _ c1 (BT _ e));have hT8:aK h8' h5.objs.size vs.toArray:=hs8.extBut _ _ (Nat.ne_of_gt hzlt) (hs7.extBut _ _ (Nat.ne_of_gt hzlt) (Ch _ rfl));have e8:h8'.objs.size=h5.objs.size+1:=by rw [hs8.1,hs7.1,Heap.size_push]
   rw [hn5] at hz8 hT8 e8;refine AC ⟨_,rfl,?_⟩;show Q (.ref h5.objs.size) _;rw [hn5];exact hQ vs h8' ev hz8 (up _ _ (Ne.symm zTO) hT5) (fun c hc=>(hd5 c hc).at fun o e=>up _ o (zi c hc) e) hT8 e8 fun c o hc e=>up c o (fun q=>hc (by simp [q])) (hk5 c o hc e)
theorem jG (hz:IsZip s.heap z TI TO f0)
  (h:wpAny (model prog w) A.in1 (Builtin.«zip.__next__» ⟨[.ref z],[]⟩) (fun fin s'=>∃v,fin=.done (.ret v)∧Q (some v) s') (fun e s'=>∃a o,e=.ref a∧s'.heap.get? a=some o∧o.cls=.type "StopIteration"∧Q none s') s):
  wpAny (model prog w) A (pyNext (.ref z)) Q E s:=by
 have hT:s.TypeIs (.ref z) "zip":=⟨_,hz,rfl⟩
 unfold pyNext;refine At (wpAny_attempt (wpAny_callSpecial?_slot (name:=Str.ofString "__next__") hT F.slot_zip_next
  (wpAny_call_entry F.slot_zip_next hT F.entry_zip_next (AT h (fun fin s' hv=>?_) fun e s' he=>?_) (F.args_zip_next_1 _))))
 ·obtain ⟨v,rfl,q⟩:=hv;exact ⟨v,rfl,AC q⟩
 ·obtain ⟨a,o,rfl,ho,hc,q⟩:=he;refine At (wpAny_isInstance (T:="StopIteration") (b:=true) ⟨o,ho,hc⟩ isSubtype_stop ?_);exact AC q
noncomputable def bp (b:Bool) (a:Addr):Obj:={cls:=.type (match b with|true=>"tuple_iterator"|false=>"list_iterator"),data:=.fields #[.ref a,.int 0 0]}
theorem cP (h:Ssq s.heap b a xs) (hQ:Q (.ref s.heap.objs.size) {s with heap:=s.heap.push (bp b a)}):wpAny (model prog w) A (pyIter (.ref a)) Q E s:=by
 cases b with
 |true=>exact wpAny_pyIter_tuple h hQ
 |false=>exact wpAny_pyIter_list h hQ
theorem Sit.new {h:Heap} (b:Bool) (a:Addr):Sit (h.push (bp b a)) b h.objs.size a 0:=by
 cases b with
 |true=>exact ⟨_,Ch _ rfl,rfl,rfl⟩
 |false=>exact ⟨_,Ch _ rfl,rfl,rfl⟩
end
theorem qh (b1 b2:Bool) (a1 a2:Addr) (xs ys:Array Value):
  Meets (Builtin.«zip.__new__» ⟨[.type "zip",.ref a1,.ref a2],[]⟩) (fun _ R s=>Ssq s.heap b1 a1 xs∧Ssq s.heap b2 a2 ys∧
   ∀h',aK h' (s.heap.objs.size+2) #[.ref s.heap.objs.size,.ref (s.heap.objs.size+1)]->aK h' (s.heap.objs.size+3) #[.none,.none]->IsZip h' (s.heap.objs.size+4) (s.heap.objs.size+2) (s.heap.objs.size+3) .none->
    Sit h' b1 s.heap.objs.size a1 0->Sit h' b2 (s.heap.objs.size+1) a2 0->
    (∀c o,s.heap.get? c=some o->h'.get? c=some o)->h'.objs.size=s.heap.objs.size+5->R (.ok (.ret (.ref (s.heap.objs.size+4)))) {s with heap:=h'}):=
 .of_wp fun prog w A R s h=>by
  obtain ⟨hp,g,d,tk,os⟩:=s;obtain ⟨hl1,hl2,h⟩:=h;have hsub:=sub_zip;have hL1:Ssq (Shared.heap ⟨hp,g,d,tk,os⟩) b1 a1 xs:=hl1;have hL2:Ssq (Shared.heap ⟨hp.push (bp b1 a1),g,d,tk,os⟩) b2 a2 ys:=Ssq.at (h':=hp.push (bp b1 a1)) hl2 fun o e=>BT _ e
  wp_walk using cP hL1,cP hL2
  refine ⟨_,rfl,?_⟩;dsimp only at h ⊢;generalize e1:hp.push (bp b1 a1)=h1;generalize e2:h1.push (bp b2 a2)=h2;generalize e3:h2.push _=h3;generalize e4:h3.push _=h4;generalize e5:h4.push _=h5;have z1:h1.objs.size=hp.objs.size+1:=e1▸Heap.size_push ..;have z2:h2.objs.size=hp.objs.size+2:=by rw [←e2,Heap.size_push,z1]
  have z3:h3.objs.size=hp.objs.size+3:=by rw [←e3,Heap.size_push,z2]
  have z4:h4.objs.size=hp.objs.size+4:=by rw [←e4,Heap.size_push,z3]
  have z5:h5.objs.size=hp.objs.size+5:=by rw [←e5,Heap.size_push,z4]
  have k5:∀c o,h4.get? c=some o->h5.get? c=some o:=fun c o e=>e5▸BT _ e;have k4:∀c o,h3.get? c=some o->h5.get? c=some o:=fun c o e=>k5 c o (e4▸BT _ e);have k3:∀c o,h2.get? c=some o->h5.get? c=some o:=fun c o e=>k4 c o (e3▸BT _ e);have k2:∀c o,h1.get? c=some o->h5.get? c=some o:=fun c o e=>k3 c o (e2▸BT _ e);have g3:=Ch h2 (o:={cls:=.type "tuple",data:=.seq #[.ref hp.objs.size,.ref h1.objs.size]}) rfl;have g4:=Ch h3 (o:={cls:=.type "tuple",data:=.seq #[.none,.none]}) rfl;have g5:=Ch h4 (o:={cls:=.type "zip",data:=.fields #[.none,.bool false,.bool false,.ref h2.objs.size,.ref h3.objs.size]}) rfl;have q3:h3.get? h2.objs.size=_:=(congrArg (fun h=>h.get? h2.objs.size) e3).symm.trans g3;have q4:h4.get? h3.objs.size=_:=(congrArg (fun h=>h.get? h3.objs.size) e4).symm.trans g4;have q5:h5.get? h4.objs.size=_:=(congrArg (fun h=>h.get? h4.objs.size) e5).symm.trans g5;rw [z1,z2] at q3;rw [z3] at q4;rw [z2,z3,z4] at q5;rw [z4];refine h h5 (k4 _ _ q3) (k5 _ _ q4) q5 (Sit.at (Sit.new (h:=hp) b1 a1) fun o e=>k2 _ _ (e1▸e)) ?_ (fun c o e=>k2 _ _ (e1▸BT _ e)) z5;rw [←z1];exact Sit.at (Sit.new (h:=h1) b2 a2) fun o e=>k3 _ _ (e2▸e)
theorem qi (b1 b2 b3:Bool) (a1 a2 a3:Addr) (xs ys us:Array Value):
  Meets (Builtin.«zip.__new__» ⟨[.type "zip",.ref a1,.ref a2,.ref a3],[]⟩) (fun _ R s=>Ssq s.heap b1 a1 xs∧Ssq s.heap b2 a2 ys∧Ssq s.heap b3 a3 us∧
   ∀h',aK h' (s.heap.objs.size+3) #[.ref s.heap.objs.size,.ref (s.heap.objs.size+1),.ref (s.heap.objs.size+2)]->aK h' (s.heap.objs.size+4) #[.none,.none,.none]->
    IsZip h' (s.heap.objs.size+5) (s.heap.objs.size+3) (s.heap.objs.size+4) .none->
    Sit h' b1 s.heap.objs.size a1 0->Sit h' b2 (s.heap.objs.size+1) a2 0->Sit h' b3 (s.heap.objs.size+2) a3 0->
    (∀c o,s.heap.get? c=some o->h'.get? c=some o)->h'.objs.size=s.heap.objs.size+6->R (.ok (.ret (.ref (s.heap.objs.size+5)))) {s with heap:=h'}):=
 .of_wp fun prog w A R s h=>by
  obtain ⟨hp,g,d,tk,os⟩:=s;obtain ⟨hl1,hl2,hl3,h⟩:=h;have hsub:=sub_zip;have hL1:Ssq (Shared.heap ⟨hp,g,d,tk,os⟩) b1 a1 xs:=hl1;have hL2:Ssq (Shared.heap ⟨hp.push (bp b1 a1),g,d,tk,os⟩) b2 a2 ys:=Ssq.at (h':=hp.push (bp b1 a1)) hl2 fun o e=>BT _ e;have hL3:Ssq (Shared.heap ⟨(hp.push (bp b1 a1)).push (bp b2 a2),g,d,tk,os⟩) b3 a3 us:=Ssq.at (h':=(hp.push (bp b1 a1)).push (bp b2 a2)) hl3 fun o e=>BT _ (BT _ e)
  wp_walk using cP hL1,cP hL2,cP hL3
  refine ⟨_,rfl,?_⟩;dsimp only at h ⊢;generalize e1:hp.push (bp b1 a1)=h1;generalize e2:h1.push (bp b2 a2)=h2;generalize e2b:h2.push (bp b3 a3)=h2b;generalize e3:h2b.push _=h3;generalize e4:h3.push _=h4;generalize e5:h4.push _=h5;have z1:h1.objs.size=hp.objs.size+1:=e1▸Heap.size_push ..;have z2:h2.objs.size=hp.objs.size+2:=by rw [←e2,Heap.size_push,z1]
  have z2b:h2b.objs.size=hp.objs.size+3:=by rw [←e2b,Heap.size_push,z2]
  have z3:h3.objs.size=hp.objs.size+4:=by rw [←e3,Heap.size_push,z2b]
  have z4:h4.objs.size=hp.objs.size+5:=by rw [←e4,Heap.size_push,z3]
  have z5:h5.objs.size=hp.objs.size+6:=by rw [←e5,Heap.size_push,z4]
  have k5:∀c o,h4.get? c=some o->h5.get? c=some o:=fun c o e=>e5▸BT _ e;have k4:∀c o,h3.get? c=some o->h5.get? c=some o:=fun c o e=>k5 c o (e4▸BT _ e);have k3:∀c o,h2b.get? c=some o->h5.get? c=some o:=fun c o e=>k4 c o (e3▸BT _ e);have k2b:∀c o,h2.get? c=some o->h5.get? c=some o:=fun c o e=>k3 c o (e2b▸BT _ e);have k2:∀c o,h1.get? c=some o->h5.get? c=some o:=fun c o e=>k2b c o (e2▸BT _ e);have g3:=Ch h2b (o:={cls:=.type "tuple",data:=.seq #[.ref hp.objs.size,.ref h1.objs.size,.ref h2.objs.size]}) rfl;have g4:=Ch h3 (o:={cls:=.type "tuple",data:=.seq #[.none,.none,.none]}) rfl;have g5:=Ch h4 (o:={cls:=.type "zip",data:=.fields #[.none,.bool false,.bool false,.ref h2b.objs.size,.ref h3.objs.size]}) rfl;have q3:h3.get? h2b.objs.size=_:=(congrArg (fun h=>h.get? h2b.objs.size) e3).symm.trans g3;have q4:h4.get? h3.objs.size=_:=(congrArg (fun h=>h.get? h3.objs.size) e4).symm.trans g4;have q5:h5.get? h4.objs.size=_:=(congrArg (fun h=>h.get? h4.objs.size) e5).symm.trans g5;rw [z1,z2,z2b] at q3;rw [z3] at q4;rw [z2b,z3,z4] at q5;rw [z4];refine h h5 (k4 _ _ q3) (k5 _ _ q4) q5 (Sit.at (Sit.new (h:=hp) b1 a1) fun o e=>k2 _ _ (e1▸e)) ?_ ?_ (fun c o e=>k2 _ _ (e1▸BT _ e)) z5
  ·rw [←z1];exact Sit.at (Sit.new (h:=h1) b2 a2) fun o e=>k2b _ _ (e2▸e)
  ·rw [←z2];exact Sit.at (Sit.new (h:=h2) b3 a3) fun o e=>k3 _ _ (e2b▸e)
theorem kr (a b c:Value):checkTypeCall "zip" ⟨[a,b,c],[]⟩=pure ():=by kernel_rfl
theorem lC (a b c:Value):checkBuiltinCall "zip.__new__" ⟨[.type "zip",a,b,c],[]⟩=pure ():=by kernel_rfl
theorem gq (a b c d:Value):argsOk "object.__init__" ⟨[a,b,c,d],[]⟩:=by
 unfold argsOk;rw [signature?_of (id:="object.__init__") (n:=['_','_','t','i','n','i','_','_']) (o:=['t','c','e','j','b','o']) (by kernel_rfl) F.owner_object];kernel_rfl
section
variable {prog:Program} {w:World} {A:Around} {E:Value->Shared->Prop} {s:Shared}
theorem pG (hl1:Ssq s.heap b1 a1 xs) (hl2:Ssq s.heap b2 a2 ys)
  (h:∀h',aK h' (s.heap.objs.size+2) #[.ref s.heap.objs.size,.ref (s.heap.objs.size+1)]->aK h' (s.heap.objs.size+3) #[.none,.none]->IsZip h' (s.heap.objs.size+4) (s.heap.objs.size+2) (s.heap.objs.size+3) .none->
    Sit h' b1 s.heap.objs.size a1 0->Sit h' b2 (s.heap.objs.size+1) a2 0->
    (∀c o,s.heap.get? c=some o->h'.get? c=some o)->h'.objs.size=s.heap.objs.size+5->Q (.ref (s.heap.objs.size+4)) {s with heap:=h'}):
  wpAny (model prog w) A (call (.type "zip") [.ref a1,.ref a2]) Q E s:=by
 refine callType_new F.called_zip (by decide) (F.typeCall_zip_2 _ _) (F.newCall_zip_2 _ _) (fun obj=>F.args_object_init_3 obj _ _) F.entry_zip_new
  (qh b1 b2 a1 a2 xs ys) ⟨hl1,hl2,fun h' x1 x2 x3 x4 x5 x6 x7=>?_⟩
 exact ⟨⟨_,x3,rfl⟩,h h' x1 x2 x3 x4 x5 x6 x7⟩
theorem pH (hl1:Ssq s.heap b1 a1 xs) (hl2:Ssq s.heap b2 a2 ys) (hl3:Ssq s.heap b3 a3 us)
  (h:∀h',aK h' (s.heap.objs.size+3) #[.ref s.heap.objs.size,.ref (s.heap.objs.size+1),.ref (s.heap.objs.size+2)]->aK h' (s.heap.objs.size+4) #[.none,.none,.none]->
    IsZip h' (s.heap.objs.size+5) (s.heap.objs.size+3) (s.heap.objs.size+4) .none->
    Sit h' b1 s.heap.objs.size a1 0->Sit h' b2 (s.heap.objs.size+1) a2 0->Sit h' b3 (s.heap.objs.size+2) a3 0->
    (∀c o,s.heap.get? c=some o->h'.get? c=some o)->h'.objs.size=s.heap.objs.size+6->Q (.ref (s.heap.objs.size+5)) {s with heap:=h'}):
  wpAny (model prog w) A (call (.type "zip") [.ref a1,.ref a2,.ref a3]) Q E s:=by
 refine callType_new F.called_zip (by decide) (kr _ _ _) (lC _ _ _) (fun obj=>gq obj _ _ _) F.entry_zip_new
  (qi b1 b2 b3 a1 a2 a3 xs ys us) ⟨hl1,hl2,hl3,fun h' x1 x2 x3 x4 x5 x6 x7 x8=>?_⟩
 exact ⟨⟨_,x3,rfl⟩,h h' x1 x2 x3 x4 x5 x6 x7 x8⟩
end
end CT
set_option autoImplicit true
set_option relaxedAutoImplicit true
namespace CT
open PySem PySem.Spec L2
open PyProof.Rows hiding St
noncomputable def SqB (K:PySem.W.Frag) (H:Hp) (b:Bool) (a:Addr) (xs:List V):Prop:=match b with|true=>SqT K H a xs|false=>SqL K H a xs
section
variable {X:Cx} {pins:List (Addr×Obj)} {σ:St} {H:Hp} {s:Shared} {a:Addr} {xs ys:List V} {b:Bool}
theorem Inv.sqb (I:Inv X pins σ H s) (h:SqB X.K H b a xs):∃its:List Value,Vals xs its∧Ssq s.heap b a its.toArray∧xs.length<=sizeLine:=by
 cases b with
 |true=>obtain ⟨its,r,p,z⟩:=I.tuple h;exact ⟨its,r,p,z⟩
 |false=>obtain ⟨its,r,p,z⟩:=I.list h;exact ⟨its,r,p.isList,z⟩
theorem Inv.oZ (I:Inv X pins σ H s) (h:SqB X.K H b a xs) (h':SqB X.K H b a ys):xs=ys:=by
 cases b with
 |true=>exact I.lh h h'
 |false=>exact I.mO h h'
theorem Inv.lQ {c:Addr} (I:Inv X pins σ H s) (h:SqB X.K H b a xs) (f:bh X pins H c):a≠c:=by
 have fromK:∀o,X.K.lookup a=some o->a≠c:=fun o hk z=>by
  have e:=I.ok.mod.kin a o hk;rcases f.2.2.2.1 with q|q
  ·exact I.ok.iW a o e (z▸q)
  ·exact absurd (EC (Cl e) (EE I.ok.bsz (z▸q))) (Nat.lt_irrefl _)
 have fromR:∀u,Rd H a u->a≠c:=fun u h=>by
  rcases h with h|⟨_,h⟩<;>exact aM h f.1
 cases b with
 |true=>
  rcases h with h|⟨o,_,_,hk,_⟩
  ·exact fromR _ h
  ·exact fromK o hk
 |false=>
  rcases h with h|⟨o,_,_,hk,_⟩
  ·exact fromR _ h
  ·exact fromK o hk
theorem Inv.ir {h':Heap} {t':Nat} {ch:List Addr} (I:Inv X pins σ H s) (hf:∀b∈ch,bh X pins H b) (k:∀b o,b∉ch->s.heap.get? b=some o->h'.get? b=some o):Inv X pins σ H {s with heap:=h',toks:=t'}:=by
 have nit:∀b u,H b=some u->b∉ch:=fun b u e z=>by have:=(hf b z).1;rw [e] at this;cases this
 refine I.step (g':=s.gens) (d':=s.drawn) (ch:=ch) (fun b hb=>?_) (fun b o _ _ hc e _=>k b o hc e) (fun b o _ _ hc e _=>⟨o.slots,k b o hc e⟩) (fun _ _ _ _ n=>n)
  (fun b o hc e=>⟨o,k b o hc e⟩) (fun _ _ e=>e) (fun _ _ _ e=>e) (fun b ps e=>⟨#[],by rw [e];simp⟩) (fun m hm=>?_) (fun b u e=>?_) I.bare
 ·obtain ⟨f0,f1,f2,f3,f4,f5⟩:=hf b hb;exact ⟨f3,f1,f4,f5⟩
 ·obtain ⟨o,es,ep,ho,r⟩:=hm;exact ⟨o,es,ep,k _ o (fun z=>(hf _ z).2.1 rfl) ho,r⟩
 ·refine (I.hok b u e).hU (fun c v hc q=>k c v ?_ q) (fun _ q=>q) fun _ _ q=>q;rcases hc with z|z
  ·rw [z];exact nit b u e
  ·exact nit c _ z
theorem Inv.adopt {T:Addr} {o:HO} (I:Inv X pins σ H s) (f:bh X pins H T) (new:aU X.prog X.w (upd H T o) s.heap T o):Inv X pins σ (upd H T o) s:=by
 have neT:∀{b:Addr} {u:HO},H b=some u->b≠T:=fun e=>aM e f.1;have r:Inv X pins σ (upd H T o) {s with heap:=s.heap,gens:=s.gens,drawn:=s.drawn,toks:=s.toks}:=
  I.step (ch:=[T]) (fun b hb=>by
   have e:b=T:=by simpa using hb
   subst e;obtain ⟨f0,f1,f2,f3,f4,f5⟩:=f;exact ⟨f3,f1,f4,f5⟩) (fun b o _ _ _ e _=>e) (fun b o _ _ _ e _=>⟨o.slots,e⟩) (fun b o hc e n=>by rw [ao (fun z=>hc (by simp [z]))];exact n)
   (fun b o _ e=>⟨o,e⟩) (fun b xs e=>by rw [ao (neT e)];exact e) (fun b o u e=>by rw [ao (neT e)];exact e) (fun b ps e=>⟨#[],by rw [ao (neT e),e];simp⟩) (fun m hm=>hm) (fun b u e=>by
    by_cases hb:b=T
    ·subst hb;rw [aG] at e;cases e;exact new
    ·rw [ao hb] at e;exact (I.hok b u e).hU (fun _ _ _ q=>q) (fun c q=>by rw [ao (neT q)];exact q) fun c xs q=>by rw [ao (neT q)];exact q) I.bare
 exact r
end
theorem BQ {xs:List V} {its:List Value} {i:Nat} {x:V} (r:Vals xs its) (h:xs[i]?=some x):∃u,its.toArray[i]?=some u∧RelV x u:=by
 obtain ⟨u,h1,h2⟩:=r.get h;exact ⟨u,by simpa using h1,h2⟩
theorem BP {xs:List V} {its:List Value} {i:Nat} (r:Vals xs its) (h:xs.length<=i):its.toArray[i]?=none:=by
 have:=r.length;simp;omega
noncomputable def Itz (K:PySem.W.Frag) (bs:List (Bool×Addr)):It:=
 ⟨fun i H=>∀c∈bs,∃xs x,SqB K H c.1 c.2 xs∧xs[i]?=some x,
  fun i H v H'=>∃T ys,H T=none∧v=.ref T∧H'=upd H T (.tup ys)∧Paired (fun c y=>∀xs,SqB K H c.1 c.2 xs->xs[i]?=some y) bs ys,
  fun i H=>(∀c∈bs,∃xs,SqB K H c.1 c.2 xs)∧∃c∈bs,∃xs,SqB K H c.1 c.2 xs∧xs.length<=i⟩
noncomputable abbrev zB (cs:List Zc):List (Bool×Addr):=cs.map fun c=>(c.b,c.a)
theorem nJ:∀{cs:List Zc} {vs:List Value},cs.map F=vs.map some->(∀c∈cs,∀u,F c=some u->∃y,P (c.b,c.a) y∧RelV y u)->∃ys,Vals ys vs∧Paired P (zB cs) ys
 |[],[],_,_=>⟨[],.nil,.nil⟩
 |c::cs,v::vs,e,h=>by
  rw [List.map_cons,List.map_cons] at e;injection e with e1 e2;obtain ⟨y,hy,r⟩:=h c Eo v e1;obtain ⟨ys,h1,h2⟩:=nJ e2 fun c' hc=>h c' (En _ hc);exact ⟨y::ys,.cons r h1,.cons hy h2⟩
 |[],_::_,e,_=>nomatch e
 |_::_,[],e,_=>nomatch e
noncomputable def jt (h:Heap) (c:Zc):Array Value:=Classical.epsilon fun its=>Ssq h c.b c.a its
theorem Ssq.inj (x:Ssq h b a xs) (y:Ssq h b a ys):xs=ys:=by
 cases b with
 |true=>obtain ⟨o,h1,_,n,h2⟩:=x;obtain ⟨o',h1',_,n',h2'⟩:=y;rw [h1] at h1';cases h1';rw [h2] at h2';cases h2';rfl
 |false=>obtain ⟨o,h1,_,n,h2⟩:=x;obtain ⟨o',h1',_,n',h2'⟩:=y;rw [h1] at h1';cases h1';rw [h2] at h2';cases h2';rfl
theorem eh (x:Ssq h c.b c.a xs):jt h c=xs:=Ssq.inj (Classical.epsilon_spec (p:=fun its=>Ssq h c.b c.a its) ⟨xs,x⟩) x
theorem vo {P:Program} {w:World} {K:PySem.W.Frag} {elts:List Expr} {x1} {pos:Pos} {z TI TO:Addr} {cs:List Zc} (nd:(z::TI::TO::zI cs).Nodup) (hne:cs≠[]) (h8:cs.length<=8):
  Turn P w K (.Tuple elts x1 pos) (Itz K (zB cs)) (z::TI::TO::zI cs) z
   (fun i h=>IsZip h z TI TO .none∧aK h TI (cs.map fun c=>Value.ref c.i).toArray∧(∃ts,aK h TO ts∧ts.size=cs.length)∧∀c∈cs,Sit h c.b c.i c.a i) where
 mem:=Eo
 obj:=fun i h q b hb=>by
  obtain ⟨q1,q2,⟨ts,q3,_⟩,q4⟩:=q;rcases Er.mp hb with rfl|hb
  ·exact ⟨_,q1,fun v e=>by have e':Data.fields _=Data.cell v:=e;cases e'⟩
  rcases Er.mp hb with rfl|hb
  ·exact ⟨_,q2,fun v e=>by have e':Data.seq _ _=Data.cell v:=e;cases e'⟩
  rcases Er.mp hb with rfl|hb
  ·exact ⟨_,q3,fun v e=>by have e':Data.seq _ _=Data.cell v:=e;cases e'⟩
  obtain ⟨c,hc,rfl⟩:=Es.mp hb;obtain ⟨o,n,vs,e,_,d⟩:=(q4 c hc).rec;exact ⟨o,e,fun v e=>by rw [d] at e;cases e⟩
 keep:=fun i h h' q k=>by
  obtain ⟨q1,q2,⟨ts,q3,q3'⟩,q4⟩:=q;exact ⟨k z (by simp) _ q1,k TI (by simp) _ q2,⟨ts,k TO (by simp) _ q3,q3'⟩,fun c hc=>(q4 c hc).at fun o e=>k c.i (En _ (En _ (En _ (List.mem_map_of_mem hc)))) o e⟩
 item:=by
  intro X hP hw hK hc i pins s σ H E I hf q hg;obtain ⟨q1,q2,⟨ts,q3,q3'⟩,q4⟩:=q;subst hP hw hK;have sub:∀b∈z::TO::zI cs,b∈z::TI::TO::zI cs:=fun b hb=>by
   rcases Er.mp hb with rfl|hb
   ·exact Eo
   ·exact En _ (En _ hb)
  have get:∀c∈cs,∃xs x its u,SqB X.K H c.b c.a xs∧xs[i]?=some x∧Ssq s.heap c.b c.a its∧its[i]?=some u∧RelV x u:=fun c hc=>by
   obtain ⟨xs,x,hx,ex⟩:=hg (c.b,c.a) (List.mem_map_of_mem (f:=fun c:Zc=>(c.b,c.a)) hc);obtain ⟨its,r1,p1,_⟩:=CT.Inv.sqb I hx;obtain ⟨u,eu,ru⟩:=BQ r1 ex;exact ⟨xs,x,_,u,hx,ex,p1,eu,ru⟩
  refine jG q1 (BS (F:=jt s.heap) (I.ok.hd hc) nd (fun c hc m=>?_) hne h8 q1 q2 q3 q3' (fun c hc=>⟨q4 c hc,?_⟩) (fun vs h' ev z1 z2 z3 z5 z6 kk=>?_) fun h' e he=>?_)
  ·obtain ⟨xs,_,_,_,hx,_⟩:=get c hc;exact CT.Inv.lQ I hx (hf c.a (sub _ m)) rfl
  ·obtain ⟨_,_,its,_,_,_,p,_⟩:=get c hc;rw [eh p];exact p
  ·refine ⟨_,rfl,wpAny_letOwnedTupleGo_zip z1 fun h2 z1' sb=>?_⟩;obtain ⟨ys,hv,hp⟩:=nJ (P:=fun c y=>∀xs,SqB X.K H c.1 c.2 xs->xs[i]?=some y) ev fun c hc u hu=>by
    obtain ⟨xs,x,its,u',hx,ex,p,eu,ru⟩:=get c hc;rw [eh p,eu] at hu;cases hu;exact ⟨x,fun xs' h'=>by rw [CT.Inv.oZ I h' hx];exact ex,ru⟩
   have nT:∀b∈z::TI::TO::zI cs,b≠s.heap.objs.size:=fun b hb=>by
    rcases Er.mp hb with rfl|hb
    ·exact EF (Cl q1)
    rcases Er.mp hb with rfl|hb
    ·exact EF (Cl q2)
    rcases Er.mp hb with rfl|hb
    ·exact EF (Cl q3)
    obtain ⟨c,hc,rfl⟩:=Es.mp hb;obtain ⟨o,n,vs,e,_,d⟩:=(q4 c hc).rec;exact EF (Cl e)
   obtain ⟨nz,nI,nO,_⟩:z∉TI::TO::zI cs∧TI∉TO::zI cs∧TO∉zI cs∧(zI cs).Nodup:=by simpa only [List.nodup_cons] using nd
   have k2:∀c o,c∉z::TO::zI cs->s.heap.get? c=some o->h2.get? c=some o:=fun c o hc e=>sb.extBut c o (fun q=>hc (by simp [q])) (kk c o hc e);have I1:Inv X pins σ H {s with heap:=h2}:=CT.Inv.ir (t':=s.toks) (ch:=z::TO::zI cs) I (fun b hb=>hf b (sub b hb)) k2;have hT:h2.get? s.heap.objs.size=some {cls:=.type "tuple",data:=.seq vs.toArray}:=sb.extBut _ _ (Ne.symm (nT z Eo)) z5;have hl:ys.length=cs.length:=by
    have h1:=congrArg List.length ev;have h2:=Paired.length hv;rw [Ez,Ez] at h1;omega
   have I2:Inv X pins σ (upd H s.heap.objs.size (.tup ys)) {s with heap:=h2}:=CT.Inv.adopt I1 (I.fI (EG _) (I.hok.fresh (EG _)))
    ⟨by have:=sZ;omega,vs,hv,_,hT,rfl,_,rfl⟩
   refine ⟨.ref s.heap.objs.size,_,I2,rfl,⟨_,ys,I.hok.fresh (EG _),rfl,rfl,hp⟩,⟨z1',k2 _ _ (fun m=>?_) q2,⟨_,sb.extBut _ _ (fun e=>nz (by simp [e])) z2,?_⟩,fun c hc=>(z3 c hc).at fun o e=>sb.extBut _ _ (fun e=>nz ?_) e⟩,fun b hb=>?_⟩
   ·rcases Er.mp m with e|m
    ·exact nz (by simp [e])
    ·exact nI m
   ·have:=Paired.length hv;rw [List.size_toArray];omega
   ·exact En _ (En _ (e▸List.mem_map_of_mem hc))
   ·rw [ao (nT b hb)];exact (hf b hb).1
  ·obtain ⟨c,hc,hn⟩:=he;obtain ⟨_,_,its,u,_,_,p,eu,_⟩:=get c hc;rw [eh p,eu] at hn;cases hn
 done:=by
  intro X hP hw hK hc i pins s σ H E I hf q hg;obtain ⟨q1,q2,⟨ts,q3,q3'⟩,q4⟩:=q;subst hP hw hK;obtain ⟨ha,c0,hc0,xs0,hx0,hl0⟩:=hg;have sub:∀b∈z::TO::zI cs,b∈z::TI::TO::zI cs:=fun b hb=>by
   rcases Er.mp hb with rfl|hb
   ·exact Eo
   ·exact En _ (En _ hb)
  have get:∀c∈cs,∃xs,SqB X.K H c.b c.a xs:=fun c hc=>ha (c.b,c.a) (List.mem_map_of_mem (f:=fun c:Zc=>(c.b,c.a)) hc);refine jG q1 (BS (F:=jt s.heap) (I.ok.hd hc) nd (fun c hc m=>?_) hne h8 q1 q2 q3 q3' (fun c hc=>⟨q4 c hc,?_⟩) (fun vs h' ev _ _ _ _ _ _=>?_) fun h' e _ kk ho=>?_)
  ·obtain ⟨xs,hx⟩:=get c hc;exact CT.Inv.lQ I hx (hf c.a (sub _ m)) rfl
  ·obtain ⟨xs,hx⟩:=get c hc;obtain ⟨its,_,p,_⟩:=CT.Inv.sqb I hx;rw [eh p];exact p
  ·obtain ⟨c,hc,rfl⟩:=Es.mp hc0;obtain ⟨its,r,p,_⟩:=CT.Inv.sqb I hx0;have m:(jt s.heap c)[i]?∈vs.map some:=by rw [←ev];exact List.mem_map_of_mem (f:=fun c=>(jt s.heap c)[i]?) hc
   rw [eh p,BP r hl0] at m;obtain ⟨_,_,z⟩:=Es.mp m;cases z
  ·obtain ⟨o,ho,hcls⟩:=ho;exact ⟨e,o,rfl,ho,hcls,rfl,CT.Inv.ir (t':=s.toks) (ch:=z::TO::zI cs) I (fun b hb=>hf b (sub b hb)) kk⟩
 self:=fun _ _ _ _ _ q h=>wpAny_pyIter_zip q.1 h
theorem qX (hl:bs.length=2∨bs.length=3) (hsq:∀c∈bs,∃xs,Ssq s.heap c.1 c.2 xs)
  (h:∀h' cs z TI TO,zB cs=bs->(z::TI::TO::zI cs).Nodup->(IsZip h' z TI TO .none∧aK h' TI (cs.map fun c=>Value.ref c.i).toArray∧(∃ts,aK h' TO ts∧ts.size=cs.length)∧∀c∈cs,Sit h' c.b c.i c.a 0)->
   (∀c o,s.heap.get? c=some o->h'.get? c=some o)->(∀b∈z::TI::TO::zI cs,s.heap.objs.size<=b)->Q (.ref z) {s with heap:=h'}):wpAny (model prog w) A (call (.type "zip") (bs.map fun c=>.ref c.2)) Q E s:=by
 match bs,hl with
 |[c1,c2],_=>
  obtain ⟨xs,p1⟩:=hsq c1 (by simp);obtain ⟨ys,p2⟩:=hsq c2 (by simp);refine pG p1 p2 fun h' x1 x2 x3 x4 x5 x6 x7=>h h' [⟨c1.1,s.heap.objs.size,c1.2⟩,⟨c2.1,s.heap.objs.size+1,c2.2⟩] _ _ _ rfl (by simp) ⟨x3,x1,⟨_,x2,rfl⟩,?_⟩ x6 (by simp);simp only [List.mem_cons,List.not_mem_nil,or_false];rintro c (rfl|rfl)
  ·exact x4
  ·exact x5
 |[c1,c2,c3],_=>
  obtain ⟨xs,p1⟩:=hsq c1 (by simp);obtain ⟨ys,p2⟩:=hsq c2 (by simp);obtain ⟨us,p3⟩:=hsq c3 (by simp);refine pH p1 p2 p3 fun h' x1 x2 x3 x4 x5 x5' x6 x7=>h h' [⟨c1.1,s.heap.objs.size,c1.2⟩,⟨c2.1,s.heap.objs.size+1,c2.2⟩,⟨c3.1,s.heap.objs.size+2,c3.2⟩] _ _ _ rfl (by simp) ⟨x3,x1,⟨_,x2,rfl⟩,?_⟩ x6 (by simp);simp only [List.mem_cons,List.not_mem_nil,or_false];rintro c (rfl|rfl|rfl)
  ·exact x4
  ·exact x5
  ·exact x5'
noncomputable def DD (K:PySem.W.Frag) (t:TA):TI:=fun σ H R=>t σ H fun vs H1=>∃bs,vs=bs.map (fun c=>V.ref c.2)∧(bs.length=2∨bs.length=3)∧(∀c∈bs,∃xs,SqB K H1 c.1 c.2 xs)∧R (Itz K bs) H1
theorem oX:∀{bs:List (Bool×Addr)} {us:List Value},Vals (bs.map fun c=>V.ref c.2) us->us=bs.map fun c=>Value.ref c.2
 |[],_,r=>by cases r;rfl
 |c::bs,_,r=>by
  cases r with
  |cons h t=>rw [oX t,List.map_cons];congr 1
theorem Bb {X:Cx} {elts:List Expr} {tpos:Pos} {e:Expr} {es:List Expr} {ta:TA} {k} {p pos:Pos} (hg:Gl X "zip") (hm:X.mg "zip"=none) (ha:PA X (e::es) ta) (hs:starEach (e::es) X.env=(false,eval e X.env)::starEach es X.env) (hp:(backTo pos (starEach es X.env)).any (·.1)=false):
  PI X (.Tuple elts k tpos) (.Call (.Name "zip" p) (e::es) [] pos) (DD X.K ta):=by
 intro pins s σ H R I h;refine Call_ (ej I hg hm boot_zip (PyProof.Rows.callWith_type1 (thn (ha pos pins s σ H _ I h) fun us s1 zz=>?_) hs hp));obtain ⟨vs,H1,I1,r1,bs,e,hl,hx,q⟩:=zz;subst e;rw [oX r1];refine qX hl (fun c hc=>?_) fun h' cs z TI TO eb nd tn kk fr=>?_
 ·obtain ⟨xs,hx⟩:=hx c hc;obtain ⟨its,_,p,_⟩:=CT.Inv.sqb I1 hx;exact ⟨_,p⟩
 ·subst eb;rw [Ez] at hl;refine wpAny_pyIter_zip tn.1 ⟨_,_,_,_,H1,rfl,I1.kept (t':=s1.toks) kk,vo nd (fun z=>by rw [z] at hl;simp at hl) (by omega),tn,fun b hb=>I1.fI (fr b hb) (I1.hok.fresh (fr b hb)),q⟩
set_option autoImplicit true
set_option relaxedAutoImplicit true
noncomputable def KP:List (PK×Addr×V)->List (PK×Addr×Value)->Prop:=Paired fun p q=>p.1=q.1∧p.2.1=q.2.1∧RelV p.2.2 q.2.2
noncomputable def yY (h:Heap) (d:Addr) (xs:List (PK×Addr×Value)) (ep:Nat):Prop:=
 ∃o es,h.get? d=some o∧o.ExactDict∧o.data=.dict es ep∧es.toList=xs.map (fun x=>⟨x.1.hs,.ref x.2.1,x.2.2⟩)∧(xs.map (·.1)).Nodup
noncomputable def PD (a:Addr) (ep:Nat) (kvs:List (PK×Addr×V)):HO:=.ext fun h=>kvs.length<=sizeLine∧(a==sysModules)=false∧∃xs,KP kvs xs∧yY h a xs ep
section
variable {P:Program} {w:World} {H:Hp} {h:Heap} {a:Addr} {ep:Nat} {kvs:List (PK×Addr×V)}
theorem cJ (ok:HOk P w H h) (e:H a=some (PD a ep kvs)):kvs.length<=sizeLine∧(a==sysModules)=false∧∃xs,KP kvs xs∧au (bI P w) h a xs ep:=(show aU P w H h a (PD a ep kvs) from ok a _ e).1
theorem jB (z:kvs.length<=sizeLine) (hd:(a==sysModules)=false) (k:KP kvs xs) (r:au (bI P w) h a xs ep):aU P w H h a (PD a ep kvs):=
 ⟨⟨z,hd,xs,k,r⟩,let ⟨o,_,e,_⟩:=r;⟨o,e⟩,fun h1 h2 ⟨z,hd,xs,k,r⟩ kk=>⟨z,hd,xs,k,au.keep (knd:=bI P w) r kk⟩⟩
noncomputable def dY (H:Hp) (k:PK) (b:Addr):Prop:=k.dp<=8∧∀P w h,HOk P w H h->bK h k (.ref b)
theorem dY.is (q:dY H k b) (ok:HOk P w H h):(bI P w).is h k b:=⟨q.2 P w h ok,q.1⟩
theorem bK.BI {s:Shared} {k:PK} {b:Addr} (x:bK s.heap k (.ref b)):s.TypeIs (.ref b) "tuple":=by
 cases k with
 |i n=>obtain ⟨_,e⟩:=x;cases e
 |t l=>obtain ⟨a,o,its,n,e,g,c,_⟩:=x;cases e;exact ⟨o,g,c⟩
noncomputable def dZ (H:Hp) (kvs:List (PK×Addr×V)):Prop:=∀p∈kvs,dY H p.1 p.2.1
theorem KP.mem (r:KP kvs xs):∀x∈xs,∃p∈kvs,p.1=x.1∧p.2.1=x.2.1:=by
 unfold KP at r
 induction r with
 |nil=>intro x hx;cases hx
 |@cons p q ps qs h t ih=>
  intro x hx;rcases Er.mp hx with e|hx
  ·subst e;exact ⟨p,Eo,h.1,h.2.1⟩
  ·obtain ⟨y,hy,e⟩:=ih x hx;exact ⟨y,En _ hy,e⟩
theorem KP.is (r:KP kvs xs) (ks:dZ H kvs) (ok:HOk P w H h):∀x∈xs,(bI P w).is h x.1 x.2.1:=fun x hx=>by
 obtain ⟨p,hp,e1,e2⟩:=r.mem x hx;rw [←e1,←e2];exact (ks p hp).is ok
noncomputable def dw (kvs:List (PK×Addr×V)) (k:PK):Option V:=(kvs.find? fun p=>decide (p.1=k)).map (·.2.2)
noncomputable def eT (kvs:List (PK×Addr×V)) (k:PK) (b:Addr) (v:V):List (PK×Addr×V):=
 if (dw kvs k).isSome then kvs.map (fun p=>if p.1=k then (p.1,p.2.1,v) else p) else kvs++[(k,b,v)]
theorem KP.val (r:KP kvs xs) (k:PK):bY (dw kvs k) ((atKey xs k).map (·.2)):=by
 unfold KP at r
 induction r with
 |nil=>trivial
 |@cons p q ps qs h t ih=>
  unfold dw atKey;rw [List.find?_cons,List.find?_cons,h.1]
  by_cases e:q.1=k
  ·rw [EH e];exact h.2.2
  ·rw [EI e];exact ih
theorem KP.length (r:KP kvs xs):kvs.length=xs.length:=Paired.length r
theorem KP.gR (r:KP kvs xs) (k:PK) (rv:RelV v u):KP (kvs.map fun p=>if p.1=k then (p.1,p.2.1,v) else p) (xs.map (putAt k u)):=by
 unfold KP at r ⊢
 induction r with
 |nil=>exact .nil
 |@cons p q ps qs h t ih=>
  rw [List.map_cons,List.map_cons];refine .cons ?_ ih;unfold putAt
  by_cases e:q.1=k
  ·rw [if_pos e,if_pos (h.1.trans e)];exact ⟨h.1,h.2.1,rv⟩
  ·rw [if_neg e,if_neg (fun z=>e (h.1.symm.trans z))];exact h
theorem KP.snoc (r:KP kvs xs) (k:PK) (b:Addr) (rv:RelV v u):KP (kvs++[(k,b,v)]) (xs++[(k,b,u)]):=by
 unfold KP at r ⊢
 induction r with
 |nil=>exact .cons ⟨rfl,rfl,rv⟩ .nil
 |cons h t ih=>exact .cons h ih
theorem KP.put (r:KP kvs xs) (k:PK) (b:Addr) (rv:RelV v u):KP (eT kvs k b v) (storedH xs k b u):=by
 have e:(dw kvs k).isSome=(atKey xs k).isSome:=by
  have:=r.val k;cases h1:dw kvs k with
  |none=>cases h2:(atKey xs k) with
   |none=>rfl
   |some p=>rw [h1,h2] at this;exact this.elim
  |some v=>cases h2:(atKey xs k) with
   |none=>rw [h1,h2] at this;exact this.elim
   |some p=>rfl
 unfold eT storedH;rw [e];split
 ·exact r.gR k rv
 ·exact r.snoc k b rv
theorem u_:(eT kvs k b v).length<=kvs.length+1:=by
 unfold eT;split
 ·rw [Ez];omega
 ·rw [Ey];exact EG _
theorem KP.nodup (r:KP kvs xs):kvs.map (·.1)=xs.map (·.1):=by
 unfold KP at r
 induction r with
 |nil=>rfl
 |@cons p q ps qs h t ih=>rw [List.map_cons,List.map_cons,ih,h.1]
theorem KP.get (r:KP kvs xs):∀{i:Nat} {p:PK×Addr×V},kvs[i]?=some p->∃q,xs[i]?=some q∧p.1=q.1∧p.2.1=q.2.1∧RelV p.2.2 q.2.2:=by
 unfold KP at r
 induction r with
 |nil=>intro i p h;simp at h
 |@cons p q ps qs h t ih=>
  intro i x hx;cases i with
  |zero=>simp at hx;subst hx;exact ⟨q,rfl,h⟩
  |succ i=>obtain ⟨y,hy,e⟩:=ih (i:=i) (p:=x) (by simpa using hx);exact ⟨y,by simpa using hy,e⟩
end
section
variable {X:Cx} {pins:List (Addr×Obj)} {σ:St} {H:Hp} {s:Shared} {a b:Addr} {v:V} {u r:Value} {o:Option V} {A:Around} {E:Value->Shared->Prop} {ep:Nat} {kvs:List (PK×Addr×V)} {k:PK}
theorem sF (hu:A.units+9<cLine) (I:Inv X pins σ H s) (e:H a=some (PD a ep kvs)) (ks:dZ H kvs) (kb:dY H k b) (l:dw kvs k=some v) (h:∀w' s',Inv X pins σ H s'->RelV v w'->Q w' s'):
  wpAny (model X.prog X.w) A (getItem (.ref a) (.ref b)) Q E s:=by
 obtain ⟨z,hd,xs,rel,dd⟩:=cJ I.hok e;obtain ⟨w',hw,rw'⟩:=bY.some_of (v:=v) (o:=(atKey xs k).map (·.2)) (by rw [←l];exact rel.val k);obtain ⟨p,hp,hp2⟩:=Option.map_eq_some_iff.mp hw;refine wpAny_getItem_heap (knd:=bI X.prog X.w) (show A.units+1+8<cLine by omega) (kb.is I.hok) (dd.ofH (rel.is ks I.hok)) hp ?_;rw [hp2];exact h w' _ (I.tok _) rw'
theorem Cw (hu:A.units+9<cLine) (I:Inv X pins σ H s) (e:H a=some (PD a ep kvs)) (ks:dZ H kvs) (kb:dY H k b) (h:∀w' s',Inv X pins σ H s'->RelV ((dw kvs k).getD .non) w'->Q w' s'):
  wpAny (model X.prog X.w) A (call (.builtin "dict.get") [.ref a,.ref b]) Q E s:=by
 obtain ⟨z,hd,xs,rel,dd⟩:=cJ I.hok e;refine call_meetsIn PySem.F.slot_dict_get dd.typeIs PySem.F.entry_dict_get (PySem.F.args_dict_get_2 _ _) (meetsH_dict_get (bI X.prog X.w) a b hd) ⟨show A.units+1+8<cLine by omega,k,xs,kb.is I.hok,dd.ofH (rel.is ks I.hok),h _ _ (I.tok _) ?_⟩;exact (rel.val k).getD rfl
theorem sG (hu:A.units+9<cLine) (I:Inv X pins σ H s) (e:H a=some (PD a ep kvs)) (ks:dZ H kvs) (kb:dY H k b) (hl:kvs.length<sizeLine) (rv:RelV v r) (h:∀s' ep',Inv X pins σ (upd H a (PD a ep' (eT kvs k b v))) s'->Q () s'):
  wpAny (model X.prog X.w) A (setItem (.ref a) (.ref b) r) Q E s:=by
 obtain ⟨z,hd,xs,rel,dd⟩:=cJ I.hok e;have hz:xs.length<=sizeLine:=by rw [←rel.length];exact z
 refine wpAny_setItem_heap (knd:=bI X.prog X.w) (hsz:=hz) (show A.units+1+8<cLine by omega) (kb.is I.hok) (dd.ofH (rel.is ks I.hok)) fun h' dd' hs=>?_;obtain ⟨ep',rw'⟩:=oW dd';refine h _ ep' (wM I (by rw [e];exact True.intro) hs (let ⟨q,_,hq,_⟩:=rw';⟨q,hq⟩) (jB (by have:=u_ (kvs:=kvs) (k:=k) (b:=b) (v:=v);omega) hd (rel.put k b rv) rw'))
theorem AY {Q:Value->Shared->Prop} (I:Inv X pins σ H s) (e:H a=some (PD a ep kvs)) (ks:dZ H kvs) (hh:(kvs.map fun p=>p.1.hs).Nodup) (h:∀p ep' s',H p=none->Inv X pins σ (upd H p (PD p ep' kvs)) s'->Q (.ref p) s'):
  wpAny (model X.prog X.w) A (call (.type "dict") [.ref a]) Q E s:=by
 obtain ⟨z,hd,xs,rel,dd⟩:=cJ I.hok e;have e2:(xs.map fun x=>(bI X.prog X.w).hash x.1)=kvs.map fun p=>p.1.hs:=by
  have:=congrArg (List.map PK.hs) rel.nodup;rw [List.map_map,List.map_map] at this;exact this.symm
 refine rG (knd:=bI X.prog X.w) hd dd (fun x hx=>(rel.is ks I.hok x hx).1.BI) (by rw [e2];exact hh) (by rw [←rel.length];exact z) fun h' ep' hd' hs'=>?_;refine h _ ep' _ (I.hok.fresh (EG _)) (I.laid (a:=s.heap.objs.size) (o:=PD s.heap.objs.size ep' kvs) (t':=s.toks) (fun b q hb=>?_) (EG _) (jB z (beq_eq_false_iff_ne.mpr (Ne.symm (EF I.big))) rel hd'));rw [hs'.2 b (EF (Cl hb))];exact BT _ hb
end
noncomputable def Itp (a:Addr) (ep:Nat) (kvs:List (PK×Addr×V)):It:=
 ⟨fun i H=>H a=some (PD a ep kvs)∧i<kvs.length,fun i H v H'=>H'=H∧∃p,kvs[i]?=some p∧v=.ref p.2.1,fun i H=>H a=some (PD a ep kvs)∧kvs.length<=i⟩
theorem s_ {P:Program} {w:World} {K:PySem.W.Frag} {tg:Expr} (a it:Addr) (ep:Nat) (kvs:List (PK×Addr×V)):Turn P w K tg (Itp a ep kvs) [it] it (fun i h=>h.IsKeyIter it a i kvs.length ep) where
 mem:=by simp
 obj:=fun i h st b hb=>by
  cases (Et.mp hb);obtain ⟨o,e,c,d⟩:=st;exact ⟨o,e,fun v z=>by rw [d] at z;cases z⟩
 keep:=fun i h h' st k=>let ⟨o,e,r⟩:=st;⟨o,k it (by simp) o e,r⟩
 item:=by
  intro X hP hw hK hc i pins s σ H E I hf st hg;subst hP hw hK;obtain ⟨he,hi⟩:=hg;obtain ⟨z,hd,xs,rel,dd⟩:=cJ I.hok he;obtain ⟨p,hp⟩:∃p,kvs[i]?=some p:=⟨kvs[i],by simp [hi]⟩
  obtain ⟨q,hq,_,e2,_⟩:=rel.get hp;obtain ⟨f0,f1,f2,f3,f4,f5⟩:=hf it (by simp);rw [rel.length] at st;refine qj st dd hq fun h' st' sb=>?_;have I1:Inv X pins σ H {s with heap:=h'}:=I.turned (t':=s.toks) (fun b o hb e=>(sb.2 b hb).trans e) f0 f1 f3 f4 f5;obtain ⟨o,e,c,d⟩:=id st';rw [←rel.length] at st';exact ⟨_,rfl,lL (s:={s with heap:=h'}) e c d (by decide) ⟨.ref p.2.1,H,I1,by rw [e2];rfl,⟨rfl,p,hp,rfl⟩,st',fun b hb=>(hf b hb).1⟩⟩
 done:=by
  intro X hP hw hK hc i pins s σ H E I hf st hg;subst hP hw hK;obtain ⟨he,hi⟩:=hg;obtain ⟨z,hd,xs,rel,dd⟩:=cJ I.hok he;obtain ⟨f0,f1,f2,f3,f4,f5⟩:=hf it (by simp);rw [rel.length] at st;exact rM (I.ok.hd hc) st dd (by rw [List.getElem?_eq_none_iff,←rel.length];exact hi) fun h' eb=>⟨rfl,I.turned (t':=s.toks) (fun b o hb e=>eb b o hb e) f0 f1 f3 f4 f5⟩
 self:=fun _ _ _ _ _ st h=>wpAny_pyIter_keyiter st h
noncomputable def Dy (tl:TE):TI:=fun σ H R=>tl σ H fun x H1=>∃a ep kvs,x=.ref a∧H1 a=some (PD a ep kvs)∧R (Itp a ep kvs) H1
section
variable {X:Cx} {tg o i e value:Expr} {pos pos' apos cpos:Pos} {td ty tv:TE}
theorem A_ {l:Expr} {tl:TE} (hl:PE X l tl):PI X tg l (Dy tl):=by
 intro pins s σ H R I h;refine thn (hl pins s σ H _ I h) fun v s1 zz=>?_;obtain ⟨x,H1,I1,r1,a,ep,kvs,ex,he,q⟩:=zz;subst ex;cases r1;obtain ⟨z,hd,xs,rel,dd⟩:=cJ I1.hok he;refine pX hd dd ?_;refine ⟨s1.heap.objs.size,[s1.heap.objs.size],_,_,H1,rfl,I1.kept (t':=s1.toks) fun b o e=>BT _ e,s_ a _ ep kvs,⟨_,Ch _ rfl,rfl,by rw [rel.length];rfl⟩,fun b hb=>?_,q⟩;cases (Et.mp hb);exact I1.fI (EG _) (I1.hok.fresh (EG _))
noncomputable def C2 (td ty:TE):TE:=fun σ H Q=>td σ H fun x H1=>ty σ H1 fun y H2=>∃a b ep kvs k v,x=.ref a∧y=.ref b∧H2 a=some (PD a ep kvs)∧dZ H2 kvs∧dY H2 k b∧dw kvs k=some v∧Q v H2
theorem yk (hu:X.A.units+9<cLine) (ho:PE X o td) (hi:PE X i ty) (hs:pf i):PE X (.Subscript o i pos) (C2 td ty):=by
 intro pins s σ H Q I h;refine yO PySem.F.slot_dict_getitem.lookup hs (thn (ho pins s σ H _ I h) fun u s1 ⟨x,H1,I1,rx,q1⟩=>thn (hi pins s1 σ H1 _ I1 q1) fun iv s2 zz=>?_);obtain ⟨y,H2,I2,ry,a,b,ep,kvs,k,v,ex,ey,he,ks,kb,l,q2⟩:=zz;subst ex ey;obtain rfl:u=Value.ref a:=rx;obtain rfl:iv=Value.ref b:=ry;obtain ⟨_,_,xs,_,dd⟩:=cJ I2.hok he;exact ⟨dd.typeIs,sF hu I2 he ks kb l fun w' s3 I3 rw'=>⟨v,H2,I3,rw',q2⟩⟩
noncomputable def BA (td ty:TE):TE:=fun σ H Q=>td σ H fun x H1=>∃a ep kvs,x=.ref a∧H1 a=some (PD a ep kvs)∧ty σ H1 fun y H2=>∃b k,y=.ref b∧H2 a=some (PD a ep kvs)∧dZ H2 kvs∧dY H2 k b∧Q ((dw kvs k).getD .non) H2
theorem uW (hu:X.A.units+9<cLine) (ho:PE X o td) (he:PE X e ty) (m:M1 X o "get" apos e cpos):PE X (.Call (.Attribute o "get" apos) [e] [] cpos) (BA td ty):=by
 intro pins s σ H Q I h;refine wpAny_Call_method m.base m.few m.line PySem.F.plainAttrs_dict PySem.F.slot_dict_get PySem.F.type_dict_get (thn (ho pins s σ H _ I h) fun u s1 zz=>?_);obtain ⟨x,H1,I1,rx,a,ep,kvs,ex,hx,q1⟩:=zz;subst ex;obtain rfl:u=Value.ref a:=rx;obtain ⟨_,_,xs,_,dd⟩:=cJ I1.hok hx;refine ⟨dd.typeIs,fun b q=>?_,?_⟩
 ·cases q;obtain ⟨ob,_,h1,h2,_⟩:=dd;exact ⟨ob,h1,h2.2.1⟩
 rw [m.trees];refine Calls.callWith_builtin rfl (Calls.evalArgs_plain (Calls.spliced_cons (thn (he pins s1 σ H1 _ I1 q1) fun iv s2 ⟨y,H2,I2,ry,b,k,ey,hx2,ks,kb,q2⟩=>Calls.spliced_nil ?_)));subst ey;obtain rfl:iv=Value.ref b:=ry;exact Cw hu I2 hx2 ks kb fun w' s3 I3 rw'=>⟨_,H2,I3,rw',q2⟩
noncomputable def CK (td ty tv:TE):TS:=fun D σ H=>tv σ H fun v H1=>td σ H1 fun x H2=>ty σ H2 fun y H3=>∃a b ep kvs k,x=.ref a∧y=.ref b∧H3 a=some (PD a ep kvs)∧dZ H3 kvs∧dY H3 k b∧kvs.length<sizeLine∧∀ep',D.nx σ (upd H3 a (PD a ep' (eT kvs k b v)))
theorem yA (hu:X.A.units+9<cLine) (ho:PE X o td) (hi:PE X i ty) (hv:PE X value tv) (hs:swapsWith value (some (.Subscript o i pos')) pos.line X.env=pure false):PS X (.Assign [.Subscript o i pos'] value pos) (CK td ty tv):=by
 intro pins s σ H D I h;refine wpAny_Assign_Subscript (thn (hv pins s σ H _ I h) fun r s1 ⟨v,H1,I1,rv,q1⟩=>thn (ho pins s1 σ H1 _ I1 q1) fun u s2 ⟨x,H2,I2,rx,q2⟩=>thn (hi pins s2 σ H2 _ I2 q2) fun iv s3 zz=>?_) hs;obtain ⟨y,H3,I3,ry,a,b,ep,kvs,k,ex,ey,he,ks,kb,hl,q3⟩:=zz;subst ex ey;obtain rfl:u=Value.ref a:=rx;obtain rfl:iv=Value.ref b:=ry;exact sG hu I3 he ks kb hl rv fun s4 ep' I4=>⟨σ,_,I4,q3 ep'⟩
noncomputable def C3:TE:=fun _ H Q=>∀p,H p=none->Q (.ref p) (upd H p (PD p 0 []))
theorem ym:PE X (.Dict [] [] pos) C3:=fun pins s σ H Q I h=>
 wpAny_Dict_empty ⟨.ref s.heap.objs.size,_,I.laid (a:=s.heap.objs.size) (o:=PD s.heap.objs.size 0 []) (t':=s.toks) (fun _ _ q=>BT _ q) (EG _)
  (jB (Nat.zero_le _) (beq_eq_false_iff_ne.mpr (Ne.symm (EF I.big))) (xs:=[]) .nil (au.new s.heap)),rfl,h _ (I.hok.fresh (EG _))⟩
theorem pF:cj X (.type "dict") (fun vs H Q=>∃a ep kvs,vs=[.ref a]∧H a=some (PD a ep kvs)∧dZ H kvs∧(kvs.map fun p=>p.1.hs).Nodup∧∀p ep',H p=none->Q (.ref p) (upd H p (PD p ep' kvs))):=by
 intro pins s σ H xs us Q I r ⟨a,ep,kvs,ex,he,ks,hh,q⟩;subst ex;cases r with
 |cons r t=>
  cases t;cases r;exact AY I he ks hh fun p ep' s' hp I'=>⟨.ref p,_,I',rfl,q p ep' hp⟩
end
set_option autoImplicit true
set_option relaxedAutoImplicit true
inductive D where
 |non|bl (b:Bool)|int (i:Int)|str (x:Str)|tup (xs:List D)|lst (xs:List D)|ins (C:Addr) (fs:List (Str×D))|exc (C:Addr) (fs:List (Str×D))
 |ty (n:String)|cl (C:Addr)
 |dct (kvs:List (D×D))|pdc (es:List (PK×D))
mutual
noncomputable def PK.d:PK->D
 |.i n=>.int n
 |.t l=>.tup (PK.dL l)
noncomputable def PK.dL:List PK->List D
 |[]=>[]
 |k::ks=>PK.d k::PK.dL ks
end
noncomputable def DH:Key->D
 |.inl i=>.int i
 |.inr x=>.str x
noncomputable abbrev Ad:=Addr->Prop
noncomputable def SqK (K:PySem.W.Frag) (a:Addr) (xs:List V):Prop:=
 ∃(o:Obj) (its:Array Value) (n:Nat),K.lookup a=some o∧o.cls=.type "list"∧o.dict=none∧o.data=.seq its n∧its.size<=sizeLine∧Vals xs its.toList
mutual
inductive Rds (K:PySem.W.Frag) (H:Hp) (S:Ad):D->V->Prop
 |non:Rds K H S .non .non
 |bl (b:Bool):Rds K H S (.bl b) (.bl b)
 |int (i:Int):Rds K H S (.int i) (.int i)
 |str (x:Str):Rds K H S (.str x) (.str x)
 |ty (n:String):Rds K H S (.ty n) (.ty n)
 |cl (C:Addr):Rds K H S (.cl C) (.ref C)
 |tup {a:Addr} {vs:List V} {xs:List D}:H a=some (.tup vs)->¬S a->ae K H S xs vs->Rds K H S (.tup xs) (.ref a)
 |lst {a:Addr} {vs:List V} {xs:List D}:Rd H a (.lst vs)->¬S a->ae K H S xs vs->Rds K H S (.lst xs) (.ref a)
 |lstK {a:Addr} {vs:List V} {xs:List D}:SqK K a vs->ae K H S xs vs->Rds K H S (.lst xs) (.ref a)
 |ins {a C dx:Addr} {fs:List (Str×D)} {gs:List (Str×V)}:H a=some (.ins C dx gs)->¬S a->aH K H S fs gs->Rds K H S (.ins C fs) (.ref a)
 |mB {fr:Bool} {a C:Addr}:H a=some (lG fr a C none)->¬S a->Rds K H S (.exc C []) (.ref a)
 |exc {fr:Bool} {a C dx:Addr} {fs:List (Str×D)} {gs:List (Str×V)}:H a=some (lG fr a C (some dx))->H dx=some (tH dx gs)->¬S a->¬S dx->aH K H S fs gs->Rds K H S (.exc C fs) (.ref a)
 |dK {a:Addr} {kvs:List (Key×V)} {es:List (D×D)}:H a=some (.dK kvs)->¬S a->es.map (·.1)=kvs.map (fun p=>DH p.1)->ae K H S (es.map (·.2)) (kvs.map (·.2))->Rds K H S (.dct es) (.ref a)
 |dP {a:Addr} {ep:Nat} {kvs:List (PK×Addr×V)} {es:List (PK×D)}:H a=some (PD a ep kvs)->¬S a->ar K H S es kvs->Rds K H S (.pdc es) (.ref a)
inductive ae (K:PySem.W.Frag) (H:Hp) (S:Ad):List D->List V->Prop
 |nil:ae K H S [] []
 |cons {d:D} {v:V} {ds:List D} {vs:List V}:Rds K H S d v->ae K H S ds vs->ae K H S (d::ds) (v::vs)
inductive ar (K:PySem.W.Frag) (H:Hp) (S:Ad):List (PK×D)->List (PK×Addr×V)->Prop
 |nil:ar K H S [] []
 |cons {k:PK} {a:Addr} {d:D} {v:V} {ds:List (PK×D)} {vs:List (PK×Addr×V)}:k.dp<=8->Rds K H S (PK.d k) (.ref a)->Rds K H S d v->ar K H S ds vs->ar K H S ((k,d)::ds) ((k,a,v)::vs)
inductive aH (K:PySem.W.Frag) (H:Hp) (S:Ad):List (Str×D)->List (Str×V)->Prop
 |nil:aH K H S [] []
 |cons {n:Str} {d:D} {v:V} {ds:List (Str×D)} {vs:List (Str×V)}:Rds K H S d v->aH K H S ds vs->aH K H S ((n,d)::ds) ((n,v)::vs)
end
noncomputable def Ext (S:Ad) (H H':Hp):Prop:=∀a o,¬S a->H a=some o->H' a=some o
noncomputable abbrev no:Ad:=fun _=>False
noncomputable abbrev aD (H H':Hp):Prop:=Ext no H H'
theorem Ext.refl:Ext S H H:=fun _ _ _ e=>e
theorem Ext.trans (a:Ext S H H1) (b:Ext S H1 H2):Ext S H H2:=fun c o n e=>b c o n (a c o n e)
theorem Ext.to (e:aD H H') (S:Ad):Ext S H H':=fun a o _ h=>e a o (fun z=>z) h
theorem Ext.new (hp:H p=none):aD H (upd H p o):=fun a u _ e=>by rw [ao (aM e hp)];exact e
theorem Ext.set (hp:S p):Ext S H (upd H p o):=fun a u n e=>by rw [ao (fun z:a=p=>n (by rw [z];exact hp))];exact e
theorem Ext.ne (e:aD H H') (h:H a≠none):H' a≠none:=by
 cases q:H a with
 |none=>exact absurd q h
 |some o=>rw [e a o (fun z=>z) q];intro z;cases z
theorem Rd.ext (e:Ext S H H') (n:¬S a) (r:Rd H a u):Rd H' a u:=r.elim (fun z=>.inl (e _ _ n z)) fun ⟨o,z⟩=>.inr ⟨o,e _ _ n z⟩
section
variable {K:PySem.W.Frag} {H H':Hp} {S S':Ad}
mutual
theorem Rds.ext (e:Ext S H H'):∀{d:D} {v:V},Rds K H S d v->Rds K H' S d v
 |_,_,.non=>.non
 |_,_,.bl b=>.bl b
 |_,_,.int i=>.int i
 |_,_,.str x=>.str x
 |_,_,.ty n=>.ty n
 |_,_,.cl C=>.cl C
 |_,_,.tup h n r=>.tup (e _ _ n h) n (ae.ext e r)
 |_,_,.lst h n r=>.lst (CT.Rd.ext e n h) n (ae.ext e r)
 |_,_,.lstK h r=>.lstK h (ae.ext e r)
 |_,_,.ins h n r=>.ins (e _ _ n h) n (aH.ext e r)
 |_,_,.mB h n=>.mB (e _ _ n h) n
 |_,_,.exc h h2 n n2 r=>.exc (e _ _ n h) (e _ _ n2 h2) n n2 (aH.ext e r)
 |_,_,.dK h n k r=>.dK (e _ _ n h) n k (ae.ext e r)
 |_,_,.dP h n r=>.dP (e _ _ n h) n (ar.ext e r)
theorem ar.ext (e:Ext S H H'):∀{ds:List (PK×D)} {vs:List (PK×Addr×V)},ar K H S ds vs->ar K H' S ds vs
 |_,_,.nil=>.nil
 |_,_,.cons p k r t=>.cons p (Rds.ext e k) (Rds.ext e r) (ar.ext e t)
theorem ae.ext (e:Ext S H H'):∀{ds:List D} {vs:List V},ae K H S ds vs->ae K H' S ds vs
 |_,_,.nil=>.nil
 |_,_,.cons r t=>.cons (Rds.ext e r) (ae.ext e t)
theorem aH.ext (e:Ext S H H'):∀{ds:List (Str×D)} {vs:List (Str×V)},aH K H S ds vs->aH K H' S ds vs
 |_,_,.nil=>.nil
 |_,_,.cons r t=>.cons (Rds.ext e r) (aH.ext e t)
end
mutual
theorem Rds.av (e:∀a,S' a->S a∨H a=none):∀{d:D} {v:V},Rds K H S d v->Rds K H S' d v
 |_,_,.non=>.non
 |_,_,.bl b=>.bl b
 |_,_,.int i=>.int i
 |_,_,.str x=>.str x
 |_,_,.ty n=>.ty n
 |_,_,.cl C=>.cl C
 |_,_,.tup h n r=>.tup h (fun z=>(e _ z).elim n fun q=>by rw [h] at q;cases q) (ae.av e r)
 |_,_,.lst h n r=>.lst h (fun z=>(e _ z).elim n fun q=>by rcases h with h|⟨_,h⟩<;>(rw [h] at q;cases q)) (ae.av e r)
 |_,_,.lstK h r=>.lstK h (ae.av e r)
 |_,_,.ins h n r=>.ins h (fun z=>(e _ z).elim n fun q=>by rw [h] at q;cases q) (aH.av e r)
 |_,_,.mB h n=>.mB h (fun z=>(e _ z).elim n fun q=>by rw [h] at q;cases q)
 |_,_,.exc h h2 n n2 r=>.exc h h2 (fun z=>(e _ z).elim n fun q=>by rw [h] at q;cases q) (fun z=>(e _ z).elim n2 fun q=>by rw [h2] at q;cases q) (aH.av e r)
 |_,_,.dK h n k r=>.dK h (fun z=>(e _ z).elim n fun q=>by rw [h] at q;cases q) k (ae.av e r)
 |_,_,.dP h n r=>.dP h (fun z=>(e _ z).elim n fun q=>by rw [h] at q;cases q) (ar.av e r)
theorem ar.av (e:∀a,S' a->S a∨H a=none):∀{ds:List (PK×D)} {vs:List (PK×Addr×V)},ar K H S ds vs->ar K H S' ds vs
 |_,_,.nil=>.nil
 |_,_,.cons p k r t=>.cons p (Rds.av e k) (Rds.av e r) (ar.av e t)
theorem ae.av (e:∀a,S' a->S a∨H a=none):∀{ds:List D} {vs:List V},ae K H S ds vs->ae K H S' ds vs
 |_,_,.nil=>.nil
 |_,_,.cons r t=>.cons (Rds.av e r) (ae.av e t)
theorem aH.av (e:∀a,S' a->S a∨H a=none):∀{ds:List (Str×D)} {vs:List (Str×V)},aH K H S ds vs->aH K H S' ds vs
 |_,_,.nil=>.nil
 |_,_,.cons r t=>.cons (Rds.av e r) (aH.av e t)
end
theorem ae.length:∀{ds:List D} {vs:List V},ae K H S ds vs->ds.length=vs.length
 |_,_,.nil=>rfl
 |_,_,.cons _ t=>by rw [List.length_cons,List.length_cons,ae.length t]
theorem ae.get:∀{ds:List D} {vs:List V} {i:Nat} {d:D},ae K H S ds vs->ds[i]?=some d->∃v,vs[i]?=some v∧Rds K H S d v
 |_,_,0,_,.cons r _,e=>by simp at e;subst e;exact ⟨_,rfl,r⟩
 |_,_,i+1,_,.cons _ t,e=>by
  obtain ⟨v,h1,h2⟩:=ae.get (i:=i) t (by simpa using e);exact ⟨v,by simpa using h1,h2⟩
theorem ae.app:∀{ds es:List D} {vs us:List V},ae K H S ds vs->ae K H S es us->ae K H S (ds++es) (vs++us)
 |_,_,_,_,.nil,s=>s
 |_,_,_,_,.cons r t,s=>.cons r (ae.app t s)
theorem ae.rep (r:Rds K H S d v):∀n:Nat,ae K H S (List.replicate n d) (List.replicate n v)
 |0=>.nil
 |n+1=>.cons r (ae.rep r n)
theorem aH.look:∀{ds:List (Str×D)} {vs:List (Str×V)} {d:D},aH K H S ds vs->ds.lookup f=some d->∃v,vs.lookup f=some v∧Rds K H S d v
 |(n,x)::r,_,d,.cons q t,e=>by
  rw [List.lookup_cons] at e ⊢;cases hb:f==n with
  |true=>rw [hb] at e;cases e;exact ⟨_,rfl,q⟩
  |false=>rw [hb] at e;exact aH.look t e
theorem aH.none:∀{ds:List (Str×D)} {vs:List (Str×V)},aH K H S ds vs->ds.lookup f=none->vs.lookup f=none
 |[],_,.nil,_=>rfl
 |(n,x)::r,_,.cons q t,e=>by
  rw [List.lookup_cons] at e ⊢;cases hb:f==n with
  |true=>rw [hb] at e;cases e
  |false=>rw [hb] at e;exact aH.none t e
theorem Rds.aX (r:Rds K H S (.int i) v):v=.int i:=by cases r;rfl
theorem Rds.blV (r:Rds K H S (.bl b) v):v=.bl b:=by cases r;rfl
theorem Rds.qm (r:Rds K H S .non v):v=.non:=by cases r;rfl
theorem Rds.cf (r:Rds K H S (.tup xs) v):∃a vs,v=.ref a∧H a=some (.tup vs)∧ae K H S xs vs:=by cases r with|tup h n r=>exact ⟨_,_,rfl,h,r⟩
theorem Rds.gQ (r:Rds K H S (.lst xs) v):∃a vs,v=.ref a∧SqL K H a vs∧ae K H S xs vs:=by
 cases r with
 |lst h n r=>exact ⟨_,_,rfl,.inl h,r⟩
 |lstK h r=>exact ⟨_,_,rfl,.inr h,r⟩
theorem Rds.jX (r:Rds K H S (.ins C fs) v):∃a dx gs,v=.ref a∧H a=some (.ins C dx gs)∧aH K H S fs gs:=by cases r with|ins h n r=>exact ⟨_,_,_,rfl,h,r⟩
theorem ae.one (r:ae K H S [d] vs):∃v,vs=[v]∧Rds K H S d v:=by cases r with|cons r t=>cases t;exact ⟨_,rfl,r⟩
theorem ae.two (r:ae K H S [d,e] vs):∃v u,vs=[v,u]∧Rds K H S d v∧Rds K H S e u:=by
 cases r with|cons r t=>obtain ⟨u,rfl,q⟩:=t.one;exact ⟨_,_,rfl,r,q⟩
noncomputable def Dom (H:Hp) (S:Ad):Prop:=∀a,S a->H a≠none
theorem Dom.ext (d:Dom H S) (e:aD H H'):Dom H' S:=fun a h=>e.ne (d a h)
theorem Dom.not (d:Dom H S) (hp:H p=Option.none):¬S p:=fun z=>d p z hp
theorem Rds.ez (dm:Dom H S) (hp:H p=Option.none) (r:ae K H S xs vs):Rds K (upd H p (.tup vs)) S (.tup xs) (.ref p):=.tup aG (dm.not hp) (r.ext ((Ext.new hp).to S))
theorem Rds.jz (dm:Dom H S) (hp:H p=Option.none) (r:ae K H S xs vs):Rds K (upd H p (.lst vs)) S (.lst xs) (.ref p):=.lst (.inl aG) (dm.not hp) (r.ext ((Ext.new hp).to S))
end
inductive Ow where
 |l (xs:List D)|d (es:List (PK×D))
noncomputable def Ow.D:Ow->D
 |.l xs=>.lst xs
 |.d es=>.pdc es
noncomputable def cu (K:PySem.W.Frag) (H:Hp) (S:Ad) (a:Addr):Ow->HO->Prop
 |.l xs,o=>∃vs,o=.lst vs∧ae K H S xs vs
 |.d es,o=>∃ep kvs,o=PD a ep kvs∧ar K H S es kvs
inductive Sl where
 |nil|any|val (d:D)|owx (c:Ow)|new (C x dx:Addr) (fs:List (Str×D))
noncomputable abbrev Sl.own (xs:List D):Sl:=.owx (.l xs)
noncomputable abbrev Sl.odc (es:List (PK×D)):Sl:=.owx (.d es)
section
variable {K:PySem.W.Frag} {H H':Hp} {S S':Ad} {a:Addr} {c:Ow} {o:HO}
theorem cu.ext (e:Ext S H H') (h:cu K H S a c o):cu K H' S a c o:=by
 cases c with
 |l xs=>obtain ⟨vs,q,r⟩:=h;exact ⟨vs,q,r.ext e⟩
 |d es=>obtain ⟨ep,vs,q,r⟩:=h;exact ⟨ep,vs,q,r.ext e⟩
theorem cu.av (e:∀a,S' a->S a∨H a=none) (h:cu K H S a c o):cu K H S' a c o:=by
 cases c with
 |l xs=>obtain ⟨vs,q,r⟩:=h;exact ⟨vs,q,r.av e⟩
 |d es=>obtain ⟨ep,vs,q,r⟩:=h;exact ⟨ep,vs,q,r.av e⟩
theorem cu.rds (h:cu K H S a c o) (ha:H a=some o) (n:¬S a):Rds K H S c.D (.ref a):=by
 cases c with
 |l xs=>obtain ⟨vs,rfl,r⟩:=h;exact .lst (.inl ha) n r
 |d es=>obtain ⟨ep,vs,rfl,r⟩:=h;exact .dP ha n r
theorem cu.sort (h:cu K H S a c o):(∃vs,o=.lst vs)∨∃ep kvs,o=PD a ep kvs:=by
 cases c with
 |l xs=>obtain ⟨vs,rfl,r⟩:=h;exact .inl ⟨vs,rfl⟩
 |d es=>obtain ⟨ep,vs,rfl,r⟩:=h;exact .inr ⟨ep,vs,rfl⟩
end
noncomputable abbrev Rho:=List Sl
noncomputable def Sl.dh:Sl->Prop
 |.owx _=>True|.new _ _ _ _=>True|_=>False
noncomputable def RO (K:PySem.W.Frag) (H:Hp) (S:Ad):Sl->Option V->Prop
 |.nil,v=>v=none
 |.any,_=>True
 |.val d,v=>∃u,v=some u∧Rds K H S d u
 |.owx c,v=>∃a o,v=some (.ref a)∧S a∧H a=some o∧cu K H S a c o
 |.new C x dx fs,v=>∃gs,v=some (.ref x)∧S x∧H x=some (.ins C dx gs)∧aH K H S fs gs
theorem RO.ext {K:PySem.W.Frag} {H H':Hp} {S:Ad} (e:aD H H'):∀{x:Sl} {v:Option V},RO K H S x v->RO K H' S x v
 |.nil,_,h=>h
 |.any,_,_=>trivial
 |.val _,_,⟨u,h,r⟩=>⟨u,h,r.ext (e.to S)⟩
 |.owx _,_,⟨a,vs,h,s,o,r⟩=>⟨a,vs,h,s,e _ _ (fun z=>z) o,r.ext (e.to S)⟩
 |.new _ _ _ _,_,⟨gs,h,s,o,r⟩=>⟨gs,h,s,e _ _ (fun z=>z) o,r.ext (e.to S)⟩
structure VE (K:PySem.W.Frag) (H:Hp) (S:Ad) (ρ:Rho) (σ:St):Prop where
 len:ρ.length=σ.length
 rel:∀(i:Nat) (x:Sl),ρ[i]?=some x->∃v,σ[i]?=some v∧RO K H S x v
 dist:∀(i j:Nat) (x y:Sl) (a:Addr),i≠j->ρ[i]?=some x->ρ[j]?=some y->x.dh->y.dh->σ[i]?=some (some (.ref a))->σ[j]?≠some (some (.ref a))
 dom:Dom H S
section
variable {K:PySem.W.Frag} {H H':Hp} {S:Ad} {ρ:Rho} {σ:St} {i:Nat}
theorem VE.ext (v:VE K H S ρ σ) (e:aD H H'):VE K H' S ρ σ:=⟨v.len,fun i x h=>let ⟨u,h1,h2⟩:=v.rel i x h;⟨u,h1,h2.ext e⟩,v.dist,v.dom.ext e⟩
theorem VE.get (v:VE K H S ρ σ) (h:ρ[i]?=some (.val d)):∃u,σ[i]?=some (some u)∧Rds K H S d u:=by
 obtain ⟨w,h1,u,rfl,r⟩:=v.rel i _ h;exact ⟨u,h1,r⟩
theorem VE.set (v:VE K H S ρ σ) (r:Rds K H S d u):VE K H S (ρ.set i (.val d)) (σ.set i (some u)):=by
 refine ⟨by simpa using v.len,fun j x h=>?_,fun j k x y a hjk h1 h2 o1 o2 h3=>?_,v.dom⟩
 ·by_cases hj:i=j
  ·subst hj;have hi:i<ρ.length:=by
    have:=(Eu.mp h).1;simpa using this
   rw [Ew hi] at h;cases h;exact ⟨some u,Ew (v.len▸hi),u,rfl,r⟩
  ·rw [Ex hj] at h ⊢;exact v.rel j x h
 ·have n1:i≠j:=fun z=>by
   subst z;have hi:=(Eu.mp h1).1;rw [Ew (by simpa using hi)] at h1;cases h1;exact o1
  have n2:i≠k:=fun z=>by
   subst z;have hi:=(Eu.mp h2).1;rw [Ew (by simpa using hi)] at h2;cases h2;exact o2
  rw [Ex n1] at h1 h3;rw [Ex n2] at h2 ⊢;exact v.dist j k x y a hjk h1 h2 o1 o2 h3
theorem VE.unset (v:VE K H S ρ σ) (h:ρ[i]?=some .nil):σ[i]?=some none:=by
 obtain ⟨w,h1,rfl⟩:=v.rel i _ h;exact h1
end
noncomputable def tD (K:PySem.W.Frag) (ρ:Rho) (d:D):TE:=fun σ H Q=>∃S,VE K H S ρ σ∧∀v H',aD H H'->Rds K H' S d v->Q v H'
noncomputable def tDT (K:PySem.W.Frag) (ρ:Rho) (b:Bool):TT:=fun σ H Q=>∃S,VE K H S ρ σ∧∀H',aD H H'->Q b H'
noncomputable def tDA (K:PySem.W.Frag) (ρ:Rho) (ds:List D):TA:=fun σ H Q=>∃S,VE K H S ρ σ∧∀vs H',aD H H'->ae K H' S ds vs->Q vs H'
noncomputable def DE (X:Cx) (ρ:Rho) (e:Expr) (d:D):Prop:=PE X e (tD X.K ρ d)
noncomputable def DT (X:Cx) (ρ:Rho) (e:Expr) (b:Bool):Prop:=PT X e (tDT X.K ρ b)
noncomputable def DW (X:Cx) (ρ:Rho) (e:Expr) (b:Bool):Prop:=PW X e (tDT X.K ρ b)
noncomputable def DA (X:Cx) (ρ:Rho) (es:List Expr) (ds:List D):Prop:=PA X es (tDA X.K ρ ds)
section
variable {X:Cx}
theorem PE.weak (h:PE X e t) (w:∀σ H Q,t' σ H Q->t σ H Q):PE X e t':=fun pins s σ H Q I q=>h pins s σ H Q I (w σ H Q q)
theorem PT.weak (h:PT X e t) (w:∀σ H Q,t' σ H Q->t σ H Q):PT X e t':=fun pins s σ H Q I q=>h pins s σ H Q I (w σ H Q q)
theorem PW.weak (h:PW X e t) (w:∀σ H Q,t' σ H Q->t σ H Q):PW X e t':=fun wh pins s σ H Q I q=>h wh pins s σ H Q I (w σ H Q q)
theorem PA.weak (h:PA X es t) (w:∀σ H Q,t' σ H Q->t σ H Q):PA X es t':=fun pos pins s σ H Q I q=>h pos pins s σ H Q I (w σ H Q q)
theorem PS.weak {st:Stmt} {t t':TS} (h:PS X st t) (w:∀D σ H,t' D σ H->t D σ H):PS X st t':=fun pins s σ H D I q=>h pins s σ H D I (w D σ H q)
theorem PSs.weak {st:List Stmt} {t t':TS} (h:PSs X st t) (w:∀D σ H,t' D σ H->t D σ H):PSs X st t':=fun pins s σ H D I q=>h pins s σ H D I (w D σ H q)
variable {ρ:Rho} {a b c e:Expr} {pos:Pos} {d da db dc:D}
theorem rk {i:Nat} {x:Str} (hN:X.N[i]?=some x) (hv:Vis X.env.scope x) (hr:ρ[i]?=some (.val d)) (hd: ~~~((x==("__debug__":Str))=false)) (hcd: ~~~((x==("__classdict__":Str))=false)):DE X ρ (.Name x pos) d:=
 PE.weak (eB hN hv hd hcd) fun σ H Q ⟨S,ve,k⟩=>let ⟨u,h1,r⟩:=ve.get hr;⟨u,h1,k u H Ext.refl r⟩
theorem zt {j}:DE X ρ (.Constant (.int i) j pos) (.int i):=PE.weak A3 fun σ H Q ⟨S,ve,k⟩=>k _ H Ext.refl (.int i)
theorem vJ {j}:DE X ρ (.Constant (.bool q) j pos) (.bl q):=PE.weak Cy fun σ H Q ⟨S,ve,k⟩=>k _ H Ext.refl (.bl q)
theorem gF {j}:DE X ρ (.Constant .none j pos) .non:=PE.weak A4 fun σ H Q ⟨S,ve,k⟩=>k _ H Ext.refl .non
theorem zJ {j}:DE X ρ (.Constant (.str x) j pos) (.str x):=PE.weak A7 fun σ H Q ⟨S,ve,k⟩=>k _ H Ext.refl (.str x)
theorem B7 (hg:Gl X x) (hm:X.mg x=none) (hv:bootBuiltins x=some (.type n)) (hn: ~~~(x≠"__name__")) (hd: ~~~((x==("__debug__":Str))=false)):DE X ρ (.Name x pos) (.ty n):=
 PE.weak (yg hg hm hv (v:=.ty n) rfl hn hd) fun σ H Q ⟨S,ve,k⟩=>k _ H Ext.refl (.ty n)
theorem B6 (hg:Gl X x) (hm:X.mg x=some (.ref C)) (hd: ~~~((x==("__debug__":Str))=false)):DE X ρ (.Name x pos) (.cl C):=
 PE.weak (oS hg hm (v:=.ref C) rfl hd) fun σ H Q ⟨S,ve,k⟩=>k _ H Ext.refl (.cl C)
theorem ua (hg:Gl X x) (hm:X.mg x=some (.int i t)) (hd: ~~~((x==("__debug__":Str))=false)):DE X ρ (.Name x pos) (.int i):=
 PE.weak (oS hg hm (v:=.int i) ⟨t,rfl⟩ hd) fun σ H Q ⟨S,ve,k⟩=>k _ H Ext.refl (.int i)
noncomputable def R2D (K:PySem.W.Frag) (r:R2) (da db d:D):Prop:=∀(x y:V) (H:Hp) (S:Ad) (Q:VK),Rds K H S da x->Rds K H S db y->Dom H S->(∀v H',aD H H'->Rds K H' S d v->Q v H')->r x y H Q
theorem mW (h:R2D X.K r da db d) (σ:St) (H:Hp) (Q:VK) (q:tD X.K ρ d σ H Q):tOp r (tD X.K ρ da) (tD X.K ρ db) σ H Q:=by
 obtain ⟨S,ve,k⟩:=q;exact ⟨S,ve,fun x H1 e1 r1=>⟨S,ve.ext e1,fun y H2 e2 r2=>h x y H2 S Q (r1.ext (e2.to S)) r2 ((ve.ext e1).ext e2).dom fun v H' e3 r3=>k v H' (e1.trans (e2.trans e3)) r3⟩⟩
theorem dz (ho:OpR X (binaryOp op) r) (h:R2D X.K r da db d) (ha:DE X ρ a da) (hb:DE X ρ b db):DE X ρ (.BinOp a op b pos) d:=PE.weak (CA ho ha hb) (mW h)
theorem mi (ho:OpR X (compareOp op) r) (h:R2D X.K r da db d) (ha:DE X ρ a da) (hb:DE X ρ b db) (hm:behindInMarks op b=false):DE X ρ (.Compare a [op] [b] pos) d:=PE.weak (yh ho ha hb hm) (mW h)
theorem yP (h:∀σ H Q,tD X.K ρ (.bl q) σ H Q->te σ H Q) (σ:St) (H:Hp) (Q:Bool->Hp->Prop) (w:tDT X.K ρ q σ H Q):tB te σ H Q:=by
 obtain ⟨S,ve,k⟩:=w;exact h σ H _ ⟨S,ve,fun v H' e r=>⟨q,r.blV,k H' e⟩⟩
theorem mv (ho:OpR X (compareOp op) r) (h:R2D X.K r da db (.bl q)) (ha:DE X ρ a da) (hb:DE X ρ b db) (hm:behindInMarks op b=false):DT X ρ (.Compare a [op] [b] pos) q:=by
 refine PT.weak (yD ho ha hb hm) fun σ H Q w=>?_;obtain ⟨S,ve,k⟩:=w;exact mW h σ H _ ⟨S,ve,fun v H' e r=>by rw [r.blV];exact ⟨q,rfl,k H' e⟩⟩
theorem gI (h:DE X ρ e (.bl q)) (he:∀whole,isTrue e X.env whole=(do let v←whole;standAt e.pos;holding [v] (truthy v)):=by intro _;rfl):DT X ρ e q:=PT.weak (Bi h he) (yP fun _ _ _ w=>w)
theorem Bl {i j:Int} {K:PySem.W.Frag}:R2D K (rI0 fun i j=>.int (i+j)) (.int i) (.int j) (.int (i+j)):=fun x y H S Q rx ry dm k=>⟨i,j,rx.aX,ry.aX,k _ H Ext.refl (.int _)⟩
theorem Bo {i j:Int} {K:PySem.W.Frag}:R2D K (rI0 fun i j=>.int (i - j)) (.int i) (.int j) (.int (i - j)):=fun x y H S Q rx ry dm k=>⟨i,j,rx.aX,ry.aX,k _ H Ext.refl (.int _)⟩
theorem Bn {i j:Int} {K:PySem.W.Frag} (h:iF i j):R2D K (rI iF fun i j=>.int (i*j)) (.int i) (.int j) (.int (i*j)):=fun x y H S Q rx ry dm k=>⟨i,j,rx.aX,ry.aX,h,k _ H Ext.refl (.int _)⟩
theorem Bm {i j:Int} {K:PySem.W.Frag} (h:0<j):R2D K (rI (fun _ j=>0<j) fun i j=>.int (i%j)) (.int i) (.int j) (.int (i%j)):=fun x y H S Q rx ry dm k=>⟨i,j,rx.aX,ry.aX,h,k _ H Ext.refl (.int _)⟩
theorem yG {i j:Int} {K:PySem.W.Frag} (h:pb i j):R2D K (rI pb fun i j=>.int (i / j)) (.int i) (.int j) (.int (i / j)):=fun x y H S Q rx ry dm k=>⟨i,j,rx.aX,ry.aX,h,k _ H Ext.refl (.int _)⟩
theorem jH {i j:Int} {K:PySem.W.Frag} {g:Int->Int->Bool}:R2D K (rI0 fun i j=>.bl (g i j)) (.int i) (.int j) (.bl (g i j)):=fun x y H S Q rx ry dm k=>⟨i,j,rx.aX,ry.aX,k _ H Ext.refl (.bl _)⟩
theorem zp (ha:DE X ρ a (.int i)) (hb:DE X ρ b (.int j)):DE X ρ (.BinOp a .Add b pos) (.int (i+j)):=dz AO Bl ha hb
theorem zK (ha:DE X ρ a (.int i)) (hb:DE X ρ b (.int j)):DE X ρ (.BinOp a .Sub b pos) (.int (i - j)):=dz AX Bo ha hb
theorem zC (h:iF i j) (ha:DE X ρ a (.int i)) (hb:DE X ρ b (.int j)):DE X ρ (.BinOp a .Mult b pos) (.int (i*j)):=dz AV (Bn h) ha hb
theorem zA (h:0<j) (ha:DE X ρ a (.int i)) (hb:DE X ρ b (.int j)):DE X ρ (.BinOp a .Mod b pos) (.int (i%j)):=dz AU (Bm h) ha hb
theorem wW (h:pb i j) (ha:DE X ρ a (.int i)) (hb:DE X ρ b (.int j)):DE X ρ (.BinOp a .FloorDiv b pos) (.int (i / j)):=dz ya (yG h) ha hb
noncomputable def flat:D->Option V
 |.non=>some .non|.bl b=>some (.bl b)|.int i=>some (.int i)|.str x=>some (.str x)
 |_=>none
theorem jl {K:PySem.W.Frag} {H:Hp} {S:Ad} {d:D} {u v:V} (h:flat d=some u) (r:Rds K H S d v):v=u:=by
 cases r<;>(simp only [flat] at h;first|(cases h;rfl)|cases h)
theorem CH {K:PySem.W.Frag} {u v:V} (ha:flat da=some u) (hb:flat db=some v) (hs:qu u v=true):R2D K rEq da db (.bl (decide (u=v))):=fun x y H S Q rx ry dm k=>by
 rw [jl ha rx,jl hb ry];exact ⟨hs,k _ H Ext.refl (.bl _)⟩
theorem CI {K:PySem.W.Frag} {u v:V} (ha:flat da=some u) (hb:flat db=some v) (hs:qu u v=true):R2D K rNe da db (.bl (!decide (u=v))):=fun x y H S Q rx ry dm k=>by
 rw [jl ha rx,jl hb ry];exact ⟨hs,k _ H Ext.refl (.bl _)⟩
theorem zD (ha:DE X ρ a (.int i)):DE X ρ (.UnaryOp .USub a pos) (.int (-i)):=
 PE.weak (CB BL ha) fun σ H Q ⟨S,ve,k⟩=>⟨S,ve,fun v H' e r=>⟨i,r.aX,k _ H' e (.int _)⟩⟩
theorem zF {op} (h:DE X ρ a d):DE X ρ (.BoolOp op [a] pos) d:=A6 h
theorem q_ {p q:Bool} {rest:List Expr} (ha:DE X ρ a (.bl p)) (hb:p=true->DE X ρ (.BoolOp .And (b::rest) pos) (.bl q)):DE X ρ (.BoolOp .And (a::b::rest) pos) (.bl (p&&q)):=by
 cases p with
 |true=>exact PE.weak (sI ha (hb rfl)) fun σ H Q ⟨S,ve,k⟩=>⟨S,ve,fun v H' e r=>⟨true,r.blV,by refine eS ?_;exact ⟨S,ve.ext e,fun v' H'' e' r'=>k v' H'' (e.trans e') r'⟩⟩⟩
 |false=>
  have hn:PE X (.BoolOp .And (b::rest) pos) (fun _ _ _=>False):=fun _ _ _ _ _ _ z=>z.elim;exact PE.weak (sI ha hn) fun σ H Q ⟨S,ve,k⟩=>⟨S,ve,fun v H' e r=>⟨false,r.blV,by refine fP ?_;exact k _ H' e (.bl _)⟩⟩
theorem vL {p q:Bool} {rest:List Expr} (ha:DE X ρ a (.bl p)) (hb:p=false->DE X ρ (.BoolOp .Or (b::rest) pos) (.bl q)):DE X ρ (.BoolOp .Or (a::b::rest) pos) (.bl (p||q)):=by
 cases p with
 |false=>exact PE.weak (wa ha (hb rfl)) fun σ H Q ⟨S,ve,k⟩=>⟨S,ve,fun v H' e r=>⟨false,r.blV,by refine fP ?_;exact ⟨S,ve.ext e,fun v' H'' e' r'=>k v' H'' (e.trans e') r'⟩⟩⟩
 |true=>
  have hn:PE X (.BoolOp .Or (b::rest) pos) (fun _ _ _=>False):=fun _ _ _ _ _ _ z=>z.elim;exact PE.weak (wa ha hn) fun σ H Q ⟨S,ve,k⟩=>⟨S,ve,fun v H' e r=>⟨true,r.blV,by refine eS ?_;exact k _ H' e (.bl _)⟩⟩
theorem zE (ha:DE X ρ a (.bl p)):DE X ρ (.UnaryOp .Not a pos) (.bl (!p)):=PE.weak (A5 ha) fun σ H Q ⟨S,ve,k⟩=>⟨S,ve,fun v H' e r=>⟨p,r.blV,k _ H' e (.bl _)⟩⟩
theorem zT (ha:DT X ρ a p):DT X ρ (.UnaryOp .Not a pos) (!p):=PT.weak (Bh ha) fun σ H Q ⟨S,ve,k⟩=>⟨S,ve,fun H' e=>k H' e⟩
theorem DW.dt (h:DW X ρ e p):DT X ρ e p:=PW.pt h
theorem xG (ha:DT X ρ a p):DW X ρ (.BoolOp .And [a] pos) p:=yF ha
theorem zU (ha:DT X ρ a p):DW X ρ (.BoolOp .Or [a] pos) p:=Bk ha
theorem rK {p q:Bool} {rest:List Expr} (ha:DT X ρ a p) (hb:p=true->DW X ρ (.BoolOp .And (b::rest) pos) q):DW X ρ (.BoolOp .And (a::b::rest) pos) (p&&q):=by
 cases p with
 |true=>exact PW.weak (sU ha (hb rfl)) fun σ H Q ⟨S,ve,k⟩=>⟨S,ve,fun H' e=>by refine eS ?_;exact ⟨S,ve.ext e,fun H'' e'=>k H'' (e.trans e')⟩⟩
 |false=>
  have hn:PW X (.BoolOp .And (b::rest) pos) (fun _ _ _=>False):=fun _ _ _ _ _ _ _ z=>z.elim;exact PW.weak (sU ha hn) fun σ H Q ⟨S,ve,k⟩=>⟨S,ve,fun H' e=>by refine fP ?_;exact k H' e⟩
theorem vM {p q:Bool} {rest:List Expr} (ha:DT X ρ a p) (hb:p=false->DW X ρ (.BoolOp .Or (b::rest) pos) q):DW X ρ (.BoolOp .Or (a::b::rest) pos) (p||q):=by
 cases p with
 |false=>exact PW.weak (we ha (hb rfl)) fun σ H Q ⟨S,ve,k⟩=>⟨S,ve,fun H' e=>by refine fP ?_;exact ⟨S,ve.ext e,fun H'' e'=>k H'' (e.trans e')⟩⟩
 |true=>
  have hn:PW X (.BoolOp .Or (b::rest) pos) (fun _ _ _=>False):=fun _ _ _ _ _ _ _ z=>z.elim;exact PW.weak (we ha hn) fun σ H Q ⟨S,ve,k⟩=>⟨S,ve,fun H' e=>by refine eS ?_;exact k H' e⟩
theorem vK (hc:DT X ρ c p) (ha:p=true->DE X ρ a d) (hb:p=false->DE X ρ b d):DE X ρ (.IfExp c a b pos) d:=by
 have hn:∀e:Expr,PE X e (fun _ _ _=>False):=fun _ _ _ _ _ _ _ z=>z.elim;cases p with
 |true=>exact PE.weak (mX hc (ha rfl) (hn b)) fun σ H Q ⟨S,ve,k⟩=>⟨S,ve,fun H' e=>by refine eS ?_;exact ⟨S,ve.ext e,fun v' H'' e' r'=>k v' H'' (e.trans e') r'⟩⟩
 |false=>exact PE.weak (mX hc (hn a) (hb rfl)) fun σ H Q ⟨S,ve,k⟩=>⟨S,ve,fun H' e=>by refine fP ?_;exact ⟨S,ve.ext e,fun v' H'' e' r'=>k v' H'' (e.trans e') r'⟩⟩
variable {es:List Expr} {ds:List D}
theorem mh:DA X ρ [] []:=PA.weak sH fun σ H Q ⟨S,ve,k⟩=>k [] H Ext.refl .nil
theorem fe (ha:DE X ρ e d) (hr:DA X ρ es ds) (hs:(starEach (e::es) X.env=(false,eval e X.env)::starEach es X.env)⁻¹):DA X ρ (e::es) (d::ds):=
 PA.weak (oQ ha hr hs) fun σ H Q ⟨S,ve,k⟩=>⟨S,ve,fun v H' e r=>⟨S,ve.ext e,fun vs H'' e' rs=>k (v::vs) H'' (e.trans e') (.cons (r.ext (e'.to S)) rs)⟩⟩
theorem rj {j} (h:DA X ρ es ds) (hl:ds.length<=sizeLine):DE X ρ (.Tuple es j pos) (.tup ds):=
 PE.weak (A8 h) fun σ H Q ⟨S,ve,k⟩=>⟨S,ve,fun vs H' e rs=>⟨by rw [←rs.length];exact hl,fun p hp=>k _ _ (e.trans (Ext.new hp)) (Rds.ez (ve.ext e).dom hp rs)⟩⟩
theorem rh (h:DA X ρ es ds) (hl:ds.length<=sizeLine):DE X ρ (.List es pos) (.lst ds):=
 PE.weak (sJ h) fun σ H Q ⟨S,ve,k⟩=>⟨S,ve,fun vs H' e rs=>⟨by rw [←rs.length];exact hl,fun p hp=>k _ _ (e.trans (Ext.new hp)) (Rds.jz (ve.ext e).dom hp rs)⟩⟩
noncomputable def CD (K:PySem.W.Frag) (r:List V->Hp->VK->Prop) (ds:List D) (d:D):Prop:=∀(xs:List V) (H:Hp) (S:Ad) (Q:VK),ae K H S ds xs->Dom H S->(∀v H',aD H H'->Rds K H' S d v->Q v H')->r xs H Q
theorem qQ (h:CD X.K r ds d) (σ:St) (H:Hp) (Q:VK) (q:tD X.K ρ d σ H Q):tCB r (tDA X.K ρ ds) σ H Q:=by
 obtain ⟨S,ve,k⟩:=q;exact ⟨S,ve,fun vs H1 e1 rs=>h vs H1 S Q rs (ve.ext e1).dom fun v H' e3 r3=>k v H' (e1.trans e3) r3⟩
end
set_option autoImplicit true
set_option relaxedAutoImplicit true
noncomputable def ItD (K:PySem.W.Frag) (S:Ad) (J:It) (its:List D) (H:Hp):Prop:=
 ∀(H':Hp) (S':Ad),Ext S H H'->(∀a,S' a->S a∨H a=none)->Dom H' S'->∀i:Nat,(∀d,its[i]?=some d->J.go i H'∧∀x H'',J.yld i H' x H''->aD H' H''∧Rds K H'' S' d x)∧(its.length<=i->J.stop i H')
noncomputable def tDI (K:PySem.W.Frag) (ρ:Rho) (its:List D):TI:=fun σ H R=>∃S,VE K H S ρ σ∧∀J H',aD H H'->ItD K S J its H'->R J H'
noncomputable def DI (X:Cx) (tg:Expr) (ρ:Rho) (iter:Expr) (its:List D):Prop:=PI X tg iter (tDI X.K ρ its)
noncomputable def tG (K:PySem.W.Frag) (S:Ad) (J:It) (its:List D) (H:Hp):Prop:=
 ∀H',aD H H'->Dom H' S->∀i:Nat,(∀d,its[i]?=some d->J.go i H'∧∀x H'',J.yld i H' x H''->aD H' H''∧Rds K H'' S d x)∧(its.length<=i->J.stop i H')
noncomputable def vn (K:PySem.W.Frag) (ρ:Rho) (its:List D):TI:=fun σ H R=>∃S,VE K H S ρ σ∧∀J H',aD H H'->tG K S J its H'->R J H'
noncomputable def DI0 (X:Cx) (tg:Expr) (ρ:Rho) (iter:Expr) (its:List D):Prop:=PI X tg iter (vn X.K ρ its)
section
variable {X:Cx} {tg e:Expr} {ρ:Rho} {pos:Pos}
theorem PI.weak {wi wi':TI} (h:PI X tg e wi) (w:∀σ H R,wi' σ H R->wi σ H R):PI X tg e wi':=fun pins s σ H R I q=>h pins s σ H R I (w σ H R q)
theorem DI.dI0 (h:DI X tg ρ e its):DI0 X tg ρ e its:=PI.weak h fun σ H R ⟨S,ve,k⟩=>⟨S,ve,fun J H' ex hJ=>k J H' ex fun H'' ex' dm i=>hJ H'' S (ex'.to S) (fun a h=>.inl h) dm i⟩
theorem ae.later {K:PySem.W.Frag} {S S':Ad} {H H':Hp} {xs:List D} {vs:List V} (r:ae K H S xs vs) (e:Ext S H H') (h:∀a,S' a->S a∨H a=none):ae K H' S' xs vs:=
 ((r.av (S':=fun a=>S a∨S' a) fun a z=>z.elim .inl (h a)).ext fun a o n q=>e a o (fun z=>n (.inl z)) q).av fun a z=>.inl (.inr z)
theorem Rds.kX {K:PySem.W.Frag} {S:Ad} {H:Hp} {xs:List D} {v:V} (r:Rds K H S (.lst xs) v):∃a vs,v=.ref a∧∀(H':Hp) (S':Ad),Ext S H H'->(∀a,S' a->S a∨H a=none)->SqL K H' a vs∧ae K H' S' xs vs:=by
 cases r with
 |lst h n r=>exact ⟨_,_,rfl,fun H' S' e z=>⟨.inl (CT.Rd.ext e n h),r.later e z⟩⟩
 |lstK h r=>exact ⟨_,_,rfl,fun H' S' e z=>⟨.inr h,r.later e z⟩⟩
theorem Rds.kY {K:PySem.W.Frag} {S:Ad} {H:Hp} {xs:List D} {v:V} (r:Rds K H S (.tup xs) v):∃a vs,v=.ref a∧∀(H':Hp) (S':Ad),Ext S H H'->(∀a,S' a->S a∨H a=none)->SqT K H' a vs∧ae K H' S' xs vs:=by
 cases r with
 |tup h n r=>exact ⟨_,_,rfl,fun H' S' e z=>⟨.inl (.inl (e _ _ n h)),r.later e z⟩⟩
theorem xM {K:PySem.W.Frag} {S:Ad} {H:Hp} {xs:List D} {a:Addr} {vs:List V} (h:∀(H':Hp) (S':Ad),Ext S H H'->(∀a,S' a->S a∨H a=none)->SqL K H' a vs∧ae K H' S' xs vs):ItD K S (Itl K a) xs H:=by
 intro H' S' e z dm i;obtain ⟨sq,rl⟩:=h H' S' e z;refine ⟨fun d hd=>?_,fun hi=>⟨vs,sq,by rw [←rl.length];exact hi⟩⟩;obtain ⟨v,hv,r⟩:=rl.get hd;refine ⟨⟨vs,v,sq,hv⟩,fun x H'' y=>?_⟩;obtain ⟨e2,y⟩:=y;subst e2;have hx:=y vs sq;rw [hv] at hx;cases hx;exact ⟨Ext.refl,r⟩
theorem xO {K:PySem.W.Frag} {S:Ad} {H:Hp} {xs:List D} {a:Addr} {vs:List V} (h:∀(H':Hp) (S':Ad),Ext S H H'->(∀a,S' a->S a∨H a=none)->SqT K H' a vs∧ae K H' S' xs vs):ItD K S (Itt K a) xs H:=by
 intro H' S' e z dm i;obtain ⟨sq,rl⟩:=h H' S' e z;refine ⟨fun d hd=>?_,fun hi=>⟨vs,sq,by rw [←rl.length];exact hi⟩⟩;obtain ⟨v,hv,r⟩:=rl.get hd;refine ⟨⟨vs,v,sq,hv⟩,fun x H'' y=>?_⟩;obtain ⟨e2,y⟩:=y;subst e2;have hx:=y vs sq;rw [hv] at hx;cases hx;exact ⟨Ext.refl,r⟩
theorem rB {xs:List D} (h:DE X ρ e (.lst xs)):DI X tg ρ e xs:=PI.weak (yq h) fun σ H R ⟨S,ve,k⟩=>⟨S,ve,fun v H' ex r=>by
 obtain ⟨a,vs,rfl,l⟩:=r.kX;exact ⟨a,rfl,⟨vs,(l H' S Ext.refl fun a h=>.inl h).1⟩,k _ H' ex (xM l)⟩⟩
theorem rE {xs:List D} (h:DE X ρ e (.tup xs)):DI X tg ρ e xs:=PI.weak (Ba h) fun σ H R ⟨S,ve,k⟩=>⟨S,ve,fun v H' ex r=>by
 obtain ⟨a,vs,rfl,l⟩:=r.kY;exact ⟨a,rfl,⟨vs,(l H' S Ext.refl fun a h=>.inl h).1⟩,k _ H' ex (xO l)⟩⟩
noncomputable def i9 (n:Nat):List D:=(List.range n).map fun k:Nat=>D.int (k:Int)
theorem xN {K:PySem.W.Frag} {S:Ad} {H:Hp} {n:Nat}:ItD K S (Itr 0 n) (i9 n) H:=by
 intro H' S' e z dm i;refine ⟨fun d hd=>?_,fun hi=>show n<=i by simpa [i9] using hi⟩;have hi:i<n:=by
  have:=(Eu.mp hd).1;simpa [i9] using this
 refine ⟨hi,fun x H'' y=>?_⟩;obtain ⟨e2,e3⟩:=y;subst e2 e3;have hd':d=.int (i:Int):=by
  rw [i9,List.getElem?_map,List.getElem?_range hi] at hd;exact (EL hd).symm
 subst hd';rw [Int.zero_add];exact ⟨Ext.refl,.int _⟩
theorem uj (hg:Gl X "range") (hm:X.mg "range"=none) (ha:DA X ρ [a] [.int j]) (h1: -(2^62)<=j) (h2:j<2^62) (hs:(starEach [a] X.env=[(false,eval a X.env)])⁻¹):DI X tg ρ (.Call (.Name "range" p) [a] [] pos) (i9 j.toNat):=
 PI.weak (sL hg hm ha hs) fun σ H R ⟨S,ve,k⟩=>⟨S,ve,fun vs H' ex rs=>by
  obtain ⟨v,rfl,r⟩:=rs.one;rw [r.aX];exact ⟨j,rfl,h1,h2,k _ H' ex xN⟩⟩
inductive Sq:D->List D->Prop
 |lst (xs:List D):Sq (.lst xs) xs
 |tup (xs:List D):Sq (.tup xs) xs
theorem Sq.later {K:PySem.W.Frag} {S:Ad} {H:Hp} {d:D} {xs:List D} {v:V} (q:Sq d xs) (r:Rds K H S d v):∃b a vs,v=.ref a∧∀(H':Hp) (S':Ad),Ext S H H'->(∀a,S' a->S a∨H a=none)->SqB K H' b a vs∧ae K H' S' xs vs:=by
 cases q with
 |lst=>obtain ⟨a,vs,e,l⟩:=r.kX;exact ⟨false,a,vs,e,l⟩
 |tup=>obtain ⟨a,vs,e,l⟩:=r.kY;exact ⟨true,a,vs,e,l⟩
end
section
variable {K:PySem.W.Frag} {H H':Hp} {S:Ad} {i:Nat}
theorem ny:∀{das:List D} {dss:List (List D)} {vs:List V},Paired Sq das dss->ae K H S das vs->∃bs:List (Bool×Addr),vs=bs.map (fun c=>V.ref c.2)∧∀(H':Hp) (S':Ad),Ext S H H'->(∀a,S' a->S a∨H a=none)->Paired (fun c xs=>∃us,SqB K H' c.1 c.2 us∧ae K H' S' xs us) bs dss
 |_,_,_,.nil,.nil=>⟨[],rfl,fun _ _ _ _=>.nil⟩
 |_,_,_,.cons q t,.cons r rt=>by
  obtain ⟨b,a,us,rfl,l⟩:=q.later r;obtain ⟨bs,rfl,lt⟩:=ny t rt;exact ⟨(b,a)::bs,rfl,fun H' S' e z=>.cons ⟨us,l H' S' e z⟩ (lt H' S' e z)⟩
theorem tF:∀{bs:List (Bool×Addr)} {dss:List (List D)} {ds:List D},Paired (fun c xs=>∃us,SqB K H c.1 c.2 us∧ae K H S xs us) bs dss->Paired (fun xs x=>xs[i]?=some x) dss ds->∀c∈bs,∃xs x,SqB K H c.1 c.2 xs∧xs[i]?=some x
 |_,_,_,.cons h t,.cons q qt,c,hc=>by
  rcases Er.mp hc with rfl|hc
  ·obtain ⟨us,s,r⟩:=h;obtain ⟨x,hx,_⟩:=r.get q;exact ⟨us,x,s,hx⟩
  ·exact tF t qt c hc
theorem o_:∀{bs:List (Bool×Addr)} {dss:List (List D)} {ds:List D} {ys:List V},Paired (fun c xs=>∃us,SqB K H c.1 c.2 us∧ae K H S xs us) bs dss->Paired (fun xs x=>xs[i]?=some x) dss ds->Paired (fun c y=>∀xs,SqB K H c.1 c.2 xs->xs[i]?=some y) bs ys->ae K H S ds ys
 |_,_,_,_,.nil,.nil,.nil=>.nil
 |_,_,_,_,.cons h t,.cons q qt,.cons y yt=>by
  obtain ⟨us,s,r⟩:=h;obtain ⟨x,hx,rx⟩:=r.get q;have e:=y us s;rw [hx] at e;cases e;exact .cons rx (o_ t qt yt)
theorem gf:∀{bs:List (Bool×Addr)} {dss:List (List D)},Paired (fun c xs=>∃us,SqB K H c.1 c.2 us∧ae K H S xs us) bs dss->(∀c∈bs,∃xs,SqB K H c.1 c.2 xs)∧((∃xs∈dss,xs.length<=i)->∃c∈bs,∃xs,SqB K H c.1 c.2 xs∧xs.length<=i)
 |_,_,.nil=>⟨(fun c hc=>nomatch hc),fun h=>by obtain ⟨_,z,_⟩:=h;cases z⟩
 |_,_,.cons h t=>by
  obtain ⟨us,s,r⟩:=h;obtain ⟨h1,h2⟩:=gf t;refine ⟨fun c hc=>?_,fun h=>?_⟩
  ·rcases Er.mp hc with rfl|hc
   ·exact ⟨us,s⟩
   ·exact h1 c hc
  ·obtain ⟨xs,hm,hx⟩:=h;rcases Er.mp hm with rfl|hm
   ·exact ⟨_,Eo,us,s,by rw [←r.length];exact hx⟩
   ·obtain ⟨c,hc,q⟩:=h2 ⟨xs,hm,hx⟩;exact ⟨c,En _ hc,q⟩
end
theorem Paired.len {α β:Type} {F:α->β->Prop} {l:List α} {r:List β} (h:Paired F l r):l.length=r.length:=Paired.length h
theorem rF {X:Cx} {ρ:Rho} {elts:List Expr} {tpos:Pos} {e:Expr} {es:List Expr} {das its:List D} {dss:List (List D)} {k} {p pos:Pos} (hg:Gl X "zip") (hm:X.mg "zip"=none) (ha:DA X ρ (e::es) das) (hq:Paired Sq das dss) (hl:dss.length=2∨dss.length=3)
  (hs:starEach (e::es) X.env=(false,eval e X.env)::starEach es X.env) (hp:(backTo pos (starEach es X.env)).any (·.1)=false)
  (hget:∀(i:Nat) d,its[i]?=some d->∃ds,d=.tup ds∧Paired (fun (xs:List D) x=>xs[i]?=some x) dss ds) (hlen:∀i,its.length<=i->∃xs∈dss,xs.length<=i):DI X (.Tuple elts k tpos) ρ (.Call (.Name "zip" p) (e::es) [] pos) its:=
 PI.weak (Bb hg hm ha hs hp) fun σ H R zz=>by
  obtain ⟨S,ve,kk⟩:=zz;refine ⟨S,ve,fun vs H' ex rs=>?_⟩;obtain ⟨bs,rfl,l⟩:=ny hq rs;have l0:=l H' S Ext.refl fun a h=>.inl h;refine ⟨bs,rfl,by rw [Paired.len l0];exact hl,(gf (i:=0) l0).1,kk _ H' ex fun H2 S2 e2 z2 dm i=>?_⟩;have l2:=l H2 S2 e2 z2;refine ⟨fun d hd=>?_,fun hi=>⟨(gf (i:=i) l2).1,(gf l2).2 (hlen i hi)⟩⟩;obtain ⟨ds,rfl,hds⟩:=hget i d hd;refine ⟨tF l2 hds,fun z H3 yl=>?_⟩;obtain ⟨T,ys,hT,rfl,rfl,hy⟩:=yl;exact ⟨Ext.new hT,Rds.ez dm hT (o_ l2 hds hy)⟩
section
variable {X:Cx} {tg e:Expr} {ρ:Rho} {pos:Pos}
noncomputable def cg:List D->List D->List D
 |x::xs,y::ys=>.tup [x,y]::cg xs ys
 |_,_=>[]
theorem nG:∀{xs ys:List D} {i:Nat} {d:D},(cg xs ys)[i]?=some d->∃x y,xs[i]?=some x∧ys[i]?=some y∧d=.tup [x,y]
 |x::xs,y::ys,0,d,h=>by
  simp [cg] at h;exact ⟨x,y,rfl,rfl,h.symm⟩
 |x::xs,y::ys,i+1,d,h=>by
  simp [cg] at h;obtain ⟨x',y',h1,h2,h3⟩:=nG h;exact ⟨x',y',by simpa using h1,by simpa using h2,h3⟩
 |[],_,_,_,h=>by simp [cg] at h
 |_::_,[],_,_,h=>by simp [cg] at h
theorem nH:∀{xs ys:List D},(cg xs ys).length=min xs.length ys.length
 |x::xs,y::ys=>by simp [cg,nH]
 |[],_=>by simp [cg]
 |_::_,[]=>by simp [cg]
theorem xn {a b:Expr} {da db:D} {xs ys:List D} {elts:List Expr} {k} {tpos p:Pos} (hg:Gl X "zip") (hm:X.mg "zip"=none) (qa:Sq da xs) (qb:Sq db ys) (ha:DA X ρ [a,b] [da,db])
  (hs:(starEach [a,b] X.env=[(false,eval a X.env),(false,eval b X.env)])⁻¹) (hs2:(starEach [b] X.env=[(false,eval b X.env)])⁻¹):DI X (.Tuple elts k tpos) ρ (.Call (.Name "zip" p) [a,b] [] pos) (cg xs ys):=
 rF hg hm ha (.cons qa (.cons qb .nil)) (.inl rfl) (by rw [hs,hs2]) (by rw [hs2];rfl) (fun i d h=>by obtain ⟨x,y,hx,hy,rfl⟩:=nG h;exact ⟨_,rfl,.cons hx (.cons hy .nil)⟩) fun i h=>by
  rw [nH] at h
  by_cases z:xs.length<=i
  ·exact ⟨xs,by simp,z⟩
  ·exact ⟨ys,by simp,by omega⟩
end
noncomputable def Chg (ks:List Nat) (σ σ':St):Prop:=σ'.length=σ.length∧∀i:Nat,i∉ks->σ'[i]?=σ[i]?
theorem Chg.fgt (c:Chg ks σ σ') (h:∀k∈ks,σ[k]?=some none):Fgt σ σ':=⟨c.1.symm,fun i v e=>by
 by_cases hi:i∈ks
 ·rw [h i hi] at e;cases e
 ·rw [c.2 i hi];exact e⟩
theorem Chg.trans (a:Chg ks σ σ') (b:Chg ls σ' σ''):Chg (ks++ls) σ σ'':=⟨b.1.trans a.1,fun i hi=>by
 rw [Ep,not_or] at hi;exact (b.2 i hi.2).trans (a.2 i hi.1)⟩
noncomputable def tDG (K:PySem.W.Frag) (ρ:Rho) (d:D) (ρ':Rho) (ks:List Nat):TG:=fun v σ H Q=>∃S,VE K H S ρ σ∧Rds K H S d v∧∀σ',VE K H S ρ' σ'->Chg ks σ σ'->Q σ' H
noncomputable def D8 (K:PySem.W.Frag) (ρ:Rho) (ds:List D) (ρ':Rho) (ks:List Nat):TGs:=fun vs σ H Q=>∃S,VE K H S ρ σ∧ae K H S ds vs∧∀σ',VE K H S ρ' σ'->Chg ks σ σ'->Q σ' H
noncomputable def DG (X:Cx) (tg:Expr) (ρ:Rho) (d:D) (ρ':Rho) (ks:List Nat):Prop:=PG X tg (tDG X.K ρ d ρ' ks)
noncomputable def DGs (X:Cx) (tgs:List Expr) (ρ:Rho) (ds:List D) (ρ':Rho) (ks:List Nat):Prop:=PGs X tgs (D8 X.K ρ ds ρ' ks)
section
variable {X:Cx} {ρ ρ' ρ'':Rho} {d:D} {ds:List D} {ks ls:List Nat} {pos:Pos} {tg:Expr} {tgs:List Expr}
theorem PG.weak {g g':TG} (h:PG X tg g) (w:∀v σ H Q,g' v σ H Q->g v σ H Q):PG X tg g':=fun pins s σ H v u Q I r q=>h pins s σ H v u Q I r (w v σ H Q q)
theorem PGs.weak {g g':TGs} (h:PGs X tgs g) (w:∀v σ H Q,g' v σ H Q->g v σ H Q):PGs X tgs g':=fun pins s σ H v u Q I r q=>h pins s σ H v u Q I r (w v σ H Q q)
theorem xk (hN:X.N.Nodup) (hi:X.N[k]?=some x) (hx:Loc X.env.scope x) (hf:X.fn x=true∨X.env.scope.names.lookup x=some .local:=by first|exact .inl rfl|exact .inr rfl|assumption):DG X (.Name x pos) ρ d (ρ.set k (.val d)) [k]:=
 PG.weak (yn hN hi hx hf) fun v σ H Q ⟨S,ve,r,q⟩=>q _ (ve.set r) ⟨by simp,fun i hi=>by
  rw [Ex];intro z;exact hi (by simp [z])⟩
theorem xl:DGs X [] ρ [] ρ []:=PGs.weak yo fun vs σ H Q ⟨S,ve,r,q⟩=>⟨by cases r;rfl,q σ ve ⟨rfl,fun _ _=>rfl⟩⟩
theorem ui (h1:DG X tg ρ d ρ' ks) (h2:DGs X tgs ρ' ds ρ'' ls) (hs:((assignEach (tg::tgs) X.env).map (·.2)=assign tg X.env::(assignEach tgs X.env).map (·.2))⁻¹):DGs X (tg::tgs) ρ (d::ds) ρ'' (ks++ls):=
 PGs.weak (uX h1 h2 hs) fun vs σ H Q ⟨S,ve,r,q⟩=>by
  cases r with
  |cons r1 r2=>exact ⟨_,_,rfl,S,ve,r1,fun σ' ve' c=>⟨S,ve',r2,fun σ'' ve'' c'=>q σ'' ve'' (c.trans c')⟩⟩
theorem zO {k} (hc:X.calm=true) (h:DGs X tgs ρ ds ρ' ks) (hl:ds.length=n) (hn:((assignEach tgs X.env).length=n)⁻¹) (hst:((assignEach tgs X.env).findIdx? (·.1)=none)⁻¹):DG X (.Tuple tgs k pos) ρ (.tup ds) ρ' ks:=
 PG.weak (A9 hc h hn hst) fun v σ H Q ⟨S,ve,r,q⟩=>by
  obtain ⟨a,vs,rfl,ha,rl⟩:=r.cf;exact ⟨a,vs,rfl,.inl (.inl ha),by rw [←rl.length];exact hl,S,ve,rl,q⟩
end
noncomputable def tDB (K:PySem.W.Frag) (ρ:Rho) (out:List D):TB:=fun σ H ys Q=>∃S,VE K H S ρ σ∧ys.length+out.length<=sizeLine∧∀vs H',aD H H'->ae K H' S out vs->Q (ys++vs) H'
noncomputable def DB (Y:Cx) (acc:Addr) (m:Sem Unit) (ρ:Rho) (out:List D):Prop:=PB Y acc m (tDB Y.K ρ out)
noncomputable def DTs (Y:Cx) (ρ:Rho) (ifs:List Expr) (b:Bool):Prop:=PTs Y ifs (tDT Y.K ρ b)
theorem PB.weak {Y:Cx} {acc:Addr} {m:Sem Unit} {t t':TB} (h:PB Y acc m t) (w:∀σ H ys Q,t' σ H ys Q->t σ H ys Q):PB Y acc m t':=fun pins s σ H ys Q I f a q=>h pins s σ H ys Q I f a (w σ H ys Q q)
theorem PTs.weak {Y:Cx} {ifs:List Expr} {t t':TT} (h:PTs Y ifs t) (w:∀σ H Q,t' σ H Q->t σ H Q):PTs Y ifs t':=fun pins s σ H Q I q=>h pins s σ H Q I (w σ H Q q)
section
variable {Y:Cx} {acc:Addr} {ρ:Rho} {d:D}
theorem xE:DTs Y ρ [] true:=PTs.weak kj fun σ H Q ⟨S,ve,k⟩=>k H Ext.refl
theorem xF (h:DT Y ρ c b):DTs Y ρ [c] b:=yE h
theorem wN (he:DE Y ρ elt d):DB Y acc (do let _←call (.builtin "list.append") [.ref acc,←eval elt Y.env]) ρ [d]:=
 PB.weak (ye he) fun σ H ys Q ⟨S,ve,hl,k⟩=>⟨EE (Nat.le_add_right _ _) hl,S,ve,fun v H' e r=>k [v] H' e (.cons r .nil)⟩
noncomputable def pj (G:Rho->D->Rho->List Nat->Prop) (T:Rho->Bool->Prop) (B:Rho->List D->Prop) (ρ:Rho) (ks:List Nat) (d:D) (out:List D):Prop:=
 ∃ρ' b,G ρ d ρ' ks∧T ρ' b∧(b=true->B ρ' out)∧(b=false->out=[])
noncomputable def gA (K:PySem.W.Frag) (G:Rho->D->Rho->List Nat->Prop):TG:=fun v σ H Q=>∃ρ d ρ' ks,G ρ d ρ' ks∧tDG K ρ d ρ' ks v σ H Q
noncomputable def ttA (K:PySem.W.Frag) (T:Rho->Bool->Prop):TT:=fun σ H Q=>∃ρ b,T ρ b∧tDT K ρ b σ H Q
noncomputable def tbA (K:PySem.W.Frag) (B:Rho->List D->Prop):TB:=fun σ H ys Q=>∃ρ out,B ρ out∧tDB K ρ out σ H ys Q
theorem qp (h:∀ρ d ρ' ks,G ρ d ρ' ks->DG Y tg ρ d ρ' ks):PG Y tg (gA Y.K G):=fun pins s σ H v u Q I r ⟨_,_,_,_,g,q⟩=>h _ _ _ _ g pins s σ H v u Q I r q
theorem wc (h:∀ρ b,T ρ b->DTs Y ρ ifs b):PTs Y ifs (ttA Y.K T):=fun pins s σ H Q I ⟨_,_,g,q⟩=>h _ _ g pins s σ H Q I q
theorem AZ (h:∀ρ out,B ρ out->DB Y acc m ρ out):PB Y acc m (tbA Y.K B):=fun pins s σ H ys Q I f a ⟨_,_,g,q⟩=>h _ _ g pins s σ H ys Q I f a q
theorem mD {outs:List (List D)} {i:Nat} (h:i<outs.length):(outs.take (i+1)).flatten=(outs.take i).flatten++outs[i]:=by
 rw [List.take_succ_eq_append_getElem h,List.flatten_append];simp
theorem sg {K:PySem.W.Frag} {G:Rho->D->Rho->List Nat->Prop} {T:Rho->Bool->Prop} {B:Rho->List D->Prop} {ks:List Nat} {J:It} {its:List D} {outs:List (List D)} (hks:∀k∈ks,ρ[k]?=some .nil) (hl:its.length=outs.length)
  (ht:∀(i:Nat) d out,its[i]?=some d->outs[i]?=some out->pj G T B ρ ks d out) {σ:St} {H:Hp} {S:Ad} {ys:List V} {Q:List V->Hp->Prop} (ve:VE K H S ρ σ) (hJ:tG K S J its H) (hz:ys.length+outs.flatten.length<=sizeLine)
  (q:∀vs H',aD H H'->ae K H' S outs.flatten vs->Q (ys++vs) H'):f9 (gA K G) (ttA K T) (tbA K B) J σ H ys Q:=by
 refine ⟨fun i n ys' H'=>n=its.length - i∧i<=its.length∧aD H H'∧∃vs,ys'=ys++vs∧ae K H' S (outs.take i).flatten vs,⟨its.length,by simp,Nat.zero_le _,Ext.refl,[],by simp,by simpa using ae.nil⟩,?_⟩;rintro i n ys' H' ⟨rfl,hi,ex,vs,rfl,rv⟩;have dm:=(ve.ext ex).dom;obtain ⟨J1,J2⟩:=hJ H' ex dm i
 by_cases hlt:i<its.length
 ·have hlo:i<outs.length:=hl▸hlt;have hd:its[i]?=some its[i]:=by simp [hlt]
  have ho:outs[i]?=some outs[i]:=by simp [hlo]
  obtain ⟨go,yld⟩:=J1 _ hd;obtain ⟨ρ',b,hg,hts,hb1,hb2⟩:=ht i _ _ hd ho;have step:=mD hlo;have lenO:(outs.take i).flatten.length+outs[i].length<=outs.flatten.length:=by
   have e:outs.flatten=(outs.take (i+1)).flatten++(outs.drop (i+1)).flatten:=by rw [←List.flatten_append,List.take_append_drop]
   rw [e,step,Ey,Ey];omega
  refine .inr ⟨go,fun x H1 y=>?_⟩;obtain ⟨e1,r1⟩:=yld x H1 y;have ve1:=(ve.ext ex).ext e1;refine ⟨ρ,its[i],ρ',ks,hg,S,ve1,r1,fun σ2 ve2 c=>⟨c.fgt fun k hk=>ve.unset (hks k hk),ρ',b,hts,S,ve2,fun H2 e2=>?_⟩⟩;cases b with
  |true=>
   refine eS ⟨ρ',_,hb1 rfl,S,ve2.ext e2,?_,fun us H3 e3 ru=>⟨its.length - (i+1),by omega,rfl,hlt,ex.trans (e1.trans (e2.trans e3)),vs++us,by rw [EB],?_⟩⟩
   ·rw [Ey,←rv.length];omega
   ·rw [step];exact ae.app (rv.ext ((e1.trans (e2.trans e3)).to S)) ru
  |false=>
   refine fP ⟨its.length - (i+1),by omega,rfl,hlt,ex.trans (e1.trans e2),vs,rfl,?_⟩;rw [step,hb2 rfl,List.append_nil];exact rv.ext ((e1.trans e2).to S)
 ·have e:i=its.length:=by omega
  subst e;refine .inl ⟨J2 (EG _),q vs H' ex ?_⟩;rw [hl,List.take_length] at rv;exact rv
theorem wO {elt:Expr} {gens:List Comprehension} {scope:Scope} {pos:Pos} {n:Nat} {tg iter:Expr} {ifs:List Expr} {ks:List Nat} {its:List D} {outs:List (List D)} (hg:gens[n+1]?=some ⟨tg,iter,ifs,0⟩) (hc:Y.calm=true) (hx:∀e s,Y.xe e s->False)
  (hi:DI0 Y tg ρ iter its) (hks:∀k∈ks,ρ[k]?=some .nil) (hl:its.length=outs.length)
  (ht:∀(i:Nat) d out,its[i]?=some d->outs[i]?=some out->pj (DG Y tg) (fun ρ b=>DTs Y ρ ifs b) (DB Y acc (aW elt gens scope pos (n+1) (.ref acc) Y.env)) ρ ks d out)
  (hs:∀x,foldedSetIterable iter Y.env x=pure x:=by intro _;rfl):DB Y acc (aW elt gens scope pos n (.ref acc) Y.env) ρ outs.flatten:=
 PB.weak (yf hg hc hx hi (qp fun _ _ _ _ h=>h) (wc fun _ _ h=>h) (AZ fun _ _ h=>h) hs) fun σ H ys Q ⟨S,ve,hz,k⟩=>⟨S,ve,fun J H' e hJ=>sg hks hl ht (ve.ext e) hJ hz fun vs H'' e' r=>k vs H'' (e.trans e') r⟩
end
noncomputable def bZ:Option Sl->Sl
 |some (.val d)=>.val d
 |some .nil=>.nil
 |_=>.any
noncomputable def cR (own:List Str) (cap:List (Str×Nat)) (ρ:Rho):Rho:=own.map (fun _=>.nil)++cap.map fun p=>bZ ρ[p.2]?
theorem tU:¬(bZ o).dh:=by
 unfold bZ
 split<;>exact fun h=>h
theorem VE.cap {K:PySem.W.Frag} {H:Hp} {S:Ad} {ρ:Rho} {σ:St} {own:List Str} {cap:List (Str×Nat)} (ve:VE K H S ρ σ):VE K H S (cR own cap ρ) (cS own cap σ):=by
 have nown:∀(i:Nat) (x:Sl),(cR own cap ρ)[i]?=some x->¬x.dh:=fun i x h o=>by
  have hm:=List.mem_of_getElem? h;unfold cR at hm;rcases Ep.mp hm with hm|hm
  ·obtain ⟨y,_,e⟩:=Es.mp hm;rw [←e] at o;exact o
  ·obtain ⟨p,_,e⟩:=Es.mp hm;rw [←e] at o;exact tU o
 refine ⟨by simp [cR,cS],fun i x h=>?_,fun i j x y a _ h _ o=>absurd o (nown i x h),ve.dom⟩;unfold cR at h;unfold cS
 by_cases hi:i<own.length
 ·rw [List.getElem?_append_left (by simpa using hi),List.getElem?_map] at h;rw [List.getElem?_append_left (by simpa using hi),List.getElem?_map];cases hq:own[i]? with
  |none=>rw [hq] at h;cases h
  |some y=>rw [hq] at h;cases h;exact ⟨none,rfl,rfl⟩
 ·have hi':own.length<=i:=Nat.le_of_not_lt hi;rw [List.getElem?_append_right (by simpa using hi'),List.getElem?_map,Ez] at h;rw [List.getElem?_append_right (by simpa using hi'),List.getElem?_map,Ez];cases hq:cap[i - own.length]? with
  |none=>rw [hq] at h;cases h
  |some p=>
   rw [hq] at h;have e:bZ ρ[p.2]?=x:=EL h;refine ⟨_,rfl,?_⟩;subst e;cases hr:ρ[p.2]? with
   |none=>trivial
   |some y=>
    cases y with
    |nil=>show (σ[p.2]?).join=none;rw [ve.unset hr];rfl
    |any=>trivial
    |owx xs=>trivial
    |new C x dx fs=>trivial
    |val d=>
     obtain ⟨u,hu,r⟩:=ve.get hr;exact ⟨u,by show (σ[p.2]?).join=some u;rw [hu];rfl,r⟩
section
variable {X:Cx} {scope:Scope} {own:List Str} {cap:List (Str×Nat)} {ρ:Rho} {elt tg iter:Expr} {ifs:List Expr} {rest:List Comprehension} {pos:Pos} {ks:List Nat} {its:List D} {outs:List (List D)}
structure DC (X:Cx) (ρ:Rho) (e:Expr) (ds:List D):Prop where
 pe:PE X e (fun σ H Q=>∃S,VE X.K H S ρ σ∧∀a vs H',aD H H'->H' a=none->ae X.K H' S ds vs->Q (.ref a) (upd H' a (.lst vs)))
 ps:∀(i:Nat) (x:Str) (pos' spos:Pos),X.N.Nodup->X.N[i]?=some x->Loc X.env.scope x->(X.fn x=true∨X.env.scope.names.lookup x=some .local)->swapsWith e (some (.Name x pos')) spos.line X.env=pure true->
  PS X (.Assign [.Name x pos'] e spos) (kq (fun σ H Q=>∃S,VE X.K H S ρ σ∧∀a vs H',aD H H'->H' a=none->ae X.K H' S ds vs->Q (.ref a) (upd H' a (.lst vs))) (dR i))
theorem wQ (cs:CS X scope own cap) (hc:X.calm=true) (hi:DI0 X tg ρ iter its) (hks:∀k∈ks,(cR own cap ρ)[k]?=some .nil) (hl:its.length=outs.length) (hz:outs.flatten.length<=sizeLine)
  (ht:∀(i:Nat) d out,its[i]?=some d->outs[i]?=some out->pj (fun ρ d ρ' ks=>∀p s h f,DG (cX X scope own cap p s h f) tg ρ d ρ' ks) (fun ρ b=>∀p s h f,DTs (cX X scope own cap p s h f) ρ ifs b)
   (fun ρ out=>∀p s h f acc,DB (cX X scope own cap p s h f) acc (aW elt (⟨tg,iter,ifs,0⟩::rest) scope pos 0 (.ref acc) (bL X scope s.heap.objs.size)) ρ out) (cR own cap ρ) ks d out)
  (hs:∀x,foldedSetIterable iter X.env x=pure x:=by intro _;rfl):DC X ρ (.ListComp elt (⟨tg,iter,ifs,0⟩::rest) scope pos) outs.flatten:=by
 have rd:∀(σ:St) (H:Hp) (Q:VK),(∃S,VE X.K H S ρ σ∧∀a vs H',aD H H'->H' a=none->ae X.K H' S outs.flatten vs->Q (.ref a) (upd H' a (.lst vs)))->
   qB own cap (vn X.K ρ its) (gA X.K _) (ttA X.K _) (tbA X.K _) σ H Q:=fun σ H Q ⟨S,ve,k⟩=>⟨S,ve,fun J H1 e1 hJ=>sg hks hl ht (ve.ext e1).cap hJ (by simpa using hz) fun vs H2 e2 r=>⟨by rw [List.nil_append,←r.length];exact hz,fun a ha=>by
  rw [List.nil_append];exact k a vs H2 (e1.trans e2) ha r⟩⟩
 have g1:∀p s h f,PG (cX X scope own cap p s h f) tg (gA X.K (fun ρ d ρ' ks=>∀p s h f,DG (cX X scope own cap p s h f) tg ρ d ρ' ks)):=fun p s h f=>qp (Y:=cX X scope own cap p s h f) fun _ _ _ _ g=>g p s h f;have g2:∀p s h f,PTs (cX X scope own cap p s h f) ifs (ttA X.K (fun ρ b=>∀p s h f,DTs (cX X scope own cap p s h f) ρ ifs b)):=fun p s h f=>wc (Y:=cX X scope own cap p s h f) fun _ _ g=>g p s h f;have g3:∀p s h f acc,PB (cX X scope own cap p s h f) acc (aW elt (⟨tg,iter,ifs,0⟩::rest) scope pos 0 (.ref acc) (bL X scope s.heap.objs.size)) (tbA X.K (fun ρ out=>∀p s h f acc,DB (cX X scope own cap p s h f) acc (aW elt (⟨tg,iter,ifs,0⟩::rest) scope pos 0 (.ref acc) (bL X scope s.heap.objs.size)) ρ out)):=
  fun p s h f acc=>AZ (Y:=cX X scope own cap p s h f) fun _ _ g=>g p s h f acc
 refine ⟨PE.weak (yi cs hc hi g1 g2 g3 hs) rd,fun i x pos' spos hN hix hx hf hsw=>PS.weak (yx cs hc hN hix hx hi g1 g2 g3 hsw hs hf) fun D σ H q=>rd σ H _ q⟩
theorem DC.de (h:DC X ρ e ds):DE X ρ e (.lst ds):=PE.weak h.pe fun σ H Q ⟨S,ve,k⟩=>⟨S,ve,fun a vs H' e hp r=>k _ _ (e.trans (Ext.new hp)) (Rds.jz (ve.ext e).dom hp r)⟩
theorem Ah {α β:Type} {l:List α} {g:α->β} {i:Nat} {b:β} (h:(l.map g)[i]?=some b):∃a,l[i]?=some a∧g a=b:=by
 rw [List.getElem?_map] at h;cases e:l[i]? with
 |none=>rw [e] at h;cases h
 |some a=>rw [e] at h;exact ⟨a,rfl,EL h⟩
variable {α:Type} {l:List α} {f g:α->D} {x:Str} {k:Nat} {px:Pos}
end
set_option autoImplicit true
set_option relaxedAutoImplicit true
inductive Out where
 |nx (ρ:Rho)|rt (d:D)|rfx (c:Ow)
noncomputable abbrev Ad.and (S:Ad) (a:Addr):Ad:=fun b=>S b∨b=a
structure Fm (K:PySem.W.Frag) (H₀:Hp) (S₀:Ad) (H:Hp) (S:Ad) (ρ:Rho) (σ:St):Prop where
 ve:VE K H S ρ σ
 ext:aD H₀ H
 sub:∀a,S₀ a->S a
 new:∀a,S a->S₀ a∨H₀ a=none
 dm:Dom H₀ S₀
 own:∀(i:Nat) (x:Sl) (a:Addr),ρ[i]?=some x->x.dh->σ[i]?=some (some (.ref a))->H₀ a=none
noncomputable def ph (K:PySem.W.Frag) (H₀:Hp) (S₀:Ad) (E:Ends):Out->Prop
 |.nx ρ'=>∀σ' H' S',Fm K H₀ S₀ H' S' ρ' σ'->E.nx σ' H'
 |.rt d=>∀v H',aD H₀ H'->Rds K H' S₀ d v->E.rt v H'
 |.rfx c=>∀a o H',aD H₀ H'->H₀ a=none->H' a=some o->cu K H' (S₀.and a) a c o->E.rt (.ref a) H'
noncomputable def tDS (K:PySem.W.Frag) (ρ:Rho) (o:Out):TS:=fun E σ H=>∃H₀ S₀ S,Fm K H₀ S₀ H S ρ σ∧ph K H₀ S₀ E o
noncomputable def DS (X:Cx) (ρ:Rho) (st:Stmt) (o:Out):Prop:=PS X st (tDS X.K ρ o)
noncomputable def DSs (X:Cx) (ρ:Rho) (sts:List Stmt) (o:Out):Prop:=PSs X sts (tDS X.K ρ o)
noncomputable def tDF (K:PySem.W.Frag) (ρ:Rho) (xs:List D):TE:=fun σ H Q=>∃S,VE K H S ρ σ∧∀a vs H',aD H H'->H a=none->H' a=some (.lst vs)->ae K H' (S.and a) xs vs->Q (.ref a) H'
noncomputable def DF (X:Cx) (ρ:Rho) (e:Expr) (xs:List D):Prop:=PE X e (tDF X.K ρ xs)
noncomputable def nD (K:PySem.W.Frag) (ρ:Rho) (c:Ow):TE:=fun σ H Q=>∃S,VE K H S ρ σ∧∀a o H',aD H H'->H a=none->H' a=some o->cu K H' (S.and a) a c o->Q (.ref a) H'
noncomputable def DFx (X:Cx) (ρ:Rho) (e:Expr) (c:Ow):Prop:=PE X e (nD X.K ρ c)
section
variable {K:PySem.W.Frag} {H₀ H H':Hp} {S₀ S:Ad} {ρ:Rho} {σ:St}
theorem Ext.back (e:aD H H') (h:H' a=none):H a=none:=by
 cases q:H a with
 |none=>rfl
 |some o=>rw [e a o (fun z=>z) q] at h;cases h
theorem Fm.grow (f:Fm K H₀ S₀ H S ρ σ) (e:aD H H'):Fm K H₀ S₀ H' S ρ σ:=⟨f.ve.ext e,f.ext.trans e,f.sub,f.new,f.dm,f.own⟩
theorem Fm.set (f:Fm K H₀ S₀ H S ρ σ) (r:Rds K H S d u):Fm K H₀ S₀ H S (ρ.set i (.val d)) (σ.set i (some u)):=⟨f.ve.set r,f.ext,f.sub,f.new,f.dm,fun j x a h o h2=>by
 by_cases hj:i=j
 ·subst hj;have hi:=(Eu.mp h).1;rw [Ew (by simpa using hi)] at h;cases h;exact o.elim
 ·rw [Ex hj] at h h2;exact f.own j x a h o h2⟩
theorem Fm.out (f:Fm K H₀ S₀ H S ρ σ) (r:Rds K H S d v):Rds K H S₀ d v:=r.av fun a h=>.inl (f.sub a h)
theorem RO.av (e:∀a,S' a->S a∨H a=none) (up:∀a,v=some (.ref a)->S a->S' a) (r:RO K H S x v):RO K H S' x v:=by
 cases x with
 |nil=>exact r
 |any=>trivial
 |val d=>obtain ⟨u,h,r⟩:=r;exact ⟨u,h,r.av e⟩
 |owx c=>obtain ⟨a,vs,h,s,o,r⟩:=r;exact ⟨a,vs,h,up a h s,o,r.av e⟩
 |new C x dx fs=>obtain ⟨gs,h,s,o,r⟩:=r;exact ⟨gs,h,up _ h s,o,r.av e⟩
theorem Fm.sY (f:Fm K H₀ S₀ H S ρ σ) (e:aD H H') (hn:H a=none) (ha:H' a=some ob) (r:cu K H' (S.and a) a c ob):
  Fm K H₀ S₀ H' (S.and a) (ρ.set i (.owx c)) (σ.set i (some (.ref a))):=by
 have nS:∀b,S b->b≠a:=fun b h z=>f.ve.dom b h (by rw [z];exact hn);have up:∀(x:Sl) (v:Option V),RO K H S x v->RO K H' (S.and a) x v:=fun x v r=>(RO.av (S':=S.and a) (fun b h=>h.imp_right fun z=>by rw [z];exact hn) (fun b _ h=>.inl h) r).ext e;refine ⟨⟨by simpa using f.ve.len,fun j x h=>?_,fun j k x y b hjk h1 h2 o1 o2 h3 h4=>?_,fun b h=>?_⟩,f.ext.trans e,fun b h=>.inl (f.sub b h),fun b h=>?_,f.dm,fun j x b h o h2=>?_⟩
 ·by_cases hj:i=j
  ·subst hj;have hi:=(Eu.mp h).1;rw [Ew (by simpa using hi)] at h;cases h;exact ⟨some (.ref a),Ew (f.ve.len▸(by simpa using hi)),a,ob,rfl,.inr rfl,ha,r⟩
  ·rw [Ex hj] at h ⊢;obtain ⟨v,h1,h2⟩:=f.ve.rel j x h;exact ⟨v,h1,up x v h2⟩
 ·
  have own_ne:∀(m:Nat) (x:Sl) (c:Addr),ρ[m]?=some x->x.dh->σ[m]?=some (some (.ref c))->S c:=fun m x c hm ho hs=>by
   obtain ⟨v,q1,q2⟩:=f.ve.rel m x hm;rw [hs] at q1;cases q1;cases x with
   |owx c=>obtain ⟨a',_,z,s,_⟩:=q2;cases z;exact s
   |new C x dx fs=>obtain ⟨_,z,s,_⟩:=q2;cases z;exact s
   |nil=>exact ho.elim
   |any=>exact ho.elim
   |val d=>exact ho.elim
  by_cases hj:i=j
  ·subst hj;have hi:=(Eu.mp h1).1;rw [Ew (by rw [←f.ve.len];simpa using hi)] at h3;cases h3;rw [Ex hjk] at h2 h4;exact nS _ (own_ne k y _ h2 o2 h4) rfl
  ·by_cases hk:i=k
   ·subst hk;have hi:=(Eu.mp h2).1;rw [Ew (by rw [←f.ve.len];simpa using hi)] at h4;cases h4;rw [Ex hj] at h1 h3;exact nS _ (own_ne j x _ h1 o1 h3) rfl
   ·rw [Ex hj] at h1 h3;rw [Ex hk] at h2 h4;exact f.ve.dist j k x y b hjk h1 h2 o1 o2 h3 h4
 ·rcases h with h|h
  ·exact (f.ve.dom.ext e) b h
  ·rw [h,ha];intro z;cases z
 ·rcases h with h|h
  ·exact f.new b h
  ·rw [h];exact .inr (f.ext.back hn)
 ·by_cases hj:i=j
  ·subst hj;have hi:=(Eu.mp h).1;rw [Ew (by rw [←f.ve.len];simpa using hi)] at h2;cases h2;exact f.ext.back hn
  ·rw [Ex hj] at h h2;exact f.own j x b h o h2
theorem Fm.sT (f:Fm K H₀ S₀ H S ρ σ) (hr:ρ[i]?=some (.owx c)) (hs:σ[i]?=some (some (.ref a))) (r:cu K H S a c' ob):Fm K H₀ S₀ (upd H a ob) S (ρ.set i (.owx c')) σ:=by
 have hi:=(Eu.mp hr).1;obtain ⟨v,q1,a',vs,z,sa,ha,_⟩:=f.ve.rel i _ hr;rw [hs] at q1;cases q1;cases z;have e:Ext S H (upd H a ob):=Ext.set sa;refine ⟨⟨by simpa using f.ve.len,fun j x h=>?_,fun j k x y b hjk h1 h2 o1 o2 h3=>?_,fun b h z=>?_⟩,fun b o n h=>?_,f.sub,f.new,f.dm,fun j x b h o h2=>?_⟩
 ·by_cases hj:i=j
  ·subst hj;rw [Ew hi] at h;cases h;exact ⟨_,hs,a,ob,rfl,sa,aG,r.ext e⟩
  ·rw [Ex hj] at h;obtain ⟨v,h1,h2⟩:=f.ve.rel j x h;refine ⟨v,h1,?_⟩;cases x with
   |nil=>exact h2
   |any=>trivial
   |val d=>obtain ⟨u,p,r⟩:=h2;exact ⟨u,p,r.ext e⟩
   |owx c=>
    obtain ⟨b,ws,p,s,o,r⟩:=h2;subst p;have nb:b≠a:=fun z=>f.ve.dist i j _ _ a hj hr h trivial trivial hs (by rw [h1,z]);exact ⟨b,ws,rfl,s,by rw [ao nb];exact o,r.ext e⟩
   |new C b dx fs=>
    obtain ⟨gs,p,s,o,r⟩:=h2;subst p;have nb:b≠a:=fun z=>f.ve.dist i j _ _ a hj hr h trivial trivial hs (by rw [h1,z]);exact ⟨gs,rfl,s,by rw [ao nb];exact o,r.ext e⟩
 ·by_cases hj:i=j
  ·subst hj;rw [Ex hjk] at h2;exact f.ve.dist i k _ y b hjk hr h2 trivial o2 h3
  ·rw [Ex hj] at h1
   by_cases hk:i=k
   ·subst hk;exact f.ve.dist j i x _ b hjk h1 hr o1 trivial h3
   ·rw [Ex hk] at h2;exact f.ve.dist j k x y b hjk h1 h2 o1 o2 h3
 ·by_cases hb:b=a
  ·rw [hb,aG] at z;cases z
  ·rw [ao hb] at z;exact f.ve.dom b h z
 ·have nb:b≠a:=fun z=>by
   have:=f.own i _ a hr trivial hs;rw [←z,h] at this;cases this
  rw [ao nb];exact f.ext b o n h
 ·by_cases hj:i=j
  ·subst hj;exact f.own i _ b hr trivial h2
  ·rw [Ex hj] at h;exact f.own j x b h o h2
theorem Fm.sS (f:Fm K H₀ S₀ H S ρ σ) (hr:ρ[i]?=some (.own xs)) (hs:σ[i]?=some (some (.ref a))) (r:ae K H S ys us):Fm K H₀ S₀ (upd H a (.lst us)) S (ρ.set i (.own ys)) σ:=f.sT (c':=.l ys) hr hs ⟨us,rfl,r⟩
noncomputable def putD (f:Str) (d:D):List (Str×D)->List (Str×D)
 |[]=>[(f,d)]
 |(g,x)::r=>if g=f then (g,d)::r else (g,x)::putD f d r
theorem aH.put (q:Rds K H S d v):∀{ds:List (Str×D)} {vs:List (Str×V)},aH K H S ds vs->aH K H S (putD f d ds) (b5 f v vs)
 |[],_,.nil=>.cons q .nil
 |(n,x)::r,_,.cons q' t=>by
  unfold putD b5;split
  ·exact .cons q t
  ·exact .cons q' (aH.put q t)
theorem aH.len:∀{ds:List (Str×D)} {vs:List (Str×V)},aH K H S ds vs->ds.length=vs.length
 |[],_,.nil=>rfl
 |_::_,_,.cons _ t=>by rw [List.length_cons,List.length_cons,aH.len t]
theorem Fm.Bj (f:Fm K H₀ S₀ H S ρ σ) (hr:ρ[i]?=some (.new C a dx fs)) (r:aH K H S hs us):Fm K H₀ S₀ (upd H a (.ins C dx us)) S (ρ.set i (.new C a dx hs)) σ:=by
 have hi:=(Eu.mp hr).1;obtain ⟨v,hs',gs,z,sa,ha,_⟩:=f.ve.rel i _ hr;subst z;have e:Ext S H (upd H a (.ins C dx us)):=Ext.set sa;refine ⟨⟨by simpa using f.ve.len,fun j x h=>?_,fun j k x y b hjk h1 h2 o1 o2 h3=>?_,fun b h z=>?_⟩,fun b o n h=>?_,f.sub,f.new,f.dm,fun j x b h o h2=>?_⟩
 ·by_cases hj:i=j
  ·subst hj;rw [Ew hi] at h;cases h;exact ⟨_,hs',us,rfl,sa,aG,r.ext e⟩
  ·rw [Ex hj] at h;obtain ⟨v,h1,h2⟩:=f.ve.rel j x h;refine ⟨v,h1,?_⟩;cases x with
   |nil=>exact h2
   |any=>trivial
   |val d=>obtain ⟨u,p,r⟩:=h2;exact ⟨u,p,r.ext e⟩
   |owx c=>
    obtain ⟨b,ws,p,s,o,r⟩:=h2;subst p;have nb:b≠a:=fun z=>f.ve.dist i j _ _ a hj hr h trivial trivial hs' (by rw [h1,z]);exact ⟨b,ws,rfl,s,by rw [ao nb];exact o,r.ext e⟩
   |new C b dx fs=>
    obtain ⟨gs,p,s,o,r⟩:=h2;subst p;have nb:b≠a:=fun z=>f.ve.dist i j _ _ a hj hr h trivial trivial hs' (by rw [h1,z]);exact ⟨gs,rfl,s,by rw [ao nb];exact o,r.ext e⟩
 ·by_cases hj:i=j
  ·subst hj;rw [Ex hjk] at h2;exact f.ve.dist i k _ y b hjk hr h2 trivial o2 h3
  ·rw [Ex hj] at h1
   by_cases hk:i=k
   ·subst hk;exact f.ve.dist j i x _ b hjk h1 hr o1 trivial h3
   ·rw [Ex hk] at h2;exact f.ve.dist j k x y b hjk h1 h2 o1 o2 h3
 ·by_cases hb:b=a
  ·rw [hb,aG] at z;cases z
  ·rw [ao hb] at z;exact f.ve.dom b h z
 ·have nb:b≠a:=fun z=>by
   have:=f.own i _ a hr trivial hs';rw [←z,h] at this;cases this
  rw [ao nb];exact f.ext b o n h
 ·by_cases hj:i=j
  ·subst hj;exact f.own i _ b hr trivial h2
  ·rw [Ex hj] at h;exact f.own j x b h o h2
end
section
variable {X:Cx} {ρ ρ':Rho} {e:Expr} {d:D} {st:Stmt} {sts:List Stmt} {o:Out} {pos:Pos} {xs:List D}
theorem DF.x (h:DF X ρ e xs):DFx X ρ e (.l xs):=PE.weak h fun σ H Q ⟨S,ve,k⟩=>⟨S,ve,fun a vs H' ex hn ha r=>k a (.lst vs) H' ex hn ha ⟨vs,rfl,r⟩⟩
theorem DFx.de (h:DFx X ρ e c):DE X ρ e c.D:=PE.weak h fun σ H Q ⟨S,ve,k⟩=>⟨S,ve,fun a o H' ex hn ha r=>k _ H' ex ((r.av fun b h=>.inl (.inl h)).rds ha (ve.dom.not hn))⟩
theorem DF.de (h:DF X ρ e xs):DE X ρ e (.lst xs):=PE.weak h fun σ H Q ⟨S,ve,k⟩=>⟨S,ve,fun a vs H' ex hn ha r=>k _ H' ex (.lst (.inl ha) (ve.dom.not hn) (r.av fun b h=>.inl (.inl h)))⟩
theorem DC.df (h:DC X ρ e xs):DF X ρ e xs:=PE.weak h.pe fun σ H Q ⟨S,ve,k⟩=>⟨S,ve,fun a vs H' ex hp r=>k a vs _ (ex.trans (Ext.new hp)) (ex.back hp) aG ((r.av (S':=S.and a) fun b h=>h.imp_right fun z=>by rw [z];exact hp).ext ((Ext.new hp).to _))⟩
theorem zN (h:DA X ρ es xs) (hl:xs.length<=sizeLine):DF X ρ (.List es pos) xs:=
 PE.weak (sJ h) fun σ H Q ⟨S,ve,k⟩=>⟨S,ve,fun vs H' ex rs=>⟨by rw [←rs.length];exact hl,fun p hp=>k p vs _ (ex.trans (Ext.new hp)) (ex.back hp) aG ((rs.av (S':=S.and p) fun b h=>h.imp_right fun z=>by rw [z];exact hp).ext ((Ext.new hp).to _))⟩⟩
theorem xB:DSs X ρ [] (.nx ρ):=PSs.weak yC fun E σ H ⟨H₀,S₀,S,f,k⟩=>k σ H S f
theorem iS (h1:DS X ρ st (.nx ρ')) (h2:DSs X ρ' sts o):DSs X ρ (st::sts) o:=PSs.weak (m_ h1 h2) fun E σ H ⟨H₀,S₀,S,f,k⟩=>⟨H₀,S₀,S,f,fun σ' H' S' f'=>⟨H₀,S₀,S',f',k⟩⟩
noncomputable def Out.ends:Out->Prop
 |.nx _=>False
 |_=>True
theorem oq (h1:DS X ρ st o) (ho:o.ends):DSs X ρ (st::sts) o:=PSs.weak (m_ h1 (sR (sts:=sts))) fun E σ H ⟨H₀,S₀,S,f,k⟩=>⟨H₀,S₀,S,f,by
 cases o with
 |nx _=>exact ho.elim
 |rt d=>exact k
 |rfx xs=>exact k⟩
theorem xx:DS X ρ (.Pass pos) (.nx ρ):=PS.weak yz fun E σ H ⟨H₀,S₀,S,f,k⟩=>k σ H S f
theorem zQ (h:DE X ρ e d):DS X ρ (.Return (some e) pos) (.rt d):=PS.weak (m8 h) fun E σ H ⟨H₀,S₀,S,f,k⟩=>⟨S,f.ve,fun v H' ex r=>k v H' (f.ext.trans ex) ((f.grow ex).out r)⟩
theorem xy:DS X ρ (.Return none pos) (.rt .non):=PS.weak yB fun E σ H ⟨H₀,S₀,S,f,k⟩=>k .non H f.ext .non
theorem um (h:DFx X ρ e c):DS X ρ (.Return (some e) pos) (.rfx c):=PS.weak (m8 h) fun E σ H ⟨H₀,S₀,S,f,k⟩=>⟨S,f.ve,fun a vs H' ex hn ha r=>k a vs H' (f.ext.trans ex) (f.ext.back hn) ha (r.av fun b h=>.inl (h.imp_left (f.sub b)))⟩
theorem xA {i:Nat} {x:Str} {p:Pos} {c:Ow} (hN:X.N[i]?=some x) (hv:Vis X.env.scope x) (hr:ρ[i]?=some (.owx c)) (hd: ~~~((x==("__debug__":Str))=false)) (hcd: ~~~((x==("__classdict__":Str))=false)):
  DS X ρ (.Return (some (.Name x p)) pos) (.rfx c):=PS.weak (m8 (eB hN hv hd hcd)) fun E σ H ⟨H₀,S₀,S,f,k⟩=>by
 obtain ⟨v,h1,a,vs,rfl,sa,ha,r⟩:=f.ve.rel i _ hr;exact ⟨_,h1,k a vs H f.ext (f.own i _ a hr trivial h1) ha (r.av fun b h=>.inl (h.elim (f.sub b) fun z=>by rw [z];exact sa))⟩
theorem oh (h:DE X ρ e d) (hs:(swapsWith e none pos.line X.env=pure false)⁻¹):DS X ρ (.Expr e pos) (.nx ρ):=PS.weak (ki h hs) fun E σ H ⟨H₀,S₀,S,f,k⟩=>⟨S,f.ve,fun v H' ex r=>k σ H' S (f.grow ex)⟩
variable {i:Nat} {x:Str} {pos':Pos}
theorem zR (hN:X.N.Nodup) (hi:X.N[i]?=some x) (hx:Loc X.env.scope x) (he:DE X ρ e d) (hs:(swapsWith e (some (.Name x pos')) pos.line X.env=pure false)⁻¹) (hf:X.fn x=true∨X.env.scope.names.lookup x=some .local:=by first|exact .inl rfl|exact .inr rfl|assumption):
  DS X ρ (.Assign [.Name x pos'] e pos) (.nx (ρ.set i (.val d))):=PS.weak (m9 hN hi hx he hs hf) fun E σ H ⟨H₀,S₀,S,f,k⟩=>⟨S,f.ve,fun v H' ex r=>k _ H' S ((f.grow ex).set r)⟩
theorem iR (hN:X.N.Nodup) (hi:X.N[i]?=some x) (hx:Loc X.env.scope x) (he:DFx X ρ e c) (hs:(swapsWith e (some (.Name x pos')) pos.line X.env=pure false)⁻¹) (hf:X.fn x=true∨X.env.scope.names.lookup x=some .local:=by first|exact .inl rfl|exact .inr rfl|assumption):
  DS X ρ (.Assign [.Name x pos'] e pos) (.nx (ρ.set i (.owx c))):=PS.weak (m9 hN hi hx he hs hf) fun E σ H ⟨H₀,S₀,S,f,k⟩=>⟨S,f.ve,fun a vs H' ex hn ha r=>k _ H' _ (f.sY ex hn ha r)⟩
theorem kL (hN:X.N[i]?=some x) (hv:Vis X.env.scope x) (hr:ρ[i]?=some (.own xs)) (he:DE X ρ a d) (hz:xs.length<sizeLine) (hd: ~~~((x==("__debug__":Str))=false)) (hcd: ~~~((x==("__classdict__":Str))=false))
  (hs:(swapsWith (.Call (.Attribute (.Name x p) "append" ap) [a] [] cp) none pos.line X.env=pure false)⁻¹)
  (hbase:(attributeBase (.Name x p) "append" X.env (eval (.Name x p) X.env)=eval (.Name x p) X.env)⁻¹)
  (hfew:(((backTo cp (starEach [a] X.env)).all (fun x=>!x.1)&&(backToKw cp (keywordEach [] X.env)).all (fun x=>x.1.isSome)&&decide (([a]:List Expr).length+([]:List Keyword).length+(if ([]:List Keyword).isEmpty then 0 else 1)<30))=true)⁻¹)
  (hline:((ap.endLine==cp.line)=true)⁻¹) (hst:(starEach [a] X.env=(false,eval a X.env)::starEach [] X.env)⁻¹) (hplain:((backTo cp (starEach [] X.env)).any (·.1)=false)⁻¹):
  DS X ρ (.Expr (.Call (.Attribute (.Name x p) "append" ap) [a] [] cp) pos) (.nx (ρ.set i (.own (xs++[d])))):=
 PS.weak (ki (Cz PySem.F.plainAttrs_list PySem.F.slot_list_append PySem.F.type_list_append sk (eB hN hv hd hcd) (oQ he sH hst) hbase hfew hline hst hplain) hs) fun E σ H ⟨H₀,S₀,S,f,k⟩=>by
  obtain ⟨v,h1,l,_,rfl,sa,ha,vs,rfl,r⟩:=f.ve.rel i _ hr;refine ⟨_,h1,.inl ⟨rfl,vs,.inl (.inl ha)⟩,S,f.ve,fun y H' ex ry=>⟨l,vs,y,rfl,rfl,ex _ _ (fun z=>z) ha,by rw [←r.length];exact hz,?_⟩⟩;exact k _ _ S ((f.grow ex).sS hr h1 (ae.app (r.ext (ex.to S)) (.cons ry .nil)))
theorem rH (hN:X.N[i]?=some x) (hv:Vis X.env.scope x) (hr:ρ[i]?=some (.new C a dx fs)) (c:Cls X.K C) (na:cF X.K C fl) (hl:fs.length<1000) (he:DE X ρ e d)
  (hs:(swapsWith e (some (.Attribute (.Name x p) fl pos')) pos.line X.env=pure false)⁻¹) (hd: ~~~((x==("__debug__":Str))=false)) (hcd: ~~~((x==("__classdict__":Str))=false)):
  DS X ρ (.Assign [.Attribute (.Name x p) fl pos'] e pos) (.nx (ρ.set i (.new C a dx (putD fl d fs)))):=
 PS.weak (Be (eB hN hv hd hcd) he hs) fun E σ H ⟨H₀,S₀,S,f,k⟩=>⟨S,f.ve,fun v H' ex r=>by
  have f':=f.grow ex;obtain ⟨w,h1,gs,rfl,sa,ha,rf⟩:=f'.ve.rel i _ hr;exact ⟨_,h1,a,C,dx,gs,rfl,ha,c,na,by rw [←rf.len];exact hl,k _ _ S (f'.Bj hr (rf.put r))⟩⟩
theorem ip:PSs X sts (fun E σ H=>∃ρ o,DSs X ρ sts o∧tDS X.K ρ o E σ H):=fun pins s σ H D I ⟨_,_,h,q⟩=>h pins s σ H D I q
theorem pJ (hc:DT X ρ c q) (ha:q=true->DSs X ρ a o) (hb:q=false->DSs X ρ b o):DS X ρ (.If c a b pos) o:=
 PS.weak (CF hc (ip (sts:=a)) (ip (sts:=b))) fun E σ H ⟨H₀,S₀,S,f,k⟩=>⟨S,f.ve,fun H' ex=>by
  cases q with
  |true=>exact eS ⟨ρ,o,ha rfl,H₀,S₀,S,f.grow ex,k⟩
  |false=>exact fP ⟨ρ,o,hb rfl,H₀,S₀,S,f.grow ex,k⟩⟩
end
set_option autoImplicit true
set_option relaxedAutoImplicit true
section
variable {X:Cx} {ρ ρ':Rho} {e:Expr} {d:D} {o:Out} {pos:Pos} {xs:List D} {i:Nat}
theorem Fm.give {K:PySem.W.Frag} {H₀ H:Hp} {S₀ S:Ad} {σ:St} {c:Ow} (f:Fm K H₀ S₀ H S ρ σ) (hr:ρ[i]?=some (.owx c)):∃S',(∀a,S' a->S a)∧Fm K H₀ S₀ H S' (ρ.set i (.val c.D)) σ:=by
 have hi:=(Eu.mp hr).1;obtain ⟨v,q1,a,vs,rfl,sa,ha,r⟩:=f.ve.rel i _ hr;have own_ne:∀(m:Nat) (x:Sl) (c:Addr),i≠m->ρ[m]?=some x->x.dh->σ[m]?=some (some (.ref c))->c≠a:=fun m x c hm h ho hs z=>f.ve.dist i m _ x a hm hr h trivial ho q1 (by rw [hs,z]);refine ⟨fun b=>S b∧b≠a,fun b h=>h.1,⟨⟨by simpa using f.ve.len,fun j x h=>?_,fun j k x y b hjk h1 h2 o1 o2 h3=>?_,fun b h=>f.ve.dom b h.1⟩,f.ext,fun b h=>⟨f.sub b h,fun z=>?_⟩,fun b h=>f.new b h.1,f.dm,fun j x b h o h2=>?_⟩⟩
 ·by_cases hj:i=j
  ·subst hj;rw [Ew hi] at h;cases h;exact ⟨_,q1,_,rfl,(r.av fun b h=>.inl h.1).rds ha fun z=>z.2 rfl⟩
  ·rw [Ex hj] at h;obtain ⟨v,h1,h2⟩:=f.ve.rel j x h;refine ⟨v,h1,?_⟩;cases x with
   |nil=>exact h2
   |any=>trivial
   |val d=>obtain ⟨u,p,r⟩:=h2;exact ⟨u,p,r.av fun b h=>.inl h.1⟩
   |owx zs=>exact RO.av (x:=.owx zs) (fun b h=>.inl h.1) (fun b z s=>⟨s,own_ne j _ b hj h trivial (by rw [h1,z])⟩) h2
   |new C y dx fs=>exact RO.av (x:=.new C y dx fs) (fun b h=>.inl h.1) (fun b z s=>⟨s,own_ne j _ b hj h trivial (by rw [h1,z])⟩) h2
 ·have n1:i≠j:=fun z=>by
   subst z;rw [Ew hi] at h1;cases h1;exact o1
  have n2:i≠k:=fun z=>by
   subst z;rw [Ew hi] at h2;cases h2;exact o2
  rw [Ex n1] at h1;rw [Ex n2] at h2;exact f.ve.dist j k x y b hjk h1 h2 o1 o2 h3
 ·have:=f.own i _ a hr trivial q1;exact f.dm b h (by rw [z];exact this)
 ·have n1:i≠j:=fun z=>by
   subst z;rw [Ew hi] at h;cases h;exact o
  rw [Ex n1] at h;exact f.own j x b h o h2
theorem VE.give {K:PySem.W.Frag} {H:Hp} {S:Ad} {σ:St} {c:Ow} (f:VE K H S ρ σ) (hr:ρ[i]?=some (.owx c)):∃S',VE K H S' (ρ.set i (.val c.D)) σ:=by
 have F:Fm K (fun _=>none) no H S ρ σ:=⟨f,(fun a o _ h=>by cases h),fun a h=>h.elim,fun a h=>.inr rfl,fun a h=>h.elim,fun _ _ _ _ _ _=>rfl⟩
 obtain ⟨S',_,f'⟩:=F.give hr;exact ⟨S',f'.ve⟩
theorem xD (hr:ρ[i]?=some (.owx c)) (h:DT X (ρ.set i (.val c.D)) e q):DT X ρ e q:=PT.weak h fun σ H Q ⟨S,ve,k⟩=>by
 obtain ⟨S',ve'⟩:=ve.give hr;exact ⟨S',ve',k⟩
noncomputable def cy (ρ ρ1:Rho) (ks:List Nat):Prop:=∀(i:Nat) (x:Sl),ρ1[i]?=some x->x.dh->i∉ks∧ρ[i]?=some x
theorem BE:cy ρ ρ []:=fun i x h _=>⟨by simp,h⟩
theorem BF:cy ρ (ρ.set k (.val d)) [k]:=fun i x h o=>by
 by_cases hj:k=i
 ·subst hj;have hi:=(Eu.mp h).1;rw [Ew (by simpa using hi)] at h;cases h;exact o.elim
 ·rw [Ex hj] at h;exact ⟨by simp [Ne.symm hj],h⟩
theorem cy.trans (a:cy ρ ρ1 ks) (b:cy ρ1 ρ2 ls):cy ρ ρ2 (ks++ls):=fun i x h o=>by
 obtain ⟨n1,h1⟩:=b i x h o;obtain ⟨n2,h2⟩:=a i x h1 o;exact ⟨by simp [n1,n2],h2⟩
inductive iI (X:Cx) (tg:Expr) (body:List Stmt):List D->Rho->Out->Prop
 |nil (ρ:Rho):iI X tg body [] ρ (.nx ρ)
 |cons {d:D} {ds:List D} {ρ ρ1 ρ2:Rho} {ks:List Nat} {o:Out}:DG X tg ρ d ρ1 ks->cy ρ ρ1 ks->DSs X ρ1 body (.nx ρ2)->iI X tg body ds ρ2 o->iI X tg body (d::ds) ρ o
 |ret {d:D} {ds:List D} {ρ ρ1:Rho} {ks:List Nat} {o:Out}:DG X tg ρ d ρ1 ks->cy ρ ρ1 ks->DSs X ρ1 body o->o.ends->iI X tg body (d::ds) ρ o
theorem Fm.tgt {K:PySem.W.Frag} {H₀ H:Hp} {S₀ S:Ad} {ρ ρ1:Rho} {σ σ':St} {ks:List Nat} (f:Fm K H₀ S₀ H S ρ σ) (ve:VE K H S ρ1 σ') (c:Chg ks σ σ') (h:cy ρ ρ1 ks):Fm K H₀ S₀ H S ρ1 σ':=
 ⟨ve,f.ext,f.sub,f.new,f.dm,fun i x a h1 o h2=>by
  obtain ⟨n,h3⟩:=h i x h1 o;exact f.own i x a h3 o (by rw [←c.2 i n];exact h2)⟩
theorem Fm.mono {K:PySem.W.Frag} {H₀ H1 H:Hp} {S₀ S:Ad} {σ:St} (f:Fm K H1 S₀ H S ρ σ) (e:aD H₀ H1) (dm:Dom H₀ S₀):Fm K H₀ S₀ H S ρ σ:=
 ⟨f.ve,e.trans f.ext,f.sub,fun a h=>(f.new a h).imp_right e.back,dm,fun i x a h o h2=>e.back (f.own i x a h o h2)⟩
theorem ph.mono {K:PySem.W.Frag} {H₀ H1:Hp} {S₀:Ad} {E:Ends} (e:aD H₀ H1) (dm:Dom H₀ S₀) (k:ph K H₀ S₀ E o):ph K H1 S₀ E o:=by
 cases o with
 |nx ρ'=>exact fun σ' H' S' f=>k σ' H' S' (f.mono e dm)
 |rt d=>exact fun v H' ex r=>k v H' (e.trans ex) r
 |rfx xs=>exact fun a vs H' ex hn ha r=>k a vs H' (e.trans ex) (e.back hn) ha r
open Classical in
noncomputable def d8 (H:Hp) (S S₀:Ad):Hp:=fun a=>if S a∧¬S₀ a then none else H a
theorem eG (h:H a=some u) (n:S a->S₀ a):d8 H S S₀ a=some u:=by
 unfold d8;rw [if_neg fun z=>z.2 (n z.1)];exact h
theorem gD (h:S a) (n:¬S₀ a):d8 H S S₀ a=none:=by
 unfold d8;rw [if_pos ⟨h,n⟩]
theorem wL (h:d8 H S S₀ a=some u):H a=some u∧(S a->S₀ a):=by
 unfold d8 at h;split at h
 ·cases h
 ·rename_i n;exact ⟨h,fun s=>Classical.byContradiction fun z=>n ⟨s,z⟩⟩
theorem Fm.cut {K:PySem.W.Frag} {H₀ H:Hp} {S₀ S:Ad} {σ:St} (f:Fm K H₀ S₀ H S ρ σ):aD H₀ (d8 H S S₀)∧Fm K (d8 H S S₀) S₀ H S ρ σ:=by
 refine ⟨fun a u n h=>eG (f.ext a u n h) fun s=>(f.new a s).elim (fun z=>z) fun z=>(by rw [h] at z;cases z),⟨f.ve,fun a u n h=>(wL h).1,f.sub,fun a s=>?_,fun a s z=>?_,fun i x a h o h2=>?_⟩⟩
 ·by_cases q:S₀ a
  ·exact .inl q
  ·exact .inr (gD s q)
 ·cases q:H a with
  |none=>exact f.ve.dom a (f.sub a s) q
  |some u=>rw [eG q fun _=>s] at z;cases z
 ·have hn:=f.own i x a h o h2;have ns:¬S₀ a:=fun z=>f.dm a z hn;obtain ⟨v,q1,q2⟩:=f.ve.rel i x h;rw [h2] at q1;cases q1;cases x with
  |owx xs=>obtain ⟨b,_,z,s,_⟩:=q2;cases z;exact gD s ns
  |new C y dx fs=>obtain ⟨_,z,s,_⟩:=q2;cases z;exact gD s ns
  |nil=>exact o.elim
  |any=>exact o.elim
  |val d=>exact o.elim
theorem mq {tg iter:Expr} {body:List Stmt} {its:List D} (hp:PassesOwn (model X.prog X.w) X.A X.env X.xe) (hc:X.calm=true) (hi:DI X tg ρ iter its) (hb:iI X tg body its ρ o)
  (hs:∀x,foldedSetIterable iter X.env x=pure x:=by intro _;rfl):DS X ρ (.For tg iter body [] pos) o:=by
 refine PS.weak (Bf hp hc hi (qp (G:=DG X tg) fun _ _ _ _ h=>h) (ip (sts:=body)) hs) ?_;rintro E σ H ⟨H₀,S₀,S,f,k⟩;refine ⟨S,f.ve,fun J H1 ex hJ=>?_⟩;have f1:=f.grow ex;obtain ⟨e0,fc⟩:=f1.cut;have k1:=k.mono e0 f.dm;refine ⟨fun i m σ' H'=>∃S' ρ',Fm X.K (d8 H1 S S₀) S₀ H' S' ρ' σ'∧iI X tg body (its.drop i) ρ' o∧i<=its.length∧m=its.length - i,⟨its.length,S,ρ,fc,by simpa using hb,Nat.zero_le _,by simp⟩,?_⟩;rintro i m σ' H' ⟨S',ρ',f',hf,hi',rfl⟩;have ext1:Ext S H1 H':=fun a u n h=>f'.ext a u (fun z=>z) (eG h fun s=>(n s).elim);have new1:∀a,S' a->S a∨H1 a=none:=fun a s=>by
  rcases f'.new a s with z|z
  ·exact .inl (f.sub a z)
  ·by_cases q:S a
   ·exact .inl q
   ·cases h:H1 a with
    |none=>exact .inr rfl
    |some u=>rw [eG h fun s=>(q s).elim] at z;cases z
 obtain ⟨J1,J2⟩:=hJ H' S' ext1 new1 f'.ve.dom i
 by_cases hlt:i<its.length
 ·have hd:its[i]?=some its[i]:=by simp [hlt]
  obtain ⟨go,yld⟩:=J1 _ hd;rw [List.drop_eq_getElem_cons hlt] at hf;have rep:∀{ρ1:Rho} {ks:List Nat} {x:V} {H2:Hp},J.yld i H' x H2->DG X tg ρ' its[i] ρ1 ks->cy ρ' ρ1 ks->∀(R:St->Hp->Prop),(∀σ2,Fm X.K (d8 H1 S S₀) S₀ H2 S' ρ1 σ2->R σ2 H2)->gA X.K (DG X tg) x σ' H2 R:=fun {ρ1 ks x H2} y hg htg R hR=>by
   obtain ⟨e1,r1⟩:=yld x H2 y;exact ⟨ρ',its[i],ρ1,ks,hg,S',(f'.grow e1).ve,r1,fun σ2 ve2 c=>hR σ2 ((f'.grow e1).tgt ve2 c htg)⟩
  cases hf with
  |cons hg htg hbd hrest=>
   rename_i ρ1 ρ2 ks;refine .inr ⟨go,fun σ2 H2=>∃S2,Fm X.K (d8 H1 S S₀) S₀ H2 S2 ρ2 σ2,fun σ2 H2 ⟨S2,f2⟩=>⟨its.length - (i+1),by omega,S2,ρ2,f2,hrest,hlt,rfl⟩,fun x H2 y=>?_⟩;exact rep y hg htg _ fun σ2 f2=>⟨ρ1,_,hbd,_,_,S',f2,fun σ3 H3 S3 f3=>⟨S3,f3⟩⟩
  |ret hg htg hbd hend=>
   rename_i ρ1 ks;refine .inr ⟨go,fun _ _=>False,fun _ _ z=>z.elim,fun x H2 y=>?_⟩;refine rep y hg htg _ fun σ2 f2=>⟨ρ1,o,hbd,_,_,S',f2,?_⟩
   cases o with
   |nx _=>exact hend.elim
   |rt d=>exact k1
   |rfx xs=>exact k1
 ·have e:i=its.length:=by omega
  subst e;rw [List.drop_length] at hf;cases hf;exact .inl ⟨J2 (EG _),k1 σ' H' S' f'⟩
end
set_option autoImplicit true
set_option relaxedAutoImplicit true
noncomputable def spD (K:PySem.W.Frag) (P:List D->D->Prop):Sp:=fun vs H Q _=>∃S ds d,Dom H S∧ae K H S ds vs∧P ds d∧∀v H',aD H H'->Rds K H' S d v->Q v H'
noncomputable def spI (K:PySem.W.Frag) (C:Addr) (P:List D->List (Str×D)->Prop):Sp:=fun vs H Q _=>∃S x dx us ds fs,vs=.ref x::us∧H x=some (.ins C dx [])∧Dom H S∧S x∧ae K H S ds us∧P ds fs∧
 ∀H' gs,(∀a o,a≠x->H a=some o->H' a=some o)->H' x=some (.ins C dx gs)->aH K H' S fs gs->Q .non H'
noncomputable def aO (N:List Str) (ds:List D):Rho:=ds.map .val++List.replicate (N.length - ds.length) .nil
theorem nB {K:PySem.W.Frag} {H:Hp} {S:Ad} {N:List Str} {ds:List D} {vs:List V} (dm:Dom H S) (r:ae K H S ds vs):VE K H S (aO N ds) (start N vs):=by
 have hl:=r.length;have nown:∀(i:Nat) (x:Sl),(aO N ds)[i]?=some x->¬x.dh:=fun i x h o=>by
  have hm:=List.mem_of_getElem? h;unfold aO at hm;rcases Ep.mp hm with hm|hm
  ·obtain ⟨y,_,e⟩:=Es.mp hm;rw [←e] at o;exact o
  ·rw [(List.mem_replicate.mp hm).2] at o;exact o
 refine ⟨by simp [aO,L2.start,hl],fun i x h=>?_,fun i j x y a _ h _ o=>absurd o (nown i x h),dm⟩;unfold aO at h;unfold L2.start
 by_cases hi:i<ds.length
 ·rw [List.getElem?_append_left (by simpa using hi),List.getElem?_map] at h;rw [List.getElem?_append_left (by simpa [←hl] using hi),List.getElem?_map];cases hq:ds[i]? with
  |none=>rw [hq] at h;cases h
  |some d=>
   rw [hq] at h;cases h;obtain ⟨v,hv,rv⟩:=r.get hq;exact ⟨some v,by rw [hv];rfl,v,rfl,rv⟩
 ·have hi':ds.length<=i:=Nat.le_of_not_lt hi;rw [List.getElem?_append_right (by simpa using hi'),Ez,List.getElem?_replicate] at h;rw [List.getElem?_append_right (by simpa [←hl] using hi'),Ez,List.getElem?_replicate];rw [←hl];split at h
  ·rename_i z;rw [if_pos z];cases h;exact ⟨none,rfl,rfl⟩
  ·cases h
theorem nA {K:PySem.W.Frag} {H:Hp} {S:Ad} {N:List Str} {ds:List D} {vs:List V} (dm:Dom H S) (r:ae K H S ds vs):Fm K H S H S (aO N ds) (start N vs):=
 ⟨nB dm r,Ext.refl,fun a h=>h,fun a h=>.inl h,dm,fun i x a h o _=>by
  have hm:=List.mem_of_getElem? h;unfold aO at hm;rcases Ep.mp hm with hm|hm
  ·obtain ⟨y,_,e⟩:=Es.mp hm;rw [←e] at o;exact o.elim
  ·rw [(List.mem_replicate.mp hm).2] at o;exact o.elim⟩
noncomputable def yX:Out->D->Prop
 |.rt d,d'=>d=d'
 |.nx _,d'=>d'=.non
 |.rfx c,d'=>d'=c.D
section
variable {P:Program} {w:World} {K:PySem.W.Frag} {mg:Str->Option Value} {base:Heap} {x qual:Str} {st:Stmt} {f:Addr} {fd:FuncData} {N ps:List Str} {k:Nat}
theorem Dq (F:Fun K x qual st f fd) (S:bC N ps (aj st)) (len:∀ds d,Pr ds d->ds.length=ps.length)
  (hb:∀(cdv:Value) (A:Around) (outer:List Env) (s:Shared) (H:Hp) (E:XK) (ds:List D) (d:D),aJ k (A.deeper (envOfC qual (aj st) s.heap.objs.size f cdv))->Pr ds d->
   ∃o,yX o d∧DSs (dN CX0 P w K mg base N qual (aj st) f cdv A outer s H E).nox (aO N ds) (aY st) o):aE P w K mg base CX0 (k+1) f fd ps (spD K Pr):=by
 refine F.ok S (fun vs H Q E ⟨S,ds,d,dm,r,p,kk⟩=>by rw [←r.length];exact len ds d p) fun cdv A outer s H vs Q E hr ⟨S',ds,d,dm,r,p,kk⟩=>?_;obtain ⟨o,ov,h⟩:=hb cdv A outer s H E ds d hr p;refine ⟨_,h,H,S',S',nA dm r,?_⟩;cases o with
 |rt d'=>cases ov;exact kk
 |nx ρ'=>cases ov;exact fun σ' H' S'' f=>kk .non H' f.ext .non
 |rfx c=>cases ov;exact fun a vs H' ex hn ha r'=>kk _ H' ex ((r'.av fun b h=>.inl (.inl h)).rds ha (dm.not hn))
noncomputable def ko (K:PySem.W.Frag) (P:List D->Ow->Prop):Sp:=fun vs H Q _=>∃S ds c,Dom H S∧ae K H S ds vs∧P ds c∧∀a o H',aD H H'->H a=none->H' a=some o->cu K H' (S.and a) a c o->Q (.ref a) H'
theorem Ca (F:Fun K x qual st f fd) (S:bC N ps (aj st)) (len:∀ds xs,Pr ds xs->ds.length=ps.length)
  (hb:∀(cdv:Value) (A:Around) (outer:List Env) (s:Shared) (H:Hp) (E:XK) (ds:List D) (c:Ow),aJ k (A.deeper (envOfC qual (aj st) s.heap.objs.size f cdv))->Pr ds c->
   DSs (dN CX0 P w K mg base N qual (aj st) f cdv A outer s H E).nox (aO N ds) (aY st) (.rfx c)):aE P w K mg base CX0 (k+1) f fd ps (ko K Pr):=by
 refine F.ok S (fun vs H Q E ⟨S,ds,d,dm,r,p,kk⟩=>by rw [←r.length];exact len ds d p) fun cdv A outer s H vs Q E hr ⟨S',ds,d,dm,r,p,kk⟩=>?_;exact ⟨_,hb cdv A outer s H E ds d hr p,H,S',S',nA dm r,kk⟩
theorem Dr {C:Addr} {Pr:List D->List (Str×D)->Prop} (F:Fun K x qual st f fd) (S:bC N ps (aj st)) (len:∀ds fs,Pr ds fs->ds.length+1=ps.length)
  (hb:∀(cdv:Value) (A:Around) (outer:List Env) (s:Shared) (H:Hp) (E:XK) (ds:List D) (fs:List (Str×D)) (z dx:Addr),aJ k (A.deeper (envOfC qual (aj st) s.heap.objs.size f cdv))->Pr ds fs->
   ∃ρ',ρ'[0]?=some (.new C z dx fs)∧DSs (dN CX0 P w K mg base N qual (aj st) f cdv A outer s H E).nox (.new C z dx []::(aO N (.non::ds)).tail) (aY st) (.nx ρ')):aE P w K mg base CX0 (k+1) f fd ps (spI K C Pr):=by
 refine F.ok S ?_ ?_
 ·rintro vs H Q E ⟨S,z,dx,us,ds,fs,rfl,hz,dm,sz,r,p,kk⟩;rw [List.length_cons,←r.length];exact len ds fs p
 ·rintro cdv A outer s H vs Q E hr ⟨S',z,dx,us,ds,fs,rfl,hz,dm,sz,r,p,kk⟩;obtain ⟨ρ',h0,h⟩:=hb cdv A outer s H E ds fs z dx hr p;have ve:=nB (N:=N) dm (.cons (.non:Rds K H S' .non .non) r);have e1:aO N (.non::ds)=.val .non::(aO N (.non::ds)).tail:=rfl;have e2:start N (.non::us)=some .non::(start N (.non::us)).tail:=rfl;have e3:start N (.ref z::us)=some (.ref z)::(start N (.non::us)).tail:=rfl;have nown:∀(i:Nat) (x:Sl),(aO N (.non::ds))[i]?=some x->¬x.dh:=fun i x h o=>by
   have hm:=List.mem_of_getElem? h;unfold aO at hm;rcases Ep.mp hm with hm|hm
   ·obtain ⟨y,_,e⟩:=Es.mp hm;rw [←e] at o;exact o
   ·rw [(List.mem_replicate.mp hm).2] at o;exact o
  have nt:∀(i:Nat) (x:Sl),(aO N (.non::ds)).tail[i]?=some x->¬x.dh:=fun i x h=>nown (i+1) x (by rw [e1];exact h);refine ⟨_,h,fun a=>if a=z then none else H a,fun a=>S' a∧a≠z,S',⟨⟨?_,fun i x h=>?_,fun i j x y a hij h1 h2 o1 o2 _=>?_,dm⟩,fun a o _ h=>?_,fun a h=>h.1,fun a h=>?_,fun a h=>?_,fun i x a h o h2=>?_⟩,fun σ' H' S'' f=>?_⟩
  ·have:=ve.len;rw [e3,List.length_cons,List.length_cons];rw [e1,e2,List.length_cons,List.length_cons] at this;exact this
  ·rw [e3];cases i with
   |zero=>cases h;exact ⟨_,rfl,[],rfl,sz,hz,.nil⟩
   |succ i=>
    obtain ⟨v,q1,q2⟩:=ve.rel (i+1) x (by rw [e1];exact h);rw [e2] at q1;exact ⟨v,q1,q2⟩
  ·cases i with
   |zero=>cases j with
    |zero=>exact absurd rfl hij
    |succ j=>exact absurd o2 (nt j y h2)
   |succ i=>exact absurd o1 (nt i x h1)
  ·by_cases ha:a=z
   ·rw [if_pos ha] at h;cases h
   ·rw [if_neg ha] at h;exact h
  ·by_cases ha:a=z
   ·exact .inr (if_pos ha)
   ·exact .inl ⟨h,ha⟩
  ·show (if a=z then none else H a)≠none;rw [if_neg h.2];exact dm a h.1
  ·cases i with
   |zero=>
    rw [e3] at h2;cases h2;exact if_pos rfl
   |succ i=>exact absurd o (nt i x h)
  ·obtain ⟨v,_,gs,_,sz',hz',rf⟩:=f.ve.rel 0 _ h0;refine kk H' gs (fun a o ha h=>f.ext a o (fun z=>z) (by rw [if_neg ha];exact h)) hz' (rf.av fun a h=>?_)
   by_cases ha:a=z
   ·subst ha;exact .inl sz'
   ·exact .inl (f.sub a ⟨h,ha⟩)
end
section
variable {X:Cx} {ρ:Rho} {k:Nat} {f C:Addr} {fd:FuncData} {ps:List Str} {x m:Str} {p pos apos:Pos} {e o:Expr} {es:List Expr} {ds:List D} {d:D}
theorem eZ {K:PySem.W.Frag} {H:Hp} {S:Ad} {ds:List D} {vs:List V} (r:ae K H S ds vs):ae K H S ds (vs++[]):=by rw [List.append_nil];exact r
theorem wR (F:aE X.prog X.w X.K X.mg X.base CX0 k f fd ps (spD X.K Pr)) (hr:aJ k X.A) (hg:Gl X x) (hm:X.mg x=some (.ref f)) (hk:PySem.W.keepIn X.K (.ref f)=true) (hb:Binds X.K fd ps [])
  (ha:DA X ρ (e::es) ds) (hp:Pr ds d) (hdb: ~~~((x==("__debug__":Str))=false)) (he:(starEach (e::es) X.env=(false,eval e X.env)::starEach es X.env)⁻¹) (hpl:((backTo pos (starEach es X.env)).any (·.1)=false)⁻¹):
  DE X ρ (.Call (.Name x p) (e::es) [] pos) d:=PE.weak (oR F hr hg hm hk hb .nil fW ha hdb he hpl) fun σ H Q ⟨S,ve,kk⟩=>⟨S,ve,fun vs H' ex r=>⟨S,ds,d,(ve.ext ex).dom,eZ r,hp,fun v H'' ex' r'=>kk v H'' (ex.trans ex') r'⟩⟩
theorem uf (F:aE X.prog X.w X.K X.mg X.base CX0 k f fd ps (ko X.K Pr)) (hr:aJ k X.A) (hg:Gl X x) (hm:X.mg x=some (.ref f)) (hk:PySem.W.keepIn X.K (.ref f)=true) (hb:Binds X.K fd ps [])
  (ha:DA X ρ (e::es) ds) (hp:Pr ds c) (hdb: ~~~((x==("__debug__":Str))=false)) (he:(starEach (e::es) X.env=(false,eval e X.env)::starEach es X.env)⁻¹) (hpl:((backTo pos (starEach es X.env)).any (·.1)=false)⁻¹):
  DFx X ρ (.Call (.Name x p) (e::es) [] pos) c:=PE.weak (oR F hr hg hm hk hb .nil fW ha hdb he hpl) fun σ H Q ⟨S,ve,kk⟩=>⟨S,ve,fun vs H' ex r=>⟨S,ds,c,(ve.ext ex).dom,eZ r,hp,fun a us H'' ex' hn ha r'=>kk a us H'' (ex.trans ex') (ex.back hn) ha r'⟩⟩
theorem w9 (ho:DE X ρ o (.ins C fs)) (hl:fs.lookup m=none) (c:Cls X.K C) (hm:Meth X.K C m f) (F:aE X.prog X.w X.K X.mg X.base CX0 k f fd ps (spD X.K Pr)) (hr:aJ k X.A) (hb:Binds X.K fd ps [])
  (ha:DA X ρ (e::es) ds) (hp:Pr (.ins C fs::ds) d) (hst:(starEach (e::es) X.env=(false,eval e X.env)::starEach es X.env)⁻¹) (hpl:((backTo pos (starEach es X.env)).any (·.1)=false)⁻¹)
  (ht:(eval (.Call (.Attribute o m apos) (e::es) [] pos) X.env=(do
   let ov←eval o X.env
   standAt apos.atName
   let (f,first)←holding [ov] (getMethod ov m pl)
   callWith pos f first (backTo pos (starEach (e::es) X.env)) (backToKw pos (keywordEach [] X.env))))⁻¹):
  DE X ρ (.Call (.Attribute o m apos) (e::es) [] pos) d:=PE.weak (oT ho c hm F hr hb .nil fW ha hst hpl ht) fun σ H Q ⟨S,ve,kk⟩=>⟨S,ve,fun v H1 ex1 r1=>by
   obtain ⟨a,dx,gs,rfl,hh,rf⟩:=r1.jX;exact ⟨a,dx,gs,rfl,hh,rf.none hl,S,ve.ext ex1,fun vs H' ex r=>⟨S,_,d,((ve.ext ex1).ext ex).dom,.cons (r1.ext (ex.to S)) (eZ r),hp,fun v H'' ex' r'=>kk v H'' (ex1.trans (ex.trans ex')) r'⟩⟩⟩
theorem ub (ho:DE X ρ o (.ins C fs)) (hl:fs.lookup m=none) (c:Cls X.K C) (hm:Meth X.K C m f) (F:aE X.prog X.w X.K X.mg X.base CX0 k f fd ps (spD X.K Pr)) (hr:aJ k X.A) (hb:Binds X.K fd ps [])
  (hp:Pr [.ins C fs] d)
  (ht:(eval (.Call (.Attribute o m apos) [] [] pos) X.env=(do
   let ov←eval o X.env
   standAt apos.atName
   let (f,first)←holding [ov] (getMethod ov m pl)
   callWith pos f first (backTo pos (starEach [] X.env)) (backToKw pos (keywordEach [] X.env))))⁻¹):
  DE X ρ (.Call (.Attribute o m apos) [] [] pos) d:=PE.weak (mY ho c hm F hr hb .nil fW ht) fun σ H Q ⟨S,ve,kk⟩=>⟨S,ve,fun v H1 ex1 r1=>by
   obtain ⟨a,dx,gs,rfl,hh,rf⟩:=r1.jX;exact ⟨a,dx,gs,rfl,hh,rf.none hl,S,_,d,(ve.ext ex1).dom,.cons r1 .nil,hp,fun v H'' ex' r'=>kk v H'' (ex1.trans ex') r'⟩⟩
theorem zr (ho:DE X ρ o (.ins C fs)) (c:Cls X.K C) (n:cF X.K C fl) (l:fs.lookup fl=some d) (hb:(attributeBase o fl X.env (eval o X.env)=eval o X.env)⁻¹):DE X ρ (.Attribute o fl pos) d:=
 PE.weak (A2 ho hb) fun σ H Q ⟨S,ve,kk⟩=>⟨S,ve,fun v H1 ex1 r1=>by
  obtain ⟨a,dx,gs,rfl,hh,rf⟩:=r1.jX;obtain ⟨u,hu,ru⟩:=rf.look l;exact ⟨a,C,dx,gs,u,rfl,hh,c,n,hu,kk u H1 ex1 ru⟩⟩
theorem wY (M:Mk X.K C f) (F:aE X.prog X.w X.K X.mg X.base CX0 k f fd ps (spI X.K C Pr)) (hr:aJ (k+1) X.A) (hg:Gl X x) (hm:X.mg x=some (.ref C)) (hb:Binds X.K fd ps [])
  (ha:DA X ρ (e::es) ds) (hp:Pr ds fs) (hdb: ~~~((x==("__debug__":Str))=false)) (he:(starEach (e::es) X.env=(false,eval e X.env)::starEach es X.env)⁻¹) (hpl:((backTo pos (starEach es X.env)).any (·.1)=false)⁻¹):
  DE X ρ (.Call (.Name x p) (e::es) [] pos) (.ins C fs):=PE.weak (yj M F hr hg hm hb .nil fW ha hdb he hpl) fun σ H Q ⟨S,ve,kk⟩=>⟨S,ve,fun vs H1 ex r z dx hz hdx hne=>by
   have e1:aD H1 (upd H1 dx (.own z)):=Ext.new hdx;have hz1:upd H1 dx (.own z) z=none:=by rw [ao (Ne.symm hne)];exact hz
   have e2:aD H1 (upd (upd H1 dx (.own z)) z (.ins C dx [])):=e1.trans (Ext.new hz1);have dm:=(ve.ext ex).dom;refine ⟨S.and z,z,dx,vs++[],ds,fs,rfl,aG,fun a h=>?_,.inr rfl,eZ ((r.av (S':=S.and z) fun b h=>h.imp_right fun q=>by rw [q];exact hz).ext (e2.to _)),hp,fun H' gs hk hz' rf=>⟨rfl,?_⟩⟩
   ·rcases h with h|h
    ·exact dm.ext e2 a h
    ·rw [h,aG];intro q;cases q
   ·refine kk _ H' (ex.trans fun a o n h=>hk a o (aM h hz) (e2 a o n h)) (.ins hz' (dm.not hz) (rf.av fun b h=>.inl (.inl h)))⟩
end
set_option autoImplicit true
set_option relaxedAutoImplicit true
section
variable {X:Cx}
theorem lX:∀{ys:List Bool} {its:List Value},Vals (ys.map .bl) its->its=ys.map .bool
 |[],_,.nil=>rfl
 |y::ys,_,.cons r t=>by rw [lX t,show _=Value.bool y from r];rfl
theorem oC:∀{ns:List Int} {its:List Value},Vals (ns.map .int) its->IntsAre its ns
 |[],_,.nil=>.nil
 |n::ns,_,.cons r t=>by obtain ⟨k,rfl⟩:=(show ∃k,_=Value.int n k from r);exact .cons n k (oC t)
theorem all_range {ys:List Bool}:(List.range ys.length).all (fun i=>ys.getD i true)=ys.all id:=by
 induction ys with
 |nil=>rfl
 |cons y ys ih=>
  rw [List.length_cons,List.range_succ_eq_map,List.all_cons,List.all_map,List.all_cons];rw [←ih];rfl
theorem nP {prog:Program} {w:World} {A:Around} {ys:List Bool}:TruthOf prog w A (fun i v=>(ys.map Value.bool).toArray[i]?=some v) (fun i=>ys.getD i true):=fun i v s Q E hv q=>by
 have hv':(ys.map Value.bool)[i]?=some v:=by simpa using hv
 obtain ⟨b,hb,rfl⟩:=Ah hv';have e:ys.getD i true=b:=by simp [hb]
 exact wpAny_truthy_bool (by rw [←e];exact q)
theorem BR (hh:A.handled=none) (b:Bool) (I ax:Addr) (hne:ax≠I) (items:Array Value):Walks prog w A I [I,ax] [I] items.size (fun i v=>items[i]?=some v) (fun i h=>Sit h b I ax i∧Ssq h b ax items):=by
 cases b with
 |true=>exact Walks.tuple hh I ax hne items
 |false=>exact Walks.list hh I ax hne items
theorem qR (hc:X.calm=true):cj X (.builtin "all") (fun xs H Q=>∃(b:Bool) (a:Addr) (ys:List Bool),xs=[.ref a]∧SqB X.K H b a (ys.map .bl)∧Q (.bl (ys.all id)) H):=by
 intro pins s σ H xs us Q I r h;obtain ⟨b,a,ys,rfl,hq,q⟩:=h;obtain ⟨u,rfl,rx⟩:=vals1 r;cases rx;obtain ⟨its,r',pl,hz⟩:=CT.Inv.sqb I hq;have e:=lX r';subst e;have hal:a<s.heap.objs.size:=by
  cases b with
  |true=>obtain ⟨o,ho,_⟩:=pl;exact Cl ho
  |false=>obtain ⟨o,ho,_⟩:=pl;exact Cl ho
 refine call_all_walk (cP pl ⟨_,_,_,_,_,_,_,rfl,BR (A:=X.A.in1) (I.ok.hd hc) b s.heap.objs.size a (EF hal) (ys.map Value.bool).toArray,⟨Sit.new b a,pl.at fun o e=>BT _ e⟩,nP (ys:=ys),fun h' tk hk=>?_⟩);refine ⟨.bl (ys.all id),H,I.kept (t':=tk) fun c o e=>hk c o (by simp;exact EF (Cl e)) (BT _ e),?_,q⟩;show Value.bool _=Value.bool _;rw [List.size_toArray,Ez,all_range]
theorem qW (hc:X.calm=true):cj X (.builtin "sum") (fun xs H Q=>∃(a:Addr) (ns:List Int),xs=[.ref a]∧SqL X.K H a (ns.map .int)∧Q (.int ns.sum) H):=by
 intro pins s σ H xs us Q I r h;obtain ⟨a,ns,rfl,hq,q⟩:=h;obtain ⟨u,rfl,rx⟩:=vals1 r;cases rx;obtain ⟨its,r',pl,hz⟩:=I.list hq;have hi:=oC r';obtain ⟨xs,ex⟩:=hi.allInts.items;have en:xs.toList.map (·.1)=ns:=by rw [←nums_intItems,←ex];exact hi.numsOf
 refine sum_intListG (I.ok.hd hc) (xs:=xs) (by rw [←ex];exact pl.isList) fun h' tk t' hk=>?_;rw [preSum_eq,List.take_of_length_le (by simp),en];exact ⟨.int ns.sum,H,I.kept (t':=tk) hk,⟨t',rfl⟩,q⟩
theorem AS:OpR X (compareOp .Is) (fun x y H Q=>∃a b,x=.bl a∧y=.bl b∧Q (.bl (a==b)) H):=by
 intro pins s σ H x y v u Q I rx ry h;obtain ⟨a,b,rfl,rfl,q⟩:=h;cases rx;cases ry;exact is_bool ⟨.bl _,H,I,rfl,q⟩
theorem sE:OpR X (compareOp .IsNot) (fun x y H Q=>∃a b,x=.bl a∧y=.bl b∧Q (.bl (a !=b)) H):=by
 intro pins s σ H x y v u Q I rx ry h;obtain ⟨a,b,rfl,rfl,q⟩:=h;cases rx;cases ry;exact isnot_bool ⟨.bl _,H,I,rfl,q⟩
theorem uP:OpR X (binaryOp .Add) (fun x y H Q=>∃a b ys,x=.ref a∧y=.ref b∧SqT X.K H a []∧SqT X.K H b ys∧Q (.ref b) H):=by
 intro pins s σ H x y v u Q I rx ry h;obtain ⟨a,b,ys,rfl,rfl,ha,hb,q⟩:=h;cases rx;cases ry;obtain ⟨its,r1,p1,_⟩:=I.tuple ha;obtain ⟨its2,r2,p2,_⟩:=I.tuple hb;cases r1;obtain ⟨⟨cls,dd,data,sl⟩,ho,hc,n,hd⟩:=p1;obtain ⟨⟨cls2,dd2,data2,sl2⟩,ho2,hc2,n2,hd2⟩:=p2;simp only at hc hd hc2 hd2;subst hc hd hc2 hd2;exact concat_meets ⟨_,ho,rfl⟩ ⟨_,ho2,rfl⟩ noFill_tuple_add seq_tuple_add PySem.F.slot_tuple_add PySem.F.entry_tuple_add (PySem.F.args_tuple_add_2 _ _)
  (tuple_addW0 a b #[] its2.toArray n n2 dd dd2 sl sl2 (by simp)) ⟨ho,ho2,⟨.ref b,H,I,rfl,q⟩⟩
theorem yc:OpR X (binaryOp .Mult) (fun x y H Q=>∃a k z,x=.ref a∧y=.int k∧SqT X.K H a [z]∧0<=k∧k<2^20∧(k=1->Q (.ref a) H)∧(k≠1->∀p,H p=none->Q (.ref p) (upd H p (.tup (List.replicate k.toNat z))))):=by
 intro pins s σ H x y v u Q I rx ry h;obtain ⟨a,k,z,rfl,rfl,ha,h0,h1,q1,q2⟩:=h;cases rx;obtain ⟨t,rfl⟩:=ry;obtain ⟨its,r1,p1,_⟩:=I.tuple ha;cases r1 with
 |cons rz rn=>
  cases rn;rename_i uz;obtain ⟨⟨cls,dd,data,sl⟩,ho,hc,n,hd⟩:=p1;simp only at hc hd;subst hc hd;refine wpAny_binaryOp_repeat_ref (T:="tuple") (U:="int") (by decide) ⟨_,ho,rfl⟩ (fun s'=>typeIs_int s' k t) iV F.fills_int_mul F.slot_int_rmul nh F.slot_int_index.lookup
   (call_meets F.slot_int_rmul (typeIs_int s k t) F.entry_int_rmul (F.args_int_rmul_2 _ _) (km k t a dd _ n sl)
    ⟨ho,rfl,⟨_,ho,rfl⟩,call_meets F.slot_tuple_mul ⟨_,ho,rfl⟩ F.entry_tuple_mul (F.args_tuple_mul_2 _ _) (lB a dd uz n sl k t h0 h1) ⟨ho,?_⟩⟩)
  by_cases k1:k=1
  ·rw [if_pos k1];exact ⟨.ref a,H,I,rfl,q1 k1⟩
  ·rw [if_neg k1];have rr:∀m:Nat,Vals (List.replicate m z) (List.replicate m uz):=fun m=>by
    induction m with
    |zero=>exact .nil
    |succ m ih=>exact .cons rz ih
   refine ⟨.ref s.heap.objs.size,_,I.laid (t':=s.toks) (o:=.tup (List.replicate k.toNat z)) (fun b ob q=>BT _ q) (EG _) ?_,rfl,q2 k1 _ (I.hok.fresh (EG _))⟩;exact ⟨by rw [List.length_replicate];show k.toNat<=2^24;omega,_,rr _,IsTup.new _ _⟩
end
set_option autoImplicit true
set_option relaxedAutoImplicit true
section
variable {X:Cx} {ρ:Rho} {e a b:Expr} {es:List Expr} {d da db:D} {ds xs ys:List D} {x:Str} {p pos:Pos}
theorem cL {id:String} {r:List V->Hp->VK->Prop} (hc:cj X (.builtin id) r) (hcd:CD X.K r ds d) (hg:Gl X x) (hm:X.mg x=none) (hv:bootBuiltins x=some (.builtin id)) (ha:DA X ρ (e::es) ds) (hn: ~~~(x≠"__name__")) (hdb: ~~~((x==("__debug__":Str))=false))
  (he:(starEach (e::es) X.env=(false,eval e X.env)::starEach es X.env)⁻¹) (hpl:((backTo pos (starEach es X.env)).any (·.1)=false)⁻¹):DE X ρ (.Call (.Name x p) (e::es) [] pos) d:=PE.weak (uT hc hg hm hv ha hn hdb he hpl) (qQ hcd)
theorem rg (hc:cj X (.type T) r) (hcd:CD X.K r ds d) (hg:Gl X x) (hm:X.mg x=none) (hv:bootBuiltins x=some (.type T)) (ha:DA X ρ (e::es) ds) (hn: ~~~(x≠"__name__")) (hdb: ~~~((x==("__debug__":Str))=false))
  (he:(starEach (e::es) X.env=(false,eval e X.env)::starEach es X.env)⁻¹) (hpl:((backTo pos (starEach es X.env)).any (·.1)=false)⁻¹):DE X ρ (.Call (.Name x p) (e::es) [] pos) d:=PE.weak (g_ hc hg hm hv ha hn hdb he hpl) (qQ hcd)
theorem Sq.sq {K:PySem.W.Frag} {H:Hp} {S:Ad} {v:V} (q:Sq d xs) (r:Rds K H S d v):∃b a vs,v=.ref a∧SqB K H b a vs∧ae K H S xs vs:=by
 obtain ⟨b,a,vs,e,l⟩:=q.later r;exact ⟨b,a,vs,e,l H S Ext.refl fun _ h=>.inl h⟩
theorem SqB.or {K:PySem.W.Frag} {H:Hp} {c:Bool} {a:Addr} {vs:List V} (h:SqB K H c a vs):SqL K H a vs∨SqT K H a vs:=by
 cases c with
 |true=>exact .inr h
 |false=>exact .inl h
theorem zy (q:Sq da xs) (hg:Gl X "len") (hm:X.mg "len"=none) (ha:DA X ρ [e] [da]) (he:(starEach [e] X.env=(false,eval e X.env)::starEach [] X.env)⁻¹) (hpl:((backTo pos (starEach [] X.env)).any (·.1)=false)⁻¹):DE X ρ (.Call (.Name "len" p) [e] [] pos) (.int xs.length):=
 cL l8 (fun vs H S Q rs dm k=>by
  obtain ⟨v,rfl,r⟩:=rs.one;obtain ⟨c,a,us,rfl,sq,rl⟩:=q.sq r;exact ⟨a,us,rfl,sq.or,by rw [←rl.length];exact k _ H Ext.refl (.int _)⟩) hg hm boot_len ha (by decide) (by decide) he hpl
theorem nL:bootBuiltins "tuple"=some (.type "tuple"):=by decide+kernel
theorem pC:bootBuiltins "list"=some (.type "list"):=by decide+kernel
theorem qI:bootBuiltins "all"=some (.builtin "all"):=by decide+kernel
theorem qL:bootBuiltins "sum"=some (.builtin "sum"):=by decide+kernel
theorem d4:bootBuiltins "isinstance"=some (.builtin "isinstance"):=by decide+kernel
theorem ue (q:Sq da xs) (hg:Gl X "tuple") (hm:X.mg "tuple"=none) (ha:DA X ρ [e] [da]) (he:(starEach [e] X.env=(false,eval e X.env)::starEach [] X.env)⁻¹) (hpl:((backTo pos (starEach [] X.env)).any (·.1)=false)⁻¹):DE X ρ (.Call (.Name "tuple" p) [e] [] pos) (.tup xs):=
 rg lA (fun vs H S Q rs dm k=>by
  obtain ⟨v,rfl,r⟩:=rs.one;cases q with
  |lst=>
   obtain ⟨a,us,rfl,sq,rl⟩:=r.gQ;exact ⟨a,us,rfl,.inl ⟨sq,fun l hl=>k _ _ (Ext.new hl) (Rds.ez dm hl rl)⟩⟩
  |tup=>
   obtain ⟨a,us,rfl,h,rl⟩:=r.cf;exact ⟨a,us,rfl,.inr ⟨.inl (.inl h),k _ H Ext.refl r⟩⟩) hg hm nL ha (by decide) (by decide) he hpl
theorem xj (q:Sq da xs) (hg:Gl X "list") (hm:X.mg "list"=none) (ha:DA X ρ [e] [da]) (he:(starEach [e] X.env=(false,eval e X.env)::starEach [] X.env)⁻¹) (hpl:((backTo pos (starEach [] X.env)).any (·.1)=false)⁻¹):DF X ρ (.Call (.Name "list" p) [e] [] pos) xs:=
 PE.weak (g_ l9 hg hm pC ha (by decide) (by decide) he hpl) fun σ H Q ⟨S,ve,k⟩=>⟨S,ve,fun vs H' ex rs=>by
  obtain ⟨v,rfl,r⟩:=rs.one;obtain ⟨c,a,us,rfl,sq,rl⟩:=q.sq r;exact ⟨a,us,rfl,sq.or,fun l hl=>k l us _ (ex.trans (Ext.new hl)) (ex.back hl) aG ((rl.av (S':=S.and l) fun b h=>h.imp_right fun z=>by rw [z];exact hl).ext ((Ext.new hl).to _))⟩⟩
theorem vy {K:PySem.W.Frag} {H:Hp} {S:Ad}:∀{ys:List Bool} {vs:List V},ae K H S (ys.map .bl) vs->vs=ys.map .bl
 |[],_,.nil=>rfl
 |y::ys,_,.cons r t=>by rw [vy t,r.blV];rfl
theorem r6 {K:PySem.W.Frag} {H:Hp} {S:Ad}:∀{ns:List Int} {vs:List V},ae K H S (ns.map .int) vs->vs=ns.map .int
 |[],_,.nil=>rfl
 |y::ys,_,.cons r t=>by rw [r6 t,r.aX];rfl
theorem zq {bs:List Bool} (hc:X.calm=true) (q:Sq da (bs.map .bl)) (hg:Gl X "all") (hm:X.mg "all"=none) (ha:DA X ρ [e] [da]) (he:(starEach [e] X.env=(false,eval e X.env)::starEach [] X.env)⁻¹) (hpl:((backTo pos (starEach [] X.env)).any (·.1)=false)⁻¹):
  DE X ρ (.Call (.Name "all" p) [e] [] pos) (.bl (bs.all id)):=
 cL (qR hc) (fun vs H S Q rs dm k=>by
  obtain ⟨v,rfl,r⟩:=rs.one;obtain ⟨c,a,us,rfl,sq,rl⟩:=q.sq r;exact ⟨c,a,bs,rfl,by rw [←vy rl];exact sq,k _ H Ext.refl (.bl _)⟩) hg hm qI ha (by decide) (by decide) he hpl
theorem zL {ns:List Int} (hc:X.calm=true) (hg:Gl X "sum") (hm:X.mg "sum"=none) (ha:DA X ρ [e] [.lst (ns.map .int)]) (he:(starEach [e] X.env=(false,eval e X.env)::starEach [] X.env)⁻¹) (hpl:((backTo pos (starEach [] X.env)).any (·.1)=false)⁻¹):
  DE X ρ (.Call (.Name "sum" p) [e] [] pos) (.int ns.sum):=
 cL (qW hc) (fun vs H S Q rs dm k=>by
  obtain ⟨v,rfl,r⟩:=rs.one;obtain ⟨a,us,rfl,sq,rl⟩:=r.gQ;exact ⟨a,ns,rfl,by rw [←r6 rl];exact sq,k _ H Ext.refl (.int _)⟩) hg hm qL ha (by decide) (by decide) he hpl
theorem wV (ha:DE X ρ a (.tup xs)) (hb:DE X ρ b (.tup ys)) (hl:xs.length+ys.length<=sizeLine):DE X ρ (.BinOp a .Add b pos) (.tup (xs++ys)):=by
 by_cases hx:xs=[]
 ·subst hx;exact dz uP (fun x y H S Q rx ry dm k=>by
   obtain ⟨p,us,rfl,h1,r1⟩:=rx.cf;obtain ⟨q,vs,rfl,h2,r2⟩:=ry.cf;cases r1;exact ⟨p,q,vs,rfl,rfl,.inl (.inl h1),.inl (.inl h2),k _ H Ext.refl ry⟩) ha hb
 ·exact dz x_ (fun x y H S Q rx ry dm k=>by
   obtain ⟨p,us,rfl,h1,r1⟩:=rx.cf;obtain ⟨q,vs,rfl,h2,r2⟩:=ry.cf;refine ⟨p,q,us,vs,rfl,rfl,.inl (.inl h1),.inl (.inl h2),fun z=>hx ?_,by rw [←r1.length,←r2.length];exact hl,fun z=>?_,fun z l hp=>k _ _ (Ext.new hp) (Rds.ez dm hp (ae.app r1 r2))⟩
   ·subst z;cases r1;rfl
   ·subst z;cases r2;rw [List.append_nil] at k;exact k _ H Ext.refl rx) ha hb
theorem xi (ha:DE X ρ a (.tup [d])) (hb:DE X ρ b (.int k)) (h0:0<=k) (h1:k<2^20):DE X ρ (.BinOp a .Mult b pos) (.tup (List.replicate k.toNat d)):=
 dz yc (fun x y H S Q rx ry dm kk=>by
  obtain ⟨p,us,rfl,h2,r1⟩:=rx.cf;obtain ⟨v,rfl,r⟩:=r1.one;refine ⟨p,k,v,rfl,ry.aX,.inl (.inl h2),h0,h1,fun z=>?_,fun z l hp=>kk _ _ (Ext.new hp) (Rds.ez dm hp (ae.rep r _))⟩;subst z;exact kk _ H Ext.refl rx) ha hb
theorem vw {K:PySem.W.Frag} {H:Hp} {S:Ad} {vs:List V} {i:Int} (r:ae K H S xs vs) (h:atI xs i=some d):∃v,atI vs i=some v∧Rds K H S d v:=by
 unfold atI at h ⊢;rw [←r.length];cases q:ixN xs.length i with
 |none=>rw [q] at h;cases h
 |some j=>
  rw [q] at h;exact r.get h
theorem zw (ha:DE X ρ a (.lst xs)) (hb:DE X ρ b (.int i)) (h:atI xs i=some d) (hs:jM b:=by exact fun _ _=>rfl):DE X ρ (.Subscript a b pos) d:=
 PE.weak (v_ xQ ha hb hs) (mW fun x y H S Q rx ry dm k=>by
  obtain ⟨p,us,rfl,sq,r1⟩:=rx.gQ;obtain ⟨v,hv,r⟩:=vw r1 h;exact ⟨p,us,i,v,rfl,ry.aX,sq,hv,k _ H Ext.refl r⟩)
theorem zx (ha:DE X ρ a (.tup xs)) (hb:DE X ρ b (.int i)) (h:atI xs i=some d) (hs:jM b:=by exact fun _ _=>rfl):DE X ρ (.Subscript a b pos) d:=
 PE.weak (v_ An ha hb hs) (mW fun x y H S Q rx ry dm k=>by
  obtain ⟨p,us,rfl,h2,r1⟩:=rx.cf;obtain ⟨v,hv,r⟩:=vw r1 h;exact ⟨p,us,i,v,rfl,ry.aX,.inl (.inl h2),hv,k _ H Ext.refl r⟩)
theorem t_ (ha:DE X ρ a (.int i)) (hb:DE X ρ b (.int j)) (hc:DE X ρ c (.int k)) (hm:lastMarks [CmpOp.LtE,CmpOp.Lt] [b,c]=false:=by with_unfolding_all rfl):
  DE X ρ (.Compare a [.LtE,.Lt] [b,c] pos) (.bl (decide (i<=j)&&decide (j<k))):=PE.weak (uU v7 v8 ha hb hc hm) fun σ H Q ⟨S,ve,kk⟩=>
 ⟨S,ve,fun x H1 e1 r1=>⟨S,ve.ext e1,fun y H2 e2 r2=>⟨i,j,r1.aX,r2.aX,decide (i<=j),rfl,by
  cases hq:decide (i<=j) with
  |false=>
   rw [hq] at kk;exact fP (kk _ H2 (e1.trans e2) (.bl _))
  |true=>
   rw [hq,Bool.true_and] at kk;exact eS ⟨S,(ve.ext e1).ext e2,fun z H3 e3 r3=>⟨j,k,r2.aX,r3.aX,kk _ H3 (e1.trans (e2.trans e3)) (.bl _)⟩⟩⟩⟩⟩
structure Isi (K:PySem.W.Frag) (C:Addr):Prop where
 cl:Cls K C
 ha:PySem.W.findIn K (.ref C) "__class__"=some (some (.builtin "object.__class__"))
 hn:PySem.W.specialIn K (.builtin "object.__class__") "__get__"=some (some (.builtin "getset_descriptor.__get__"))
 tk:PySem.W.takesIn K (.builtin "object.__class__")=some true
 mr:PySem.W.mroIn K C (.type "object")=some true
structure pq (K:PySem.W.Frag) (C:Addr):Prop where
 cl:iL K C
 ha:PySem.W.findIn K (.ref C) "__class__"=some (some (.builtin "object.__class__"))
 hn:PySem.W.specialIn K (.builtin "object.__class__") "__get__"=some (some (.builtin "getset_descriptor.__get__"))
 tk:PySem.W.takesIn K (.builtin "object.__class__")=some true
theorem pq.find {K:PySem.W.Frag} {C:Addr} (i:pq K C) (od:Option Obj):PySem.W.findObj K C od "__class__"=some (.bind (.builtin "getset_descriptor.__get__") (.builtin "object.__class__")):=by
 obtain ⟨cd,hc,_⟩:=PySem.W.any_some i.cl.ov;unfold PySem.W.findObj;rw [hc,Option.bind_some,i.ha,Option.bind_some];simp [i.hn,i.tk]
inductive TyD (K:PySem.W.Frag):D->Value->Prop
 |non:TyD K .non (.type "NoneType")
 |bl (b:Bool):TyD K (.bl b) (.type "bool")
 |int (i:Int):TyD K (.int i) (.type "int")
 |str (x:Str):TyD K (.str x) (.type "str")
 |tup (xs:List D):TyD K (.tup xs) (.type "tuple")
 |lst (xs:List D):TyD K (.lst xs) (.type "list")
 |ins {C:Addr} (fs:List (Str×D)) (i:Isi K C):TyD K (.ins C fs) (.ref C)
 |exc {C:Addr} (fs:List (Str×D)) (i:pq K C):TyD K (.exc C fs) (.ref C)
 |dct (kvs:List (D×D)):TyD K (.dct kvs) (.type "dict")
 |pdc (es:List (PK×D)):TyD K (.pdc es) (.type "dict")
theorem vU (I:Inv X pins σ H s) (r:Rds X.K H S d v) (rv:RelV v u) (ty:TyD X.K d t):
  ∃Hh:Heap->Prop,PySem.W.KitX X.K u t Hh∧Hh s.heap∧u≠.builtin "__main__.__loader__#opaque":=by
 cases ty with
 |non=>cases r;cases (show u=Value.none from rv);exact ⟨_,PySem.W.kitx_none,True.intro,fun z=>nomatch z⟩
 |bl b=>cases r;cases (show u=Value.bool b from rv);exact ⟨_,PySem.W.kitx_bool,True.intro,fun z=>nomatch z⟩
 |int i=>cases r;obtain ⟨t,q⟩:=(show ∃t,u=Value.int i t from rv);cases q;exact ⟨_,PySem.W.kitx_int,True.intro,fun z=>nomatch z⟩
 |str x=>cases r;obtain ⟨t,q⟩:=(show ∃t,u=Value.str x t from rv);cases q;exact ⟨_,PySem.W.kitx_str,True.intro,fun z=>nomatch z⟩
 |tup xs=>
  obtain ⟨a,vs,rfl,h,_⟩:=r.cf;cases (show u=Value.ref a from rv);obtain ⟨its,_,⟨o,h1,h2,_⟩,_⟩:=I.tuple (.inl (.inl h));exact ⟨_,PySem.W.kitx_tuple,⟨o,h1,h2⟩,fun z=>nomatch z⟩
 |lst xs=>
  obtain ⟨a,vs,rfl,h,_⟩:=r.gQ;cases (show u=Value.ref a from rv);obtain ⟨its,_,⟨o,n,h1,h2,_⟩,_⟩:=I.list h;exact ⟨_,PySem.W.kitx_list,⟨o,h1,h2⟩,fun z=>nomatch z⟩
 |@ins C fs i=>
  obtain ⟨a,dx,gs,rfl,h,_⟩:=r.jX;cases (show u=Value.ref a from rv);obtain ⟨mA,O,_⟩:=hZ I.hok h;obtain ⟨od,J,_⟩:=O.look;exact ⟨_,PySem.W.kitx_own (i.cl.get _) i.cl.hd i.ha i.hn i.tk i.mr,J,fun z=>nomatch z⟩
 |@exc C fs i=>
  cases r with
  |@mB fr a _ h n=>
   cases (show u=Value.ref a from rv);obtain ⟨vs,h1,_⟩:=rP (I.hok a _ h);exact ⟨_,mM (ox:=⟨.ref C,none,.fields vs,#[]⟩) (od:=none) i.cl (i.find none),⟨h1,rfl,rfl,trivial⟩,fun z=>nomatch z⟩
  |@exc fr a _ dx _ gs h h2 n n2 rf=>
   cases (show u=Value.ref a from rv);obtain ⟨vs,mA,odd,h1,_,_,_,J,_⟩:=C_ I h h2;exact ⟨_,mM i.cl (i.find _),J,fun z=>nomatch z⟩
 |dct kvs=>
  cases r with
  |@dK a ks _ h _ _ _=>
   cases (show u=Value.ref a from rv);obtain ⟨_,_,_,_,o,_,_,h1,h2,_⟩:=I.hok a _ h;exact ⟨_,PySem.W.kitx_dict,⟨o,h1,h2.1⟩,fun z=>nomatch z⟩
 |pdc es=>
  cases r with
  |@dP a ep ks _ h _ _=>
   cases (show u=Value.ref a from rv);obtain ⟨_,_,_,_,o,_,h1,h2,_⟩:=cJ I.hok h;exact ⟨_,PySem.W.kitx_dict,⟨o,h1,h2.1⟩,fun z=>nomatch z⟩
inductive ClD:D->Value->Prop
 |ty (n:String):ClD (.ty n) (.type n)
 |cl (C:Addr):ClD (.cl C) (.ref C)
inductive iG:List D->List Value->Prop
 |nil:iG [] []
 |cons {d:D} {c:Value} {ds:List D} {cs:List Value}:ClD d c->iG ds cs->iG (d::ds) (c::cs)
theorem ClD.val {K:PySem.W.Frag} {H:Hp} {S:Ad} {v:V} {u c:Value} (h:ClD d c) (r:Rds K H S d v) (rv:RelV v u):u=c:=by
 cases h with
 |ty n=>cases r;exact rv
 |cl C=>cases r;exact rv
theorem iG.vals {K:PySem.W.Frag} {H:Hp} {S:Ad}:∀{ds:List D} {vs:List V} {us cs:List Value},iG ds cs->ae K H S ds vs->Vals vs us->us=cs
 |_,_,_,_,.nil,.nil,.nil=>rfl
 |_,_,_,_,.cons h t,.cons r rt,.cons q qt=>by rw [h.val r q,iG.vals t rt qt]
theorem kH {t:TA} {R:V->V->Hp->VK->Prop} (hR:∀(pins:List (Addr×Obj)) (s:Shared) (σ:St) (H:Hp) (x y:V) (u c:Value) (Q:VK),Inv X pins σ H s->RelV x u->RelV y c->R x y H Q->wpAny (model X.prog X.w) X.A (call (.builtin "isinstance") [u,c]) (EP X pins σ Q) X.xe s):
  cj X (.builtin "isinstance") (fun xs H Q=>∃x y,xs=[x,y]∧R x y H Q):=by
 intro pins s σ H xs us Q I r h;obtain ⟨x,y,rfl,q⟩:=h;cases r with
 |cons r1 r2=>
  cases r2 with
  |cons r2 r3=>
   cases r3;exact hR pins s σ H x y _ _ Q I r1 r2 q
theorem zv {t c:Value} {q:Bool} {dc:D} (hg:Gl X "isinstance") (hm:X.mg "isinstance"=none) (ty:TyD X.K d t) (cl:ClD dc c) (hk:PySem.W.kitOne X.K t c=some q) (ha:DA X ρ [a,b] [d,dc])
  (he:(starEach [a,b] X.env=(false,eval a X.env)::starEach [b] X.env)⁻¹) (hpl:((backTo pos (starEach [b] X.env)).any (·.1)=false)⁻¹):DE X ρ (.Call (.Name "isinstance" p) [a,b] [] pos) (.bl q):=by
 refine cL (kH (t:=qD) (R:=fun x y H Q=>∃S,Rds X.K H S d x∧Rds X.K H S dc y∧Q (.bl q) H) ?_) (fun vs H S Q rs dm k=>?_) hg hm d4 ha (by decide) (by decide) he hpl
 ·intro pins s σ H x y u cv Q I rx ry ⟨S,r1,r2,qq⟩;obtain ⟨Hh,Z,hh,hx⟩:=vU I r1 rx ty;rw [cl.val r2 ry];exact PySem.W.kia_one Z I.kIn hh hk hx fun tk=>⟨.bl q,H,I.tok tk,rfl,qq⟩
 ·obtain ⟨v,u,rfl,r1,r2⟩:=rs.two;exact ⟨v,u,rfl,S,r1,r2,k _ H Ext.refl (.bl _)⟩
theorem wX {t:Value} {cs:List Value} {q:Bool} {dcs:List D} (hg:Gl X "isinstance") (hm:X.mg "isinstance"=none) (ty:TyD X.K d t) (cl:iG dcs cs) (hk:PySem.W.kitAny X.K t cs=some q) (ha:DA X ρ [a,b] [d,.tup dcs])
  (he:(starEach [a,b] X.env=(false,eval a X.env)::starEach [b] X.env)⁻¹) (hpl:((backTo pos (starEach [b] X.env)).any (·.1)=false)⁻¹):DE X ρ (.Call (.Name "isinstance" p) [a,b] [] pos) (.bl q):=by
 refine cL (kH (t:=qD) (R:=fun x y H Q=>∃S,Rds X.K H S d x∧Rds X.K H S (.tup dcs) y∧Q (.bl q) H) ?_) (fun vs H S Q rs dm k=>?_) hg hm d4 ha (by decide) (by decide) he hpl
 ·intro pins s σ H x y u cv Q I rx ry ⟨S,r1,r2,qq⟩;obtain ⟨Hh,Z,hh,hx⟩:=vU I r1 rx ty;obtain ⟨tp,us,rfl,h2,rl⟩:=r2.cf;cases (show cv=Value.ref tp from ry);obtain ⟨its,rv,⟨⟨oc,od,odt,osl⟩,h3,h4,n,h5⟩,_⟩:=I.tuple (.inl (.inl h2));simp only at h4 h5;subst h4 h5;rw [←cl.vals rl rv] at hk;exact PySem.W.kia_tup Z I.kIn hh h3 hk hx fun tk=>⟨.bl q,H,I.tok tk,rfl,qq⟩
 ·obtain ⟨v,u,rfl,r1,r2⟩:=rs.two;exact ⟨v,u,rfl,S,r1,r2,k _ H Ext.refl (.bl _)⟩
mutual
noncomputable def toPy:D->PyData
 |.non=>.none|.bl b=>.bool b|.int i=>.int i|.str x=>.str x
 |.tup xs=>.tuple (dS xs)|.lst xs=>.list (dS xs)
 |.ins _ _=>.none|.ty _=>.none|.cl _=>.none|.exc _ _=>.none|.dct _=>.none|.pdc _=>.none
noncomputable def dS:List D->List PyData
 |[]=>[]
 |x::xs=>toPy x::dS xs
end
mutual
noncomputable def bc:D->Bool
 |.non=>true|.bl _=>true|.int _=>true|.str x=>PyData.strOk x
 |.tup xs=>b7 xs|.lst xs=>b7 xs
 |.ins _ _=>false|.ty _=>false|.cl _=>false|.exc _ _=>false|.dct _=>false|.pdc _=>false
noncomputable def b7:List D->Bool
 |[]=>true
 |x::xs=>bc x&&b7 xs
end
mutual
theorem c9:∀{d:D},bc d=true->(toPy d).canLay0=true
 |.non,_=>rfl
 |.bl _,_=>rfl
 |.int _,_=>rfl
 |.str x,h=>h
 |.tup xs,h=>iQ (xs:=xs) h
 |.lst xs,h=>iQ (xs:=xs) h
 |.ins _ _,h=>nomatch h
 |.exc _ _,h=>nomatch h
 |.dct _,h=>nomatch h
 |.pdc _,h=>nomatch h
 |.ty _,h=>nomatch h
 |.cl _,h=>nomatch h
theorem iQ:∀{xs:List D},b7 xs=true->PyData.canLayAll0 (dS xs)=true
 |[],_=>rfl
 |x::xs,h=>by
  have h':bc x=true∧b7 xs=true:=by simpa [b7] using h
  show (PyData.canLay0 (toPy x)&&PyData.canLayAll0 (dS xs))=true;rw [c9 h'.1,iQ h'.2];rfl
end
section
variable {pins:List (Addr×Obj)} {σ:St} {H:Hp} {s:Shared} {S:Ad}
mutual
theorem dq (I:Inv X pins σ H s):∀(d:D) {v:V} {u:Value},bc d=true->Rds X.K H S d v->RelV v u->∃as,Reads s.heap u (toPy d) as
 |.non,_,u,_,r,q=>by cases r;cases (show u=Value.none from q);exact ⟨_,.none⟩
 |.bl b,_,u,_,r,q=>by cases r;cases (show u=Value.bool b from q);exact ⟨_,.bool b⟩
 |.int i,_,u,_,r,q=>by cases r;obtain ⟨t,q⟩:=(show ∃t,u=Value.int i t from q);cases q;exact ⟨_,.int i t⟩
 |.str x,_,u,_,r,q=>by cases r;obtain ⟨t,q⟩:=(show ∃t,u=Value.str x t from q);cases q;exact ⟨_,.str x t⟩
 |.tup xs,_,u,hd,r,q=>by
  obtain ⟨a,vs,rfl,h,rl⟩:=r.cf;cases (show u=Value.ref a from q);obtain ⟨its,rv,⟨o,h1,h2,k,h3⟩,_⟩:=I.tuple (.inl (.inl h));obtain ⟨as,ra⟩:=iZ I xs hd rl rv;exact ⟨_,.tuple h1 h2 h3 ra⟩
 |.lst xs,_,u,hd,r,q=>by
  obtain ⟨a,vs,rfl,h,rl⟩:=r.gQ;cases (show u=Value.ref a from q);obtain ⟨its,rv,⟨o,k,h1,h2,_,h3⟩,_⟩:=I.list h;obtain ⟨as,ra⟩:=iZ I xs hd rl rv;exact ⟨_,.list h1 h2 h3 ra⟩
 |.ins _ _,_,_,h,_,_=>nomatch h
 |.exc _ _,_,_,h,_,_=>nomatch h
 |.dct _,_,_,h,_,_=>nomatch h
 |.pdc _,_,_,h,_,_=>nomatch h
 |.ty _,_,_,h,_,_=>nomatch h
 |.cl _,_,_,h,_,_=>nomatch h
theorem iZ (I:Inv X pins σ H s):∀(ds:List D) {vs:List V} {us:List Value},b7 ds=true->ae X.K H S ds vs->Vals vs us->∃as,ReadsAll s.heap us (dS ds) as
 |[],_,_,_,r,q=>by cases r;cases q;exact ⟨_,.nil⟩
 |d::ds,_,_,hd,r,q=>by
  cases r with
  |cons r t=>
   cases q with
   |cons q qt=>
    have h':bc d=true∧b7 ds=true:=by simpa [b7] using hd
    obtain ⟨as,ra⟩:=dq I d h'.1 r q;obtain ⟨bs,rb⟩:=iZ I ds h'.2 t qt;exact ⟨_,.cons ra rb⟩
end
end
noncomputable def eqD (d d':D):Bool:=PyData.eqv (toPy d) (toPy d')
theorem AQ {hu:X.A.units+64<cLine} (h1:bc da=true) (h2:bc db=true) (hd:min (toPy da).depth (toPy db).depth<=64):OpR X (compareOp .Eq) (fun x y H Q=>∃S,Rds X.K H S da x∧Rds X.K H S db y∧Q (.bl (eqD da db)) H):=by
 intro pins s σ H x y v u Q I rx ry ⟨S,r1,r2,q⟩;obtain ⟨as,ra⟩:=dq I _ h1 r1 rx;obtain ⟨bs,rb⟩:=dq I _ h2 r2 ry;exact SeqAt.compareEq_reads ra rb (c9 h1) (c9 h2) (ED (Nat.add_le_add_left hd _) hu) ⟨.bl _,H,I,rfl,q⟩
theorem AW {hu:X.A.units+64<cLine} (h1:bc da=true) (h2:bc db=true) (hd:min (toPy da).depth (toPy db).depth<=64):OpR X (compareOp .NotEq) (fun x y H Q=>∃S,Rds X.K H S da x∧Rds X.K H S db y∧Q (.bl (!eqD da db)) H):=by
 intro pins s σ H x y v u Q I rx ry ⟨S,r1,r2,q⟩;obtain ⟨as,ra⟩:=dq I _ h1 r1 rx;obtain ⟨bs,rb⟩:=dq I _ h2 r2 ry;exact SeqAt.compareNe_reads ra rb (c9 h1) (c9 h2) (ED (Nat.add_le_add_left hd _) hu) ⟨.bl _,H,I,rfl,q⟩
end
set_option autoImplicit true
set_option relaxedAutoImplicit true
noncomputable def du (scope sc:Scope):Scope:={scope with names:=scope.names.map fun (n,k)=>if (k==.free&&sc.kind==.function&&sc.names.lookup n==some .cell) then (n,.cell) else (n,k)}
noncomputable def jT (scope:Scope) (own:List Str) (cap:List (Str×Nat)) (sc:Scope) (N:List Str):Bool:=
 decide (scope.kind=.function)&&decide ((scope.names.map (·.1)).Nodup)&&(scope.names.all fun x=>x.2 !=.free||sc.names.lookup x.1==some .cell||sc.names.lookup x.1==some .free)&&
  (own.all fun x=>scope.names.contains (x,.local)||scope.names.contains (x,.cell))&&(cap.all fun p=>N[p.2]?==some p.1&&scope.names.contains (p.1,.free))&&decide ((own++cap.map (·.1)).Nodup)
theorem CS.of (sc:Scope) (N:List Str) (h1:X.env.scope=sc) (h2:X.N=N) (h:jT scope own cap sc N=true):CS X scope own cap:=by
 unfold jT at h;simp only [Bool.and_eq_true,decide_eq_true_eq,List.all_eq_true,Bool.or_eq_true,beq_iff_eq,bne_iff_ne,ne_eq,List.contains_iff_mem] at h;obtain ⟨⟨⟨⟨⟨a1,a2⟩,a3⟩,a4⟩,a5⟩,a6⟩:=h;subst h2;refine ⟨a1,a2,fun x hx e=>?_,a4,a5,a6⟩;show X.env.scope.names.lookup x.1=_∨X.env.scope.names.lookup x.1=_;rw [h1];rcases a3 x hx with (z|z)|z
 ·exact absurd e z
 ·exact .inl z
 ·exact .inr z
theorem lu:∀{ks ns:List Int},cg (ks.map .int) (ns.map .int)=(ks.zip ns).map fun p=>.tup [.int p.1,.int p.2]
 |[],_=>by simp [cg]
 |_::_,[]=>by simp [cg]
 |k::ks,n::ns=>by simp [cg,lu]
noncomputable def aq (n:Int):List Int:=(List.range n.toNat).map fun k:Nat=>(k:Int)
theorem tu (n:Int):i9 n.toNat=(aq n).map D.int:=by simp [i9,aq]
theorem kU (n:Nat):(aq n).length=n:=by simp [aq]
theorem dC (h:k∈aq n):0<=k∧k<n:=by
 obtain ⟨i,hi,rfl⟩:=Es.mp h;have:=List.mem_range.mp hi;omega
theorem rD (hg:Gl X "range") (hm:X.mg "range"=none) (ha:DA X ρ [a] [.int j]) (h1: -(2^62)<=j) (h2:j<2^62) (hs:(starEach [a] X.env=[(false,eval a X.env)])⁻¹):DI X tg ρ (.Call (.Name "range" p) [a] [] pos) ((aq j).map D.int):=by
 rw [←tu];exact uj hg hm ha h1 h2 hs
noncomputable abbrev lM (ns:List Int):List D:=ns.map .int
noncomputable abbrev tupI (ns:List Int):D:=.tup (ns.map .int)
noncomputable def Wk (ρ ρ':Rho):Prop:=ρ'.length=ρ.length∧∀(i:Nat) (x:Sl),ρ'[i]?=some x->x=.any∨ρ[i]?=some x
theorem Fm.wk {K:PySem.W.Frag} {H₀ H:Hp} {S₀ S:Ad} {ρ ρ':Rho} {σ:St} (w:Wk ρ ρ') (f:Fm K H₀ S₀ H S ρ σ):Fm K H₀ S₀ H S ρ' σ:=by
 have go:∀(i:Nat) (x:Sl),ρ'[i]?=some x->x.dh->ρ[i]?=some x:=fun i x h o=>by
  rcases w.2 i x h with z|z
  ·rw [z] at o;exact o.elim
  ·exact z
 refine ⟨⟨w.1.trans f.ve.len,fun i x h=>?_,fun i j x y a hij h1 h2 o1 o2=>f.ve.dist i j x y a hij (go i x h1 o1) (go j y h2 o2) o1 o2,f.ve.dom⟩,f.ext,f.sub,f.new,f.dm,fun i x a h o=>f.own i x a (go i x h o) o⟩;rcases w.2 i x h with z|z
 ·subst z;have hi:=(Eu.mp h).1;have hi':i<σ.length:=by rw [←f.ve.len,←w.1];exact hi
  exact ⟨σ[i],by simp [hi'],trivial⟩
 ·exact f.ve.rel i x z
section
variable {X:Cx} {ρ ρ' ρ1:Rho} {sts:List Stmt} {st:Stmt} {o:Out}
theorem jV (w:Wk ρ ρ') (h:DSs X ρ' sts o):DSs X ρ sts o:=PSs.weak h fun E σ H ⟨H₀,S₀,S,f,k⟩=>⟨H₀,S₀,S,f.wk w,k⟩
end
mutual
noncomputable def ah:D->Bool
 |.non=>true|.bl _=>true|.int _=>true|.str _=>true|.ty _=>true|.cl _=>false
 |.tup xs=>aR xs|.lst _=>false|.ins _ fs=>fj fs|.exc _ _=>false|.dct _=>false|.pdc _=>false
noncomputable def aR:List D->Bool
 |[]=>true
 |x::xs=>ah x&&aR xs
noncomputable def fj:List (Str×D)->Bool
 |[]=>true
 |(_,x)::xs=>ah x&&fj xs
end
section
variable {K:PySem.W.Frag} {H:Hp} {S:Ad} {a:Addr} {us:List V} {o:HO}
noncomputable def fv (a:Addr) (o:HO):Prop:=(∃vs,o=.lst vs)∨∃ep kvs,o=PD a ep kvs
theorem fv.tup (c:fv a o) (ha:H a=some o) (e:H b=some (.tup vs)):b≠a:=fun q=>by
 rw [q,ha] at e;rcases c with ⟨_,rfl⟩|⟨_,_,rfl⟩<;>cases e
theorem fv.ins (c:fv a o) (ha:H a=some o) (e:H b=some (.ins C dx gs)):b≠a:=fun q=>by
 rw [q,ha] at e;rcases c with ⟨_,rfl⟩|⟨_,_,rfl⟩<;>cases e
mutual
theorem Rds.cK (cc:fv a o) (ha:H a=some o):∀(d:D) {v:V},ah d=true->Rds K H S d v->Rds K H (S.and a) d v
 |.non,_,_,r=>by cases r;exact .non
 |.bl b,_,_,r=>by cases r;exact .bl b
 |.int i,_,_,r=>by cases r;exact .int i
 |.str x,_,_,r=>by cases r;exact .str x
 |.ty n,_,_,r=>by cases r;exact .ty n
 |.cl _,_,h,_=>nomatch h
 |.lst _,_,h,_=>nomatch h
 |.exc _ _,_,h,_=>nomatch h
 |.dct _,_,h,_=>nomatch h
 |.pdc _,_,h,_=>nomatch h
 |.tup xs,_,h,r=>by
  cases r with
  |tup e n r=>exact .tup e (fun z=>z.elim n (cc.tup ha e)) (ae.cK cc ha xs h r)
 |.ins C fs,_,h,r=>by
  cases r with
  |ins e n r=>exact .ins e (fun z=>z.elim n (cc.ins ha e)) (aH.cK cc ha fs h r)
theorem ae.cK (cc:fv a o) (ha:H a=some o):∀(ds:List D) {vs:List V},aR ds=true->ae K H S ds vs->ae K H (S.and a) ds vs
 |[],_,_,r=>by cases r;exact .nil
 |d::ds,_,h,r=>by
  have h':ah d=true∧aR ds=true:=by simpa [aR] using h
  cases r with
  |cons r t=>exact .cons (Rds.cK cc ha d h'.1 r) (ae.cK cc ha ds h'.2 t)
theorem aH.cK (cc:fv a o) (ha:H a=some o):∀(ds:List (Str×D)) {vs:List (Str×V)},fj ds=true->aH K H S ds vs->aH K H (S.and a) ds vs
 |[],_,_,r=>by cases r;exact .nil
 |(n,d)::ds,_,h,r=>by
  have h':ah d=true∧fj ds=true:=by simpa [fj] using h
  cases r with
  |cons r t=>exact .cons (Rds.cK cc ha d h'.1 r) (aH.cK cc ha ds h'.2 t)
end
end
theorem cn:∀ks:List Int,aR (ks.map .int)=true
 |[]=>rfl
 |k::ks=>by show (true&&aR (ks.map .int))=true;rw [cn ks];rfl
theorem VE.vQ {K:PySem.W.Frag} {H:Hp} {S:Ad} {ρ:Rho} {σ:St} {i:Nat} {c:Ow} (f:VE K H S ρ σ) (hr:ρ[i]?=some (.owx c)):∃S' a o,H a=some o∧fv a o∧(∀b,S b->S' b∨b=a)∧VE K H S' (ρ.set i (.val c.D)) σ:=by
 obtain ⟨v,q1,a,vs,rfl,sa,ha,r⟩:=f.rel i _ hr;have hi:=(Eu.mp hr).1;have own_ne:∀(m:Nat) (x:Sl) (c:Addr),i≠m->ρ[m]?=some x->x.dh->σ[m]?=some (some (.ref c))->c≠a:=fun m x c hm h ho hs z=>f.dist i m _ x a hm hr h trivial ho q1 (by rw [hs,z]);refine ⟨fun b=>S b∧b≠a,a,vs,ha,r.sort,fun b h=>(Classical.em (b=a)).elim .inr fun n=>.inl ⟨h,n⟩,⟨by simpa using f.len,fun j x h=>?_,fun j k x y b hjk h1 h2 o1 o2 h3=>?_,fun b h=>f.dom b h.1⟩⟩
 ·by_cases hj:i=j
  ·subst hj;rw [Ew hi] at h;cases h;exact ⟨_,q1,_,rfl,(r.av fun b h=>.inl h.1).rds ha fun z=>z.2 rfl⟩
  ·rw [Ex hj] at h;obtain ⟨v,h1,h2⟩:=f.rel j x h;refine ⟨v,h1,?_⟩;cases x with
   |nil=>exact h2
   |any=>trivial
   |val d=>obtain ⟨u,p,r⟩:=h2;exact ⟨u,p,r.av fun b h=>.inl h.1⟩
   |owx zs=>exact RO.av (x:=.owx zs) (fun b h=>.inl h.1) (fun b z s=>⟨s,own_ne j _ b hj h trivial (by rw [h1,z])⟩) h2
   |new C y dx fs=>exact RO.av (x:=.new C y dx fs) (fun b h=>.inl h.1) (fun b z s=>⟨s,own_ne j _ b hj h trivial (by rw [h1,z])⟩) h2
 ·have n1:i≠j:=fun z=>by
   subst z;rw [Ew hi] at h1;cases h1;exact o1
  have n2:i≠k:=fun z=>by
   subst z;rw [Ew hi] at h2;cases h2;exact o2
  rw [Ex n1] at h1;rw [Ex n2] at h2;exact f.dist j k x y b hjk h1 h2 o1 o2 h3
theorem ud (hr:ρ[i]?=some (.owx c)) (hf:ah d=true) (h:DE X (ρ.set i (.val c.D)) e d):DE X ρ e d:=PE.weak h fun σ H Q ⟨S,ve,k⟩=>by
 obtain ⟨S',a,us,ha,cc,hS,ve'⟩:=ve.vQ hr;refine ⟨S',ve',fun v H' ex r=>k v H' ex ?_⟩;exact (Rds.cK cc (ex _ _ (fun z=>z) ha) d hf r).av fun b h=>.inl (hS b h)
set_option autoImplicit true
set_option relaxedAutoImplicit true
noncomputable def a_:List D->List D->List D->List D
 |x::xs,y::ys,z::zs=>.tup [x,y,z]::a_ xs ys zs
 |_,_,_=>[]
theorem lq:∀{xs ys zs:List D} {i:Nat} {d:D},(a_ xs ys zs)[i]?=some d->∃x y z,xs[i]?=some x∧ys[i]?=some y∧zs[i]?=some z∧d=.tup [x,y,z]
 |x::xs,y::ys,z::zs,0,d,h=>by
  simp [a_] at h;exact ⟨x,y,z,rfl,rfl,rfl,h.symm⟩
 |x::xs,y::ys,z::zs,i+1,d,h=>by
  simp [a_] at h;obtain ⟨x',y',z',h1,h2,h3,h4⟩:=lq h;exact ⟨x',y',z',by simpa using h1,by simpa using h2,by simpa using h3,h4⟩
 |[],_,_,_,_,h=>by simp [a_] at h
 |_::_,[],_,_,_,h=>by simp [a_] at h
 |_::_,_::_,[],_,_,h=>by simp [a_] at h
theorem lr:∀{xs ys zs:List D},(a_ xs ys zs).length=min xs.length (min ys.length zs.length)
 |x::xs,y::ys,z::zs=>by simp [a_,lr]
 |[],_,_=>by simp [a_]
 |_::_,[],_=>by simp [a_]
 |_::_,_::_,[]=>by simp [a_]
section
variable {X:Cx} {ρ:Rho} {pos p tpos:Pos} {a b c:Expr}
theorem xo {da db dc:D} {xs ys zs:List D} {elts:List Expr} {k} (hg:Gl X "zip") (hm:X.mg "zip"=none) (qa:Sq da xs) (qb:Sq db ys) (qc:Sq dc zs) (ha:DA X ρ [a,b,c] [da,db,dc])
  (hs:(starEach [a,b,c] X.env=[(false,eval a X.env),(false,eval b X.env),(false,eval c X.env)])⁻¹) (hs2:(starEach [b,c] X.env=[(false,eval b X.env),(false,eval c X.env)])⁻¹):DI X (.Tuple elts k tpos) ρ (.Call (.Name "zip" p) [a,b,c] [] pos) (a_ xs ys zs):=
 rF hg hm ha (.cons qa (.cons qb (.cons qc .nil))) (.inr rfl) (by rw [hs,hs2]) (by rw [hs2];rfl) (fun i d h=>by obtain ⟨x,y,z,hx,hy,hz,rfl⟩:=lq h;exact ⟨_,rfl,.cons hx (.cons hy (.cons hz .nil))⟩) fun i h=>by
  rw [lr] at h
  by_cases z:xs.length<=i
  ·exact ⟨xs,by simp,z⟩
  by_cases z:ys.length<=i
  ·exact ⟨ys,by simp,z⟩
  ·exact ⟨zs,by simp,by omega⟩
end
inductive WhO (X:Cx) (c:Expr) (body:List Stmt):Nat->Rho->Out->Prop
 |stop {n:Nat} {ρ:Rho}:DT X ρ c false->WhO X c body n ρ (.nx ρ)
 |turn {n:Nat} {ρ ρ':Rho} {o:Out}:DT X ρ c true->DSs X ρ body (.nx ρ')->WhO X c body n ρ' o->WhO X c body (n+1) ρ o
 |ret {n:Nat} {ρ:Rho} {o:Out}:DT X ρ c true->DSs X ρ body o->o.ends->WhO X c body n ρ o
theorem uq (hp:PassesOwn (model X.prog X.w) X.A X.env X.xe) (h:WhO X c body n ρ o):DS X ρ (.While c body [] pos) o:=by
 have pc:PT X c (ttA X.K fun ρ b=>DT X ρ c b):=fun pins s σ H Q I ⟨_,_,g,q⟩=>g pins s σ H Q I q;refine PS.weak (u7 hp pc (ip (sts:=body))) ?_;rintro E σ H ⟨H₀,S₀,S,f,k⟩;refine ⟨fun m σ' H'=>∃S' ρ',Fm X.K H₀ S₀ H' S' ρ' σ'∧WhO X c body m ρ' o,⟨n,S,ρ,f,h⟩,?_⟩;rintro m σ' H' ⟨S',ρ',f',hw⟩;cases hw with
 |stop hc=>exact ⟨ρ',false,hc,S',f'.ve,fun H1 ex=>fP (k σ' H1 S' (f'.grow ex))⟩
 |turn hc hb hr=>
  rename_i n ρ2;refine ⟨ρ',true,hc,S',f'.ve,fun H1 ex=>eS ⟨fun σ2 H2=>∃S2,Fm X.K H₀ S₀ H2 S2 ρ2 σ2,fun σ2 H2 ⟨S2,f2⟩=>⟨n,Nat.lt_succ_self _,S2,ρ2,f2,hr⟩,ρ',_,hb,H₀,S₀,S',f'.grow ex,fun σ3 H3 S3 f3=>⟨S3,f3⟩⟩⟩
 |ret hc hb hend=>
  refine ⟨ρ',true,hc,S',f'.ve,fun H1 ex=>eS ⟨fun _ _=>False,fun _ _ z=>z.elim,ρ',o,hb,H₀,S₀,S',f'.grow ex,?_⟩⟩;cases o with
  |nx _=>exact hend.elim
  |rt d=>exact k
  |rfx xs=>exact k
section
variable {X:Cx} {ρ:Rho} {e a b:Expr} {p pos:Pos} {da:D}
theorem qK:bootBuiltins "min"=some (.builtin "min"):=by decide+kernel
theorem qJ:bootBuiltins "max"=some (.builtin "max"):=by decide+kernel
theorem xa (hc:X.calm=true) (hg:Gl X "min") (hm:X.mg "min"=none) (ha:DA X ρ [a,b] [.int i,.int j]) (he:(starEach [a,b] X.env=(false,eval a X.env)::starEach [b] X.env)⁻¹) (hpl:((backTo pos (starEach [b] X.env)).any (·.1)=false)⁻¹):
  DE X ρ (.Call (.Name "min" p) [a,b] [] pos) (.int (if j<i then j else i)):=
 cL (qV hc) (fun vs H S Q rs dm k=>by
  obtain ⟨v,u,rfl,r1,r2⟩:=rs.two;exact ⟨i,j,by rw [r1.aX,r2.aX],k _ H Ext.refl (.int _)⟩) hg hm qK ha (by decide) (by decide) he hpl
theorem wZ (hc:X.calm=true) (hg:Gl X "max") (hm:X.mg "max"=none) (ha:DA X ρ [a,b] [.int i,.int j]) (he:(starEach [a,b] X.env=(false,eval a X.env)::starEach [b] X.env)⁻¹) (hpl:((backTo pos (starEach [b] X.env)).any (·.1)=false)⁻¹):
  DE X ρ (.Call (.Name "max" p) [a,b] [] pos) (.int (if j>i then j else i)):=
 cL (qU hc) (fun vs H S Q rs dm k=>by
  obtain ⟨v,u,rfl,r1,r2⟩:=rs.two;exact ⟨i,j,by rw [r1.aX,r2.aX],k _ H Ext.refl (.int _)⟩) hg hm qJ ha (by decide) (by decide) he hpl
noncomputable def jv (i j:Int):List Int:=(List.range (j - i).toNat).map fun k:Nat=>i+(k:Int)
theorem rC (hg:Gl X "range") (hm:X.mg "range"=none) (ha:DA X ρ [a,b] [.int i,.int j]) (hb: -(2^62)<=i∧i<2^62∧ -(2^62)<=j∧j<2^62)
  (hs:(starEach [a,b] X.env=[(false,eval a X.env),(false,eval b X.env)])⁻¹) (hs2:(starEach [b] X.env=[(false,eval b X.env)])⁻¹):DI X tg ρ (.Call (.Name "range" p) [a,b] [] pos) ((jv i j).map D.int):=
 PI.weak (sM hg hm ha hs hs2) fun σ H R ⟨S,ve,k⟩=>⟨S,ve,fun vs H' ex rs=>by
  obtain ⟨v,u,rfl,r1,r2⟩:=rs.two;rw [r1.aX,r2.aX];refine ⟨i,j,rfl,hb,k _ H' ex fun H2 S2 e z dm m=>?_⟩;refine ⟨fun d hd=>?_,fun hi=>show _<=m by simpa [jv] using hi⟩;have hm:m<(j - i).toNat:=by
   have:=(Eu.mp hd).1;simpa [jv] using this
  refine ⟨hm,fun x H3 y=>?_⟩;obtain ⟨e2,e3⟩:=y;subst e2 e3;have hd':d=.int (i+(m:Int)):=by
   rw [jv,List.map_map,List.getElem?_map,List.getElem?_range hm] at hd;exact (EL hd).symm
  subst hd';exact ⟨Ext.refl,.int _⟩⟩
end
set_option autoImplicit true
set_option relaxedAutoImplicit true
theorem Draws.D6 (hh:A.handled=none) (b:Bool) (it l:Addr) (hne:l≠it) (items:Array Value):
  Draws prog w A it [it,l] items.size (fun i v=>items[i]?=some v) (fun i h=>Sit h b it l i∧Ssq h b l items) where
 live:=fun _ _ st=>let ⟨o,_,_,ho,_⟩:=Sit.rec st.1;⟨o,ho⟩
 frame:=fun _ _ _ st hk=>⟨Sit.at st.1 fun o e=>hk it (by simp) o e,Ssq.at st.2 fun o e=>hk l (by simp) o e⟩
 item:=fun i s Q E hi st hQ=>jA st.1 st.2 (x:=items[i]) (by simp [hi]) fun h' a c=>hQ _ h' s.toks (by simp [hi]) ⟨a,Ssq.at st.2 fun o e=>c.extBut _ _ hne e⟩ c
 done:=fun s Q E st hE=>gV hh st.1 st.2 (by simp) hE
theorem qg (b:Bool) (a:Addr) (xs:Array Value):
  Meets (Builtin.«enumerate.__new__» ⟨[.type "enumerate",.ref a],[]⟩) (fun _ R s=>Ssq s.heap b a xs∧
   ∀h',IsEnum h' (s.heap.objs.size+1) s.heap.objs.size 0 .none->Sit h' b s.heap.objs.size a 0->(∀c o,s.heap.get? c=some o->h'.get? c=some o)->R (.ok (.ret (.ref (s.heap.objs.size+1)))) {s with heap:=h'}):=
 .of_wp fun prog w A R s h=>by
  obtain ⟨hp,g,d,tk,os⟩:=s;obtain ⟨hl,h⟩:=h;have hsub:=sub_enumerate;have hL:Ssq (Shared.heap ⟨hp,g,d,tk,os⟩) b a xs:=hl;have fin:∀h2,h2=(hp.push (bp b a)).push {cls:=.type "enumerate",data:=.fields #[.none,.bool false,.ref hp.objs.size,rawInt 0,.none,.none]}->R (.ok (.ret (.ref (hp.push (bp b a)).objs.size))) ⟨h2,g,d,tk,os⟩:=fun h2 e=>by
   have z:=Heap.size_push hp (bp b a);have g5:=Ch (hp.push (bp b a)) (o:={cls:=.type "enumerate",data:=.fields #[.none,.bool false,.ref hp.objs.size,rawInt 0,.none,.none]}) rfl;rw [z] at g5 ⊢;subst e;exact h _ g5 (Sit.at (Sit.new (h:=hp) b a) fun o e=>BT _ e) fun c o e=>BT _ (BT _ e)
  have ho:∃o,hp.get? a=some o:=by cases b<;>exact let ⟨o,ho,_⟩:=hl;⟨o,ho⟩
  obtain ⟨o,ho⟩:=ho
  wp_walk using AutoSeq1.wpAny_loadPart' ho
  refine wpAny_stack_any fun st=>AC ?_;split
  ·rename_i c _ _ _ _ _;cases (c==Value.type "enumerate")<;>(wp_walk using AutoSeq1.wpAny_loadPart' ho,cP hL;exact ⟨_,rfl,fin _ rfl⟩)
  ·wp_walk using AutoSeq1.wpAny_loadPart' ho,cP hL
   exact ⟨_,rfl,fin _ rfl⟩
theorem qS (hl:Ssq s.heap b a xs)
  (h:∀h',IsEnum h' (s.heap.objs.size+1) s.heap.objs.size 0 .none->Sit h' b s.heap.objs.size a 0->(∀c o,s.heap.get? c=some o->h'.get? c=some o)->Q (.ref (s.heap.objs.size+1)) {s with heap:=h'}):
  wpAny (model prog w) A (call (.type "enumerate") [.ref a]) Q E s:=
 callType_new F.called_enumerate (by decide) (F.typeCall_enumerate_1 _) (F.newCall_enumerate_1 _) (fun obj=>F.args_object_init_2 obj _) F.entry_enumerate_new (qg b a xs)
  ⟨hl,fun h' q1 q2 q3=>⟨⟨_,q1,rfl⟩,h h' q1 q2 q3⟩⟩
theorem Draws.D5 (hh:A.handled=none) (b:Bool) (it l:Addr) (hx:items[n]?=none):
  Draws prog w A it [it,l] n (fun _ _=>False) (fun j h=>j=n∧Sit h b it l n∧Ssq h b l items) where
 live:=fun _ _ st=>let ⟨o,_,_,ho,_⟩:=Sit.rec st.2.1;⟨o,ho⟩
 frame:=fun _ _ _ st hk=>⟨st.1,Sit.at st.2.1 fun o e=>hk it (by simp) o e,Ssq.at st.2.2 fun o e=>hk l (by simp) o e⟩
 item:=fun i s Q E hi st hQ=>absurd (st.1▸hi) (Nat.lt_irrefl _)
 done:=fun s Q E st hE=>gV hh st.2.1 st.2.2 hx hE
noncomputable def Ite (K:PySem.W.Frag) (b:Bool) (a:Addr):It:=
 ⟨fun i H=>∃xs x,SqB K H b a xs∧xs[i]?=some x,
  fun i H v H'=>∃T x,H T=none∧v=.ref T∧H'=upd H T (.tup [.int (i:Int),x])∧∀xs,SqB K H b a xs->xs[i]?=some x,
  fun i H=>∃xs,SqB K H b a xs∧xs.length<=i⟩
theorem ti {P:Program} {w:World} {K:PySem.W.Frag} {elts:List Expr} {x1} {pos:Pos} {b:Bool} {e it a:Addr} (hne:e≠it):
  Turn P w K (.Tuple elts x1 pos) (Ite K b a) [e,it] e (fun i h=>(∃old,IsEnum h e it i old)∧Sit h b it a i) where
 mem:=by simp
 obj:=fun i h ⟨⟨old,q1⟩,q2⟩ b hb=>by
  simp only [List.mem_cons,List.not_mem_nil,or_false] at hb;rcases hb with rfl|rfl
  ·exact ⟨_,q1,fun v z=>by have z':Data.fields _=Data.cell v:=z;cases z'⟩
  ·obtain ⟨o,_,_,ho,_,hd⟩:=Sit.rec q2;exact ⟨o,ho,fun v z=>by rw [hd] at z;cases z⟩
 keep:=fun i h h' ⟨⟨old,q1⟩,q2⟩ k=>⟨⟨old,k e (by simp) _ q1⟩,Sit.at q2 fun o ho=>k it (by simp) _ ho⟩
 item:=by
  intro X hP hw hK hc i pins s σ H E I hf ⟨⟨old,q1⟩,q2⟩ hg;subst hP hw hK;obtain ⟨xs,x,hx,ex⟩:=hg;obtain ⟨its,r1,p1,_⟩:=CT.Inv.sqb I hx;obtain ⟨u,eu,ru⟩:=BQ r1 ex;have hel:=Cl q1;have hil:it<s.heap.objs.size:=by obtain ⟨o,_,_,ho,_⟩:=Sit.rec q2;exact Cl ho
  have nae:=CT.Inv.lQ I hx (hf e (by simp));have nai:=CT.Inv.lQ I hx (hf it (by simp));refine wpAny_pyNext_enum_itemD (Draws.D6 (A:=X.A.in1) (I.ok.hd hc) b it a nai its.toArray) q1 ⟨q2,p1⟩ (by obtain ⟨z,_⟩:=Array.getElem?_eq_some_iff.mp eu;exact z) hne (by simp [hne,Ne.symm nae]) fun u' h' tk eu' z1 z2 z3 z4 kk=>?_;rw [eu] at eu';cases eu';refine ⟨_,rfl,wpAny_letOwnedTupleGo_enum (s:={s with heap:=h',toks:=tk+1}) z1 fun h2 z1' sb=>?_⟩;have k2:∀c o,c∉[e,it]->s.heap.get? c=some o->h2.get? c=some o:=fun c o hc q=>sb.extBut c o (fun z=>hc (by simp [z])) (kk c o (fun z=>hc (by simp [z])) (fun z=>hc (by simp [z])) q);have I1:Inv X pins σ H {s with heap:=h2,toks:=tk+1}:=CT.Inv.ir (t':=tk+1) (ch:=[e,it]) I hf k2;have hT:h2.get? s.heap.objs.size=some {cls:=.type "tuple",data:=.seq #[.int i tk,u]}:=sb.extBut _ _ (Nat.ne_of_gt hel) z3;have I2:Inv X pins σ (upd H s.heap.objs.size (.tup [.int (i:Int),x])) {s with heap:=h2,toks:=tk+1}:=CT.Inv.adopt I1 (I.fI (EG _) (I.hok.fresh (EG _)))
   ⟨by show 2<=sizeLine;decide,[.int i tk,u],.cons ⟨_,rfl⟩ (.cons ru .nil),_,hT,rfl,_,rfl⟩
  refine ⟨.ref s.heap.objs.size,_,I2,rfl,⟨_,x,I.hok.fresh (EG _),rfl,rfl,fun xs' h'=>by rw [CT.Inv.oZ I h' hx];exact ex⟩,⟨⟨_,by exact z1'⟩,Sit.at z2.1 fun o ho=>sb.extBut _ _ (Ne.symm hne) ho⟩,fun b hb=>?_⟩;simp only [List.mem_cons,List.not_mem_nil,or_false] at hb;rcases hb with rfl|rfl
  ·rw [ao (EF hel)];exact (hf _ (by simp)).1
  ·rw [ao (EF hil)];exact (hf _ (by simp)).1
 done:=by
  intro X hP hw hK hc i pins s σ H E I hf ⟨⟨old,q1⟩,q2⟩ hg;subst hP hw hK;obtain ⟨xs,hx,he⟩:=hg;obtain ⟨its,r1,p1,_⟩:=CT.Inv.sqb I hx;refine wpAny_pyNext_enum_endD (Draws.D5 (A:=X.A.in1) (I.ok.hd hc) b it a (BP r1 he)) q1 ⟨rfl,q2,p1⟩ fun h' kk=>⟨rfl,?_⟩
  exact CT.Inv.ir (t':=s.toks) (ch:=[e,it]) I hf fun b o hb q=>kk b o (fun z=>hb (by simp [z])) q
 self:=fun _ _ _ _ _ ⟨⟨old,q1⟩,_⟩ h=>wpAny_pyIter_enum q1 h
theorem boot_enumerate:bootBuiltins "enumerate"=some (.type "enumerate"):=by decide+kernel
noncomputable def Cj (K:PySem.W.Frag) (t:TA):TI:=fun σ H R=>t σ H fun vs H1=>∃b a xs,vs=[.ref a]∧SqB K H1 b a xs∧R (Ite K b a) H1
theorem yp {X:Cx} {elts:List Expr} {tpos:Pos} {a:Expr} {ta:TA} {k} {p pos:Pos} (hg:Gl X "enumerate") (hm:X.mg "enumerate"=none) (ha:PA X [a] ta) (hs:(starEach [a] X.env=[(false,eval a X.env)])⁻¹):
  PI X (.Tuple elts k tpos) (.Call (.Name "enumerate" p) [a] [] pos) (Cj X.K ta):=by
 intro pins s σ H R I h;refine Call_ (ej I hg hm boot_enumerate (PyProof.Rows.callWith_type1 (thn (ha pos pins s σ H _ I h) fun us s1 zz=>?_) (by rw [hs];rfl) rfl));obtain ⟨vs,H1,I1,r1,q1⟩:=zz;obtain ⟨b,l,xs,rfl,hx,q⟩:=q1;obtain ⟨its,rv,p1,_⟩:=CT.Inv.sqb I1 hx;cases r1 with
 |cons r rr=>
  cases rr;cases r;refine qS p1 fun h' he hi hk=>?_;refine wpAny_pyIter_enum he ?_;refine ⟨_,_,_,_,H1,rfl,I1.kept (t':=s1.toks) hk,ti (Nat.succ_ne_self _),⟨⟨_,he⟩,hi⟩,fun b hb=>?_,q⟩;have hle:s1.heap.objs.size<=b:=by
   simp only [List.mem_cons,List.not_mem_nil,or_false] at hb;rcases hb with rfl|rfl<;>omega
  exact I1.fI hle (I1.hok.fresh hle)
noncomputable def a7 (k:Nat):List D->List D
 |[]=>[]
 |x::xs=>.tup [.int (k:Int),x]::a7 (k+1) xs
theorem gJ:∀{xs:List D} {k i:Nat} {d:D},(a7 k xs)[i]?=some d->∃x,xs[i]?=some x∧d=.tup [.int ((k+i:Nat):Int),x]
 |x::xs,k,0,d,h=>by
  simp [a7] at h;exact ⟨x,rfl,h.symm⟩
 |x::xs,k,i+1,d,h=>by
  simp [a7] at h;obtain ⟨x',h1,h2⟩:=gJ h;exact ⟨x',by simpa using h1,by rw [h2,show k+1+i=k+(i+1) by omega]⟩
 |[],_,_,_,h=>by simp [a7] at h
theorem gK:∀{xs:List D} {k:Nat},(a7 k xs).length=xs.length
 |[],_=>rfl
 |x::xs,k=>by simp [a7,gK]
theorem xm {k} (hg:Gl X "enumerate") (hm:X.mg "enumerate"=none) (qa:Sq da xs) (ha:DA X ρ [a] [da]) (hs:(starEach [a] X.env=[(false,eval a X.env)])⁻¹):
  DI X (.Tuple elts k tpos) ρ (.Call (.Name "enumerate" p) [a] [] pos) (a7 0 xs):=
 PI.weak (yp hg hm ha hs) fun σ H R ⟨S,ve,kk⟩=>⟨S,ve,fun vs H' ex rs=>by
  obtain ⟨v,rfl,r⟩:=rs.one;obtain ⟨b,l,us,rfl,l1⟩:=qa.later r;refine ⟨b,l,us,rfl,(l1 H' S Ext.refl fun a h=>.inl h).1,kk _ H' ex fun H2 S2 e2 z2 dm i=>?_⟩;obtain ⟨s1,t1⟩:=l1 H2 S2 e2 z2;refine ⟨fun d hd=>?_,fun hi=>⟨us,s1,?_⟩⟩
  ·obtain ⟨x,hx,rfl⟩:=gJ hd;obtain ⟨x',hx',rx⟩:=t1.get hx;refine ⟨⟨us,x',s1,hx'⟩,fun z H3 yl=>?_⟩;obtain ⟨T,x2,hT,rfl,rfl,g1⟩:=yl;have e1:=g1 us s1;rw [hx'] at e1;cases e1;rw [Nat.zero_add];exact ⟨Ext.new hT,Rds.ez dm hT (.cons (.int _) (.cons rx .nil))⟩
  ·have h1:=t1.length;rw [gK] at hi
   omega⟩
set_option autoImplicit true
set_option relaxedAutoImplicit true
section
variable {X:Cx} {ρ:Rho} {k:Nat} {f C:Addr} {fd:FuncData} {ps:List Str} {x:Str} {p pos:Pos} {e o a b:Expr} {es:List Expr} {ds xs ys:List D} {d:D}
theorem x9:OpR X (binaryOp .Add) (fun x y H Q=>∃a b us vs,x=.ref a∧y=.ref b∧SqL X.K H a us∧SqL X.K H b vs∧us.length+vs.length<=sizeLine∧∀z,H z=none->Q (.ref z) (upd H z (.lst (us++vs)))):=by
 intro pins s σ H x y v u Q I rx ry ⟨a,b,us,vs,ex,ey,h1,h2,hl,q⟩;subst ex ey;obtain rfl:v=Value.ref a:=rx;obtain rfl:u=Value.ref b:=ry;obtain ⟨i1,r1,p1,_⟩:=I.list h1;obtain ⟨i2,r2,p2,_⟩:=I.list h2;obtain ⟨⟨c,dd,dt,sl⟩,ho,hc,n,hd⟩:=p1.isList;obtain ⟨⟨c2,dd2,dt2,sl2⟩,ho2,hc2,n2,hd2⟩:=p2.isList;simp only at hc hd hc2 hd2;subst hc hd hc2 hd2;have l1:=r1.length;have l2:=r2.length;refine concat_meets ⟨_,ho,rfl⟩ ⟨_,ho2,rfl⟩ noFill_list_add seq_list_add PySem.F.slot_list_add PySem.F.entry_list_add (PySem.F.args_list_add_2 _ _) (list_addW a b i1.toArray i2.toArray n n2 dd dd2 sl sl2 (by simp;omega)) ⟨ho,ho2,?_⟩;have e:i1.toArray++i2.toArray=(i1++i2).toArray:=by simp
 rw [e];refine ⟨.ref s.heap.objs.size,_,I.laid (o:=.lst (us++vs)) (t':=s.toks) (fun c w z=>BT _ z) (EG _) ⟨by rw [Ey];exact hl,i1++i2,_,r1.append r2,Ch _ rfl⟩,rfl,q _ (I.hok.fresh (EG _))⟩
theorem wU (ha:DE X ρ a (.lst xs)) (hb:DE X ρ b (.lst ys)) (hl:xs.length+ys.length<=sizeLine):DE X ρ (.BinOp a .Add b pos) (.lst (xs++ys)):=
 dz x9 (fun x y H S Q rx ry dm k=>by
  obtain ⟨p,us,rfl,h1,r1⟩:=rx.gQ;obtain ⟨q,vs,rfl,h2,r2⟩:=ry.gQ;exact ⟨p,q,us,vs,rfl,rfl,h1,h2,by rw [←r1.length,←r2.length];exact hl,fun z hz=>k _ _ (Ext.new hz) (Rds.jz dm hz (r1.app r2))⟩) ha hb
end
set_option autoImplicit true
set_option relaxedAutoImplicit true
section
variable {X:Cx} {scope:Scope} {own:List Str} {cap:List (Str×Nat)} {ρ:Rho} {elt iter c:Expr} {pos px py tp:Pos} {α:Type} {l:List α} {g1 g2:α->D} {x y:Str} {k k2:Nat} {sc:Scope} {N:List Str}
theorem gL:∀(l:List α) (k:Nat),a7 k (l.map g)=((l.zipIdx k).map fun a=>.tup [.int (a.2:Int),g a.1])
 |[],_=>rfl
 |a::l,k=>by rw [List.map_cons,List.zipIdx_cons,List.map_cons,a7,gL l (k+1)]
end
set_option autoImplicit true
set_option relaxedAutoImplicit true
section
variable {X:Cx} {ρ:Rho} {a b e:Expr} {d:D} {pos:Pos}
theorem intBits_le (h:k.natAbs<2^n):Builtin.Int.intBits k<=n:=by
 unfold Builtin.Int.intBits;split
 ·exact Nat.zero_le _
 ·rename_i hk;have hp:k.natAbs≠0:=fun z=>hk (by simp [Int.natAbs_eq_zero.mp z]);have:=(Nat.log2_lt hp).mpr h;omega
noncomputable def ja (i j:Int):Prop:=i.natAbs<2^100000∧j.natAbs<2^100000
theorem ja.ok (h:ja i j):IntMulOk i j:=by
 have h1:=intBits_le h.1;have h2:=intBits_le h.2;have e:Builtin.Int.intTooBig (Builtin.Int.intBits i+Builtin.Int.intBits j)=false:=by
  unfold Builtin.Int.intTooBig bitsLine;refine EI ?_;have:(2:Nat)^27=134217728:=by decide
  rw [this];omega
 unfold IntMulOk;rw [e];simp
theorem yb:OpR X (binaryOp .Mult) (rI ja fun i j=>.int (i*j)):=opI fun _ _ _ _ _ _ _ hc q=>mul_int q hc.ok
theorem xb (h:ja i j) (ha:DE X ρ a (.int i)) (hb:DE X ρ b (.int j)):DE X ρ (.BinOp a .Mult b pos) (.int (i*j)):=
 dz yb (fun x y H S Q rx ry dm k=>⟨i,j,rx.aX,ry.aX,h,k _ H Ext.refl (.int _)⟩) ha hb
end
set_option autoImplicit true
set_option relaxedAutoImplicit true
noncomputable def tyN:D->Option String
 |.non=>some "NoneType"|.bl _=>some "bool"|.int _=>some "int"|.str _=>some "str"|.tup _=>some "tuple"|.lst _=>some "list"|.dct _=>some "dict"|.pdc _=>some "dict"
 |_=>none
noncomputable def pN (x:D) (c:String):Bool:=match tyN x with
 |some n=>n==c||(n=="bool"&&c=="int")
 |none=>false
section
variable {X:Cx} {ρ:Rho} {a b:Expr} {x:D} {p pos:Pos}
theorem DK {K:PySem.W.Frag} {x:D} (hx:tyN x≠none):∃n,TyD K x (.type n)∧PySem.W.kitAny K (.type n) [.type "list",.type "tuple"]=some (pN x "list"||pN x "tuple"):=by
 cases x with
 |non=>exact ⟨_,.non,rfl⟩
 |bl b=>exact ⟨_,.bl b,rfl⟩
 |int i=>exact ⟨_,.int i,rfl⟩
 |str s=>exact ⟨_,.str s,rfl⟩
 |tup xs=>exact ⟨_,.tup xs,rfl⟩
 |lst xs=>exact ⟨_,.lst xs,rfl⟩
 |dct xs=>exact ⟨_,.dct xs,rfl⟩
 |pdc xs=>exact ⟨_,.pdc xs,rfl⟩
 |ins _ _=>exact absurd rfl hx
 |exc _ _=>exact absurd rfl hx
 |ty _=>exact absurd rfl hx
 |cl _=>exact absurd rfl hx
end
noncomputable def noStar:Expr->Bool
 |.Starred ..=>false
 |_=>true
theorem bq (h:noStar e=true):starEach (e::es) env=(false,eval e env)::starEach es env:=by
 cases e<;>first|rfl|cases h
end CT
set_option autoImplicit true
set_option relaxedAutoImplicit true
namespace CT
open PySem PySem.Spec PySem.W L2
open PyProof.Rows hiding St
section
open HT
variable {prog:Program} {w:World} {A:Around} {E:Value->Shared->Prop} {s:Shared}
theorem gj {t sl:Addr} {items:Array Value} {vl vu:Value} {lo hi:Option Int} {Q:Value->Shared->Prop} (ht:IsTup s.heap t items) (hs:s.heap.IsSliceOf sl vl vu .none) (pl:IsPart vl lo) (pu:IsPart vu hi)
  (hw:HT.sIx items.size 0 lo=0∧HT.sIx items.size items.size hi=items.size)
  (h:Q (.ref t) s):wpAny (model prog w) A (getItem (.ref t) (.ref sl)) Q E s:=by
 obtain ⟨os,hos,hcs,hds⟩:=id hs;have hTs:s.TypeIs (.ref sl) "slice":=⟨os,hos,hcs⟩
 unfold getItem
 try with_reducible refine Da ?_
 first|refine At (AC ?_)|skip
 refine At (wpAny_sequenceKey ht.typeIs (by decide) ?_);refine At (wpAny_callSpecial?_slot (name:=Str.ofString "__getitem__") ht.typeIs PyProof.Rows.slot_tuple_getitem
  (wpAny_call_entry PyProof.Rows.slot_tuple_getitem ht.typeIs entry_tuple_getitem ?_ (args_tuple_getitem _ _)))
 show wpAny _ _ (Builtin.Tuple.tupleItemsOf (.ref t)>>=_) _ _ s;refine At (tupleItemsOf_ ht ?_);refine At (wpAny_typeOf hTs ?_);rw [if_pos (by decide)];refine At (HT.eE hs pl pu ?_);have hyes:(((HT.sIx items.size 0 lo:Nat):Int)==0&&(1:Int)==1&&(HT.sIx items.size items.size hi - HT.sIx items.size 0 lo)==items.size)=true:=by
  rw [hw.1,hw.2];simp
 show wpAny _ _ (if (((HT.sIx items.size 0 lo:Nat):Int)==0&&(1:Int)==1&&(HT.sIx items.size items.size hi - HT.sIx items.size 0 lo)==items.size)=true then _ else _) _ _ s;rw [if_pos hyes];refine At (m:=Builtin.Tuple.tupleIsExact (.ref t)) ?_;unfold Builtin.Tuple.tupleIsExact;refine At (wpAny_typeOf ht.typeIs ?_);refine AC ?_;rw [if_pos (by decide)];exact At (wpAny_rule (AC ⟨_,rfl,AC h⟩))
end
section
variable {X:Cx} {ρ:Rho} {a:Expr} {lo hi:Option Expr} {xs:List D} {l u:Option Int} {pos p2:Pos}
noncomputable def D3 (K:PySem.W.Frag):V->Option Int->Option Int->Hp->VK->Prop:=fun x lo hi H Q=>∃a xs,x=.ref a∧SqT K H a xs∧(HT.sIx xs.length 0 lo=0∧HT.sIx xs.length xs.length hi=xs.length)∧Q (.ref a) H
theorem vj:SlR X (D3 X.K):=by
 intro pins s σ H x v vl vu lo hi sl Q I rx hs pl pu h;obtain ⟨a,xs,rfl,hx,hw,q⟩:=h;cases rx;obtain ⟨its,r,ht,hz⟩:=I.tuple hx;have hlen:its.toArray.size=xs.length:=by rw [List.size_toArray];exact r.length.symm
 exact ⟨"tuple",_,PyProof.Rows.slot_tuple_getitem.lookup,ht.typeIs,gj ht hs pl pu (by rw [hlen];exact hw) ⟨.ref a,H,I,rfl,q⟩⟩
noncomputable def DO (X:Cx) (ρ:Rho) (e:Option Expr) (o:Option Int):Prop:=PO X e fun σ H Q=>∃S,VE X.K H S ρ σ∧∀H',aD H H'->Q o H'
theorem xq:DO X ρ none none:=fun pins s σ H Q I ⟨S,ve,k⟩=>yv pins s σ H Q I (k H Ext.refl)
theorem xr (h:DE X ρ e (.int i)):DO X ρ (some e) (some i):=fun pins s σ H Q I ⟨S,ve,k⟩=>yw h pins s σ H Q I ⟨S,ve,fun v H' e r=>⟨i,r.aX,k H' e⟩⟩
noncomputable def dM (xs:List D) (lo hi:Option Int):List D:=(xs.drop (HT.sIx xs.length 0 lo)).take (HT.sIx xs.length xs.length hi - HT.sIx xs.length 0 lo)
theorem ae.drop' {K:PySem.W.Frag} {H:Hp} {S:Ad}:∀{xs:List D} {vs:List V} (n:Nat),ae K H S xs vs->ae K H S (xs.drop n) (vs.drop n)
 |_,_,0,h=>h
 |_,_,_+1,.nil=>.nil
 |_,_,n+1,.cons _ h=>ae.drop' n h
theorem ae.take' {K:PySem.W.Frag} {H:Hp} {S:Ad}:∀{xs:List D} {vs:List V} (n:Nat),ae K H S xs vs->ae K H S (xs.take n) (vs.take n)
 |_,_,0,h=>.nil
 |_,_,_+1,.nil=>.nil
 |_,_,n+1,.cons r h=>.cons r (ae.take' n h)
theorem ae.cut {K:PySem.W.Frag} {H:Hp} {S:Ad} {xs:List D} {vs:List V} (h:ae K H S xs vs) (lo hi:Option Int):ae K H S (dM xs lo hi) (gE vs lo hi):=by
 unfold dM gE;rw [h.length];exact ae.take' _ (ae.drop' _ h)
theorem zH (ha:DE X ρ a (.tup xs)) (hl:DO X ρ lo l) (hu:DO X ρ hi u):DE X ρ (.Subscript a (.Slice lo hi none p2) pos) (.tup (dM xs l u)):=by
 refine PE.weak (mZ (SlR.or Bv vj) ha hl hu) fun σ H Q ⟨S,ve,k⟩=>⟨S,ve,fun x H1 e1 r1=>⟨S,ve.ext e1,fun H2 e2=>⟨S,(ve.ext e1).ext e2,fun H3 e3=>?_⟩⟩⟩
 have r3:=r1.ext ((e2.trans e3).to S);have dm:=(((ve.ext e1).ext e2).ext e3).dom;obtain ⟨p,us,rfl,h2,rs⟩:=r3.cf
 by_cases hw:HT.sIx us.length 0 l=0∧HT.sIx us.length us.length u=us.length
 ·refine .inr ⟨p,us,rfl,.inl (.inl h2),hw,k _ H3 (e1.trans (e2.trans e3)) ?_⟩;have e:dM xs l u=xs:=by
   unfold dM;rw [rs.length,hw.1,hw.2,List.drop_zero,Nat.sub_zero,List.take_of_length_le (by rw [rs.length];exact EG _)]
  rw [e];exact r3
 ·exact .inl ⟨p,us,rfl,.inl (.inl h2),hw,fun z hz=>k _ _ (e1.trans (e2.trans (e3.trans (Ext.new hz)))) (Rds.ez dm hz (rs.cut l u))⟩
theorem zG (ha:DE X ρ a (.lst xs)) (hl:DO X ρ lo l) (hu:DO X ρ hi u):DE X ρ (.Subscript a (.Slice lo hi none p2) pos) (.lst (dM xs l u)):=by
 refine PE.weak (mZ yM ha hl hu) fun σ H Q ⟨S,ve,k⟩=>⟨S,ve,fun x H1 e1 r1=>⟨S,ve.ext e1,fun H2 e2=>⟨S,(ve.ext e1).ext e2,fun H3 e3=>?_⟩⟩⟩
 have r3:=r1.ext ((e2.trans e3).to S);have dm:=(((ve.ext e1).ext e2).ext e3).dom;obtain ⟨p,us,rfl,sq,rs⟩:=r3.gQ;exact ⟨p,us,rfl,sq,fun z hz=>k _ _ (e1.trans (e2.trans (e3.trans (Ext.new hz)))) (Rds.jz dm hz (rs.cut l u))⟩
end
end CT
set_option autoImplicit true
set_option relaxedAutoImplicit true
namespace CT
open PySem PySem.Spec L2
open PyProof.Rows hiding St
section
variable {P:Program} {w:World} {K:PySem.W.Frag} {H H':Hp} {h:Heap} {S:Ad}
mutual
theorem key_is (ok:HOk P w H h):∀(k:PK) {v:V} {u:Value},Rds K H S (PK.d k) v->RelV v u->bK h k u
 |.i n,_,u,r,q=>by
  cases (show Rds K H S (.int n) _ from r);exact q
 |.t l,_,u,r,q=>by
  obtain ⟨a,vs,rfl,e,rl⟩:=(show Rds K H S (.tup (PK.dL l)) _ from r).cf;cases (show u=Value.ref a from q);obtain ⟨_,its,rv,o,h1,h2,n,h3⟩:=(show aU P w H h a (.tup vs) from ok a _ e)
  exact ⟨a,o,its.toArray,n,rfl,h1,h2,h3,by simpa using mL ok l rl rv⟩
theorem mL (ok:HOk P w H h):∀(l:List PK) {vs:List V} {us:List Value},ae K H S (PK.dL l) vs->Vals vs us->ba h l us
 |[],_,_,r,q=>by
  cases (show ae K H S [] _ from r);cases q;rfl
 |k::ks,_,_,r,q=>by
  have r':ae K H S (PK.d k::PK.dL ks) _:=r;cases r' with
  |cons r1 t1=>
   cases q with
   |cons q qt=>exact ⟨_,_,rfl,key_is ok k r1 q,mL ok ks t1 qt⟩
end
theorem Rds.key (hd:k.dp<=8) (r:Rds K H S (PK.d k) (.ref b)):dY H k b:=⟨hd,fun P w h ok=>key_is ok k r rfl⟩
theorem ar.keys:∀{es:List (PK×D)} {kvs:List (PK×Addr×V)},ar K H S es kvs->dZ H kvs
 |_,_,.nil=>fun p hp=>nomatch hp
 |_,_,.cons hd k r t=>fun p hp=>by
  rcases Er.mp hp with e|hp
  ·subst e;exact Rds.key hd k
  ·exact ar.keys t p hp
theorem ar.length:∀{es:List (PK×D)} {kvs:List (PK×Addr×V)},ar K H S es kvs->es.length=kvs.length
 |_,_,.nil=>rfl
 |_,_,.cons _ _ _ t=>by rw [List.length_cons,List.length_cons,ar.length t]
theorem ar.names:∀{es:List (PK×D)} {kvs:List (PK×Addr×V)},ar K H S es kvs->kvs.map (·.1)=es.map (·.1)
 |_,_,.nil=>rfl
 |_,_,.cons _ _ _ t=>by rw [List.map_cons,List.map_cons,ar.names t]
theorem ar.get:∀{es:List (PK×D)} {kvs:List (PK×Addr×V)} {i:Nat} {p:PK×D},ar K H S es kvs->es[i]?=some p->∃q,kvs[i]?=some q∧q.1=p.1∧Rds K H S (PK.d p.1) (.ref q.2.1)∧Rds K H S p.2 q.2.2
 |_,_,0,_,.cons _ k r _,e=>by simp at e;subst e;exact ⟨_,rfl,rfl,k,r⟩
 |_,_,i+1,_,.cons _ _ _ t,e=>by
  obtain ⟨q,h1,h2⟩:=ar.get (i:=i) t (by simpa using e);exact ⟨q,by simpa using h1,h2⟩
noncomputable def aZ (es:List (PK×D)) (k:PK):Option D:=(es.find? fun p=>decide (p.1=k)).map (·.2)
noncomputable def cW (es:List (PK×D)) (k:PK) (d:D):List (PK×D):=if (aZ es k).isSome then es.map (fun p=>if p.1=k then (p.1,d) else p) else es++[(k,d)]
theorem ar.look:∀{es:List (PK×D)} {kvs:List (PK×Addr×V)},ar K H S es kvs->(∀d,aZ es k=some d->∃v,dw kvs k=some v∧Rds K H S d v)∧(aZ es k=none->dw kvs k=none)
 |_,_,.nil=>⟨fun d e=>by simp [aZ] at e,fun _=>rfl⟩
 |_,_,.cons (k:=k') (ds:=ds) (vs:=vs) _ _ r t=>by
  obtain ⟨i1,i2⟩:=ar.look (k:=k) t;unfold aZ dw at i1 i2 ⊢;rw [List.find?_cons,List.find?_cons]
  by_cases e:k'=k
  ·simp only [e,decide_true];exact ⟨fun d q=>by cases q;exact ⟨_,rfl,r⟩,fun q=>nomatch q⟩
  ·simp only [e,decide_false];exact ⟨i1,i2⟩
theorem ar.gR (rd:Rds K H S d v):∀{es:List (PK×D)} {kvs:List (PK×Addr×V)},ar K H S es kvs->ar K H S (es.map fun p=>if p.1=k then (p.1,d) else p) (kvs.map fun p=>if p.1=k then (p.1,p.2.1,v) else p)
 |_,_,.nil=>.nil
 |_,_,.cons (k:=k') hd kk r t=>by
  rw [List.map_cons,List.map_cons]
  by_cases e:k'=k
  ·rw [if_pos (show (k',_).1=k from e),if_pos (show (k',_).1=k from e)];exact .cons hd kk rd (ar.gR rd t)
  ·rw [if_neg (show ¬(k',_).1=k from e),if_neg (show ¬(k',_).1=k from e)];exact .cons hd kk r (ar.gR rd t)
theorem ar.snoc (hd:k.dp<=8) (kk:Rds K H S (PK.d k) (.ref b)) (rd:Rds K H S d v):∀{es:List (PK×D)} {kvs:List (PK×Addr×V)},ar K H S es kvs->ar K H S (es++[(k,d)]) (kvs++[(k,b,v)])
 |_,_,.nil=>.cons hd kk rd .nil
 |_,_,.cons h1 h2 h3 t=>.cons h1 h2 h3 (ar.snoc hd kk rd t)
theorem ar.put (hd:k.dp<=8) (kk:Rds K H S (PK.d k) (.ref b)) (rd:Rds K H S d v) (r:ar K H S es kvs):ar K H S (cW es k d) (eT kvs k b v):=by
 have e:(aZ es k).isSome=(dw kvs k).isSome:=by
  obtain ⟨i1,i2⟩:=ar.look (k:=k) r;cases q:aZ es k with
  |none=>rw [i2 q];rfl
  |some d=>obtain ⟨v,z,_⟩:=i1 d q;rw [z];rfl
 unfold cW eT;rw [e];split
 ·exact r.gR rd
 ·exact r.snoc hd kk rd
end
section
variable {X:Cx} {ρ:Rho} {o i e value tg:Expr} {pos pos' p ap cp:Pos} {es:List (PK×D)} {l:List PK} {d:D} {x:Str} {n:Nat}
theorem xh (hu:X.A.units+9<cLine) (ho:DE X ρ o (.pdc es)) (hi:DE X ρ i (PK.d (.t l))) (hk:(PK.t l).dp<=8) (hl:aZ es (.t l)=some d) (hs:pf i):DE X ρ (.Subscript o i pos) d:=
 PE.weak (yk hu ho hi hs) fun σ H Q ⟨S,ve,k⟩=>⟨S,ve,fun u H1 e1 r1=>⟨S,ve.ext e1,fun y H2 e2 r2=>by
  have r1':=r1.ext (e2.to S);cases r1' with
  |@dP a ep kvs _ ha ns rp=>
   obtain ⟨b,vs,rfl,hb,rl⟩:=(show Rds X.K H2 S (.tup (PK.dL l)) y from r2).cf;obtain ⟨v,hv,rv⟩:=(ar.look (k:=.t l) rp).1 d hl;exact ⟨a,b,ep,kvs,.t l,v,rfl,rfl,ha,rp.keys,Rds.key hk r2,hv,k v H2 (e1.trans e2) rv⟩⟩⟩
theorem uc (hu:X.A.units+9<cLine) (ho:DE X ρ o (.pdc es)) (hi:DE X ρ e (PK.d (.t l))) (hk:(PK.t l).dp<=8) (m:M1 X o "get" ap e cp):DE X ρ (.Call (.Attribute o "get" ap) [e] [] cp) ((aZ es (.t l)).getD .non):=
 PE.weak (uW hu ho hi m) fun σ H Q ⟨S,ve,k⟩=>⟨S,ve,fun u H1 e1 r1=>by
  cases r1 with
  |@dP a ep kvs _ ha ns rp=>
   refine ⟨a,ep,kvs,rfl,ha,S,ve.ext e1,fun y H2 e2 r2=>?_⟩;obtain ⟨b,vs,rfl,hb,rl⟩:=(show Rds X.K H2 S (.tup (PK.dL l)) y from r2).cf;have rp2:=rp.ext (e2.to S);refine ⟨b,.t l,rfl,e2 _ _ (fun z=>z) ha,rp2.keys,Rds.key hk r2,k _ H2 (e1.trans e2) ?_⟩;obtain ⟨i1,i2⟩:=ar.look (k:=.t l) rp2;cases q:aZ es (.t l) with
   |none=>rw [i2 q];exact .non
   |some d=>obtain ⟨v,hv,rv⟩:=i1 d q;rw [hv];exact rv⟩
theorem jU:DFx X ρ (.Dict [] [] pos) (.d []):=PE.weak ym fun σ H Q ⟨S,ve,k⟩ p hp=>k p _ _ (Ext.new hp) hp aG ⟨0,[],rfl,.nil⟩
theorem zP (ho:DE X ρ e (.pdc es)):DI X tg ρ e (es.map fun p=>PK.d p.1):=PI.weak (A_ ho) fun σ H R ⟨S,ve,k⟩=>⟨S,ve,fun v H' ex r=>by
 cases r with
 |@dP a ep kvs _ ha ns rp=>
  refine ⟨a,ep,kvs,rfl,ha,k _ H' ex fun H2 S2 e2 z dm i=>?_⟩;have ha2:H2 a=some (PD a ep kvs):=e2 _ _ ns ha;have rp2:ar X.K H2 S2 es kvs:=((rp.av (S':=fun a=>S a∨S2 a) fun a q=>q.elim .inl (z a)).ext fun a o n q=>e2 a o (fun y=>n (.inl y)) q).av fun a q=>.inl (.inr q);refine ⟨fun d hd=>?_,fun hi=>⟨ha2,by rw [←rp.length];simpa using hi⟩⟩;rw [List.getElem?_map] at hd;cases q:es[i]? with
  |none=>rw [q] at hd;cases hd
  |some p=>
   rw [q] at hd;cases hd;obtain ⟨kv,h1,_,h3,_⟩:=ar.get rp2 q;refine ⟨⟨ha2,(Eu.mp h1).1⟩,fun x H3 ⟨e3,p',hp',hx⟩=>?_⟩;subst e3;rw [h1] at hp';cases hp';rw [hx];exact ⟨Ext.refl,h3⟩⟩
end
set_option autoImplicit true
set_option relaxedAutoImplicit true
theorem pB:bootBuiltins "dict"=some (.type "dict"):=by decide+kernel
section
variable {X:Cx} {ρ:Rho} {o i e value tg:Expr} {pos pos' p ap cp:Pos} {es:List (PK×D)} {l:List PK} {d:D} {x:Str} {n:Nat}
theorem om (hu:X.A.units+9<cLine) (hN:X.N[n]?=some x) (hv:Vis X.env.scope x) (hr:ρ[n]?=some (.odc es)) (hi:DE X ρ i (PK.d (.t l))) (he:DE X ρ value d) (hk:(PK.t l).dp<=8) (hz:es.length<sizeLine)
  (hs:(swapsWith value (some (.Subscript (.Name x p) i pos')) pos.line X.env=pure false)⁻¹) (hd: ~~~((x==("__debug__":Str))=false)) (hcd: ~~~((x==("__classdict__":Str))=false)):
  DS X ρ (.Assign [.Subscript (.Name x p) i pos'] value pos) (.nx (ρ.set n (.odc (cW es (.t l) d)))):=
 PS.weak (yA hu (eB hN hv hd hcd) hi he hs) fun E σ H ⟨H₀,S₀,S,f,k⟩=>⟨S,f.ve,fun v H1 ex r=>by
  have f1:=f.grow ex;obtain ⟨w,h1,a,_,rfl,sa,ha,ep,kvs,rfl,rp⟩:=f1.ve.rel n _ hr;refine ⟨_,h1,S,f1.ve,fun y H2 e2 r2=>?_⟩;obtain ⟨b,vs,rfl,hb,rl⟩:=(show Rds X.K H2 S (.tup (PK.dL l)) y from r2).cf;have rp2:=rp.ext (e2.to S);refine ⟨a,b,ep,kvs,.t l,rfl,rfl,e2 _ _ (fun z=>z) ha,rp2.keys,Rds.key hk r2,by rw [←rp2.length];exact hz,fun ep'=>?_⟩;exact k _ _ S ((f1.grow e2).sT (c':=.d (cW es (.t l) d)) hr h1 ⟨ep',_,rfl,ar.put hk r2 (r.ext (e2.to S)) rp2⟩)⟩
theorem ug (hh:(es.map fun q=>q.1.hs).Nodup) (hg:Gl X "dict") (hm:X.mg "dict"=none) (ha:DA X ρ [e] [.pdc es]) (he:starEach [e] X.env=(false,eval e X.env)::starEach [] X.env:=by rfl) (hpl:(backTo pos (starEach [] X.env)).any (·.1)=false:=by rfl):DFx X ρ (.Call (.Name "dict" p) [e] [] pos) (.d es):=
 PE.weak (g_ pF hg hm pB ha (by decide) (by decide) he hpl) fun σ H Q ⟨S,ve,k⟩=>⟨S,ve,fun vs H' ex rs=>by
  obtain ⟨v,rfl,r⟩:=rs.one;cases r with
  |@dP a ep kvs _ hA ns rp=>
   have e2:(kvs.map fun q=>q.1.hs)=es.map fun q=>q.1.hs:=by
    have:=congrArg (List.map PK.hs) rp.names;rw [List.map_map,List.map_map] at this;exact this
   exact ⟨a,ep,kvs,rfl,hA,rp.keys,by rw [e2];exact hh,fun q ep' hq=>k q _ _ (ex.trans (Ext.new hq)) (ex.back hq) aG ⟨ep',kvs,rfl,((rp.av (S':=S.and q) fun b h=>h.imp_right fun z=>by rw [z];exact hq).ext ((Ext.new hq).to _))⟩⟩⟩
noncomputable def dA:D->Bool
 |.non=>true
 |_=>false
theorem Rds.ql {K:PySem.W.Frag} {H:Hp} {S:Ad} {d:D} {v:V} (r:Rds K H S d v):decide (v=V.non)=dA d:=by
 cases r<;>first|rfl|exact EI (fun z=>nomatch z)
theorem zu {j} {pos':Pos} (ha:DE X ρ e d):DE X ρ (.Compare e [.Is] [.Constant .none j pos'] pos) (.bl (dA d)):=
 mi sD (fun x y H S Q rx ry dm k=>⟨ry.qm,by rw [rx.ql];exact k _ H Ext.refl (.bl _)⟩) ha gF (bx _)
theorem xg {j} {pos':Pos} (ha:DE X ρ e d):DE X ρ (.Compare e [.IsNot] [.Constant .none j pos'] pos) (.bl (!dA d)):=
 mi oP (fun x y H S Q rx ry dm k=>⟨ry.qm,by rw [rx.ql];exact k _ H Ext.refl (.bl _)⟩) ha gF (bx _)
theorem zS {j} {pos':Pos} (ha:DE X ρ e d):DT X ρ (.Compare e [.Is] [.Constant .none j pos'] pos) (dA d):=
 mv sD (fun x y H S Q rx ry dm k=>⟨ry.qm,by rw [rx.ql];exact k _ H Ext.refl (.bl _)⟩) ha gF (bx _)
theorem xC {j} {pos':Pos} (ha:DE X ρ e d):DT X ρ (.Compare e [.IsNot] [.Constant .none j pos'] pos) (!dA d):=
 mv oP (fun x y H S Q rx ry dm k=>⟨ry.qm,by rw [rx.ql];exact k _ H Ext.refl (.bl _)⟩) ha gF (bx _)
end
set_option autoImplicit true
set_option relaxedAutoImplicit true
noncomputable abbrev KVs:=List (PK×Addr×V)
noncomputable def Dc (h:Heap) (a:Addr) (y:Nat×KVs):Prop:=∃xs,KP y.2 xs∧yY h a xs y.1
noncomputable def dH:AK (Nat×KVs):=⟨Dc,fun ⟨xs,k,o,es,e,r⟩ kp=>⟨xs,k,o,es,kp o e,r⟩,fun ⟨xs,k,o,es,e,x,d,_⟩=>⟨o,e,fun v z=>by rw [d] at z;cases z⟩⟩
noncomputable def fN (kx vx:Expr) (acc:Addr) (env:Env):Sem Unit:=do
 let kv←eval kx env
 let vv←holding [kv] (eval vx env)
 standAt {kx.pos with endLine:=vx.pos.endLine,endCol:=vx.pos.endCol}
 holding [kv,vv] (dictSet acc kv vv)
noncomputable def By (tk tv:TE):TBg (Nat×KVs):=fun σ H ys Q=>tk σ H fun y H1=>tv σ H1 fun v H2=>∃b k,y=.ref b∧dZ H2 ys.2∧dY H2 k b∧ys.2.length<=sizeLine∧∀ep',Q (ep',eT ys.2 k b v) H2
section
variable {Y:Cx} {acc:Addr} {kx vx tg iter:Expr} {scope:Scope} {pos:Pos}
theorem uS (hu:Y.A.units+9<cLine) (hk:PE Y kx tk) (hv:PE Y vx tv):PBg dH Y acc (fN kx vx acc Y.env) (By tk tv):=by
 intro pins s σ H ys Q I hf ha h;have I1:=I.pinned (fp:=[acc]) (gU hf) (gU (dH.obj ha));obtain ⟨o,eo,_⟩:=dH.obj ha;refine At (thn (hk _ s σ H _ I1 h) fun kv s1 zz=>?_);obtain ⟨y,H1,I2,ry,q1⟩:=zz;refine At (Da (thn (hv _ s1 σ H1 _ I2 q1) fun vv s2 zz=>?_));obtain ⟨v,H2,I3,rv,b,k,ey,ks,kb,hl,q2⟩:=zz;have pin:=I3.pin (acc,o) (Db _ (Db _ (bG (by simp) eo)));obtain ⟨xs,rel,dd⟩:=dH.kept (h':=s2.heap) ha fun o' e'=>by rw [eo] at e';cases e';exact pin.1
 obtain ⟨f0,f1,f2,f3,f4,f5⟩:=hf;subst ey;obtain rfl:kv=Value.ref b:=ry;refine At (wpAny_standAt (Da ?_));refine wpAny_dictSet_heap (knd:=bI Y.prog Y.w) (hsz:=by rw [←rel.length];exact hl) (show (bI Y.prog Y.w).room Y.A by show Y.A.units+8<cLine;omega) (kb.is I3.hok) (au.ofH (knd:=bI Y.prog Y.w) dd (rel.is ks I3.hok)) fun h' dd' hs=>?_;obtain ⟨ep',rw'⟩:=oW dd';exact ⟨(ep',eT ys.2 k b v),H2,I3.bT.turned (t':=_) (fun b o hb e=>(hs.2 b hb).trans e) pin.2.1 f1 f3 f4 f5,pin.2.1,⟨_,rel.put k b rv,rw'⟩,q2 ep'⟩
theorem vW {P:Program} {w:World} {gens:List Comprehension} {d:Nat} {it acc:Value} {env:Env}:jb P w (.DictComp kx vx gens scope pos) d it acc env:=⟨fun _=>rfl,rfl⟩
theorem wq:jc (.DictComp kx vx [⟨tg,iter,[],0⟩] scope pos) 0 tg iter [] it (.ref acc) env (fN kx vx acc env):=by
 unfold jc;rw [compTurn_dict];simp only [List.forIn_nil,pure_bind,if_true];rfl
theorem oz (H0:Hp) (h:Heap) (a:Addr) (ys:Nat×KVs) (hd:(a==sysModules)=false) (ac:dH.ac h a ys) (hz:ys.2.length<=sizeLine):aU P w H0 h a (PD a ys.1 ys.2):=by
 obtain ⟨xs,k,r⟩:=ac;exact jB hz hd k r
end
section
variable {X:Cx} {scope:Scope} {own:List Str} {cap:List (Str×Nat)} {kx vx tg iter:Expr} {pos:Pos} {wi:TI} {g:TG} {tb:TBg (Nat×KVs)}
noncomputable def nC (own:List Str) (cap:List (Str×Nat)) (wi:TI) (g:TG) (tb:TBg (Nat×KVs)):TE:=fun σ H Q=>wi σ H fun J H1=>f9 g lT tb J (cS own cap σ) H1 (0,[]) fun ys H2=>ys.2.length<=sizeLine∧∀a,H2 a=none->Q (.ref a) (upd H2 a (PD a ys.1 ys.2))
theorem sW (h:Heap) (a:Addr) (e:h.get? a=some {cls:=.type "dict",dict:=none,data:=.dict #[]}):dH.ac h a (0,[]):=
 ⟨[],.nil,_,_,e,⟨rfl,rfl,rfl⟩,rfl,rfl,List.nodup_nil⟩
theorem uV (cs:CS X scope own cap) (hc:X.calm=true) (hi:PI X tg iter wi) (h1:∀pins s₂ H₂ fp,PG (cX X scope own cap pins s₂ H₂ fp) tg g)
  (h3:∀pins s₂ H₂ fp acc,PBg dH (cX X scope own cap pins s₂ H₂ fp) acc (fN kx vx acc (bL X scope s₂.heap.objs.size)) tb)
  (hs:∀x,foldedSetIterable iter X.env x=pure x:=by intro _;rfl):PE X (.DictComp kx vx [⟨tg,iter,[],0⟩] scope pos) (nC own cap wi g tb):=by
 intro pins s σ H Q I h;rw [arm_eval_DictComp];refine wpAny_comprehension_free (use:=none) rfl hs (cI (cs.jW I.ok)) cs.kind cs.names ?_;refine thn (hi pins s σ H _ I h) fun x s1 h1'=>thn h1' fun itv s2 h2'=>?_;obtain ⟨it,fp,tn,J,H2,e,I2,T,st2,f2,lp⟩:=h2';subst e;refine eF (B:=dH) (fin:=fun ys=>ys.2.length<=sizeLine) (ho:=fun a ys=>PD a ys.1 ys.2) (RR:=fun acc C=>compPost (model X.prog X.w) X.A X.xe none (EP X pins σ Q) acc C) cs wpAny_newObj_type rfl sW oz (fun _ _ _=>vW) (fun it acc env=>wq) codeAny_compStart_dict hc h1 (fun _ _ _ _=>kj) h3 T I2 st2 f2 lp ?_;intro acc C s' H' m hC I' hn hns q;exact ⟨m,hns,fun h' hs'=>⟨.ref acc,H',CT.Inv.lO I2 I' hC hn hs',rfl,q⟩⟩
theorem u6 (cs:CS X scope own cap) (hc:X.calm=true) (hN:X.N.Nodup) (hix:X.N[i]?=some x) (hx:Loc X.env.scope x) (hi:PI X tg iter wi) (h1:∀pins s₂ H₂ fp,PG (cX X scope own cap pins s₂ H₂ fp) tg g)
  (h3:∀pins s₂ H₂ fp acc,PBg dH (cX X scope own cap pins s₂ H₂ fp) acc (fN kx vx acc (bL X scope s₂.heap.objs.size)) tb)
  (hsw:swapsWith (.DictComp kx vx [⟨tg,iter,[],0⟩] scope pos) (some (.Name x pos')) spos.line X.env=pure true)
  (hs:∀x,foldedSetIterable iter X.env x=pure x:=by intro _;rfl) (hf:X.fn x=true∨X.env.scope.names.lookup x=some .local:=by first|exact .inl rfl|exact .inr rfl|assumption):
  PS X (.Assign [.Name x pos'] (.DictComp kx vx [⟨tg,iter,[],0⟩] scope pos) spos) (kq (nC own cap wi g tb) (dR i)):=by
 intro pins s σ H D I h;rw [exec_Assign_Name_used _ _ _ _ hsw];refine At (wpAny_standAt (At ?_));show wpAny _ X.A (do let _←comprehension (.DictComp kx vx [⟨tg,iter,[],0⟩] scope pos) scope X.env _ newDict false (eval iter X.env) (some (assign (.Name x pos') X.env))) _ _ s;refine At (AT (wpAny_comprehension_free (use:=some (assign (.Name x pos') X.env)) (Q:=fun _ s'=>SP X pins D .next s') rfl hs (cI (cs.jW I.ok)) cs.kind cs.names ?_) (fun _ s' hq=>AC (AC hq)) fun _ _ e=>e);refine thn (hi pins s σ H _ I h) fun xv s1 h1'=>thn h1' fun itv s2 h2'=>?_;obtain ⟨it,fp,tn,J,H2,e,I2,T,st2,f2,lp⟩:=h2';subst e;refine eF (B:=dH) (fin:=fun ys=>ys.2.length<=sizeLine) (ho:=fun a ys=>PD a ys.1 ys.2) (Q:=fun x H1=>dR i x σ H1 D.nx) (RR:=fun acc C=>compPost (model X.prog X.w) X.A X.xe (some (assign (.Name x pos') X.env)) (fun _ s'=>SP X pins D .next s') acc C) cs wpAny_newObj_type rfl sW oz (fun _ _ _=>vW) (fun it acc env=>wq) codeAny_compStart_dict hc h1 (fun _ _ _ _=>kj) h3 T I2 st2 f2 lp ?_;intro acc C s' H' m hC I' hn hns q;show wpAny _ X.A (assign (.Name x pos') X.env (.ref acc)) _ _ _;refine wpAny_assign_Name (hV I' hN hix hx (v:=.ref acc) rfl (fun s'' I'' ⟨a,sb,ha⟩=>?_) hf);have hne:C≠a:=by
  rcases ha with z|z
  ·rw [z];exact Nat.ne_of_gt (EC I2.lt hC)
  ·obtain ⟨v,hv⟩:=I2.cell x a z;exact Nat.ne_of_gt (EC hv.lt hC)
 exact ⟨m,hns.sameBut sb hne,fun h' hs'=>⟨_,H',CT.Inv.lO I2 I'' hC hn hs',q⟩⟩
end
structure DCx (X:Cx) (ρ:Rho) (e:Expr) (c:Ow):Prop where
 pe:DFx X ρ e c
 ps:∀(i:Nat) (x:Str) (pos' spos:Pos),X.N.Nodup->X.N[i]?=some x->Loc X.env.scope x->(X.fn x=true∨X.env.scope.names.lookup x=some .local)->swapsWith e (some (.Name x pos')) spos.line X.env=pure true->
  PS X (.Assign [.Name x pos'] e spos) (kq (nD X.K ρ c) (dR i))
section
variable {X:Cx} {ρ:Rho} {e:Expr} {c:Ow} {xs:List D} {i:Nat} {x:Str} {pos pos':Pos}
theorem DC.cx (h:DC X ρ e xs):DCx X ρ e (.l xs):=⟨h.df.x,fun i x pos' spos hN hix hx hf hsw=>PS.weak (h.ps i x pos' spos hN hix hx hf hsw) fun D σ H ⟨S,ve,k⟩=>⟨S,ve,fun a vs H' ex hp r=>
 k a (.lst vs) _ (ex.trans (Ext.new hp)) (ex.back hp) aG ⟨vs,rfl,((r.av (S':=S.and a) fun b h=>h.imp_right fun z=>by rw [z];exact hp).ext ((Ext.new hp).to _))⟩⟩⟩
theorem uo (hN:X.N.Nodup) (hi:X.N[i]?=some x) (hx:Loc X.env.scope x) (he:DCx X ρ e c) (hsw:swapsWith e (some (.Name x pos')) pos.line X.env=pure true) (hf:X.fn x=true∨X.env.scope.names.lookup x=some .local):
  DS X ρ (.Assign [.Name x pos'] e pos) (.nx (ρ.set i (.owx c))):=PS.weak (he.ps i x pos' pos hN hi hx hf hsw) fun E σ H ⟨H₀,S₀,S,f,k⟩=>⟨S,f.ve,fun a vs H' ex hn ha r=>k _ H' _ (f.sY ex hn ha r)⟩
end
noncomputable def Bx (K:PySem.W.Frag) (ρ:Rho) (k:PK) (d:D):TBg (Nat×KVs):=fun σ H ys Q=>∃S es,VE K H S ρ σ∧ar K H S es ys.2∧es.length<=sizeLine∧k.dp<=8∧∀ep' kvs' H',aD H H'->ar K H' S (cW es k d) kvs'->Q (ep',kvs') H'
noncomputable def DBd (Y:Cx) (acc:Addr) (m:Sem Unit) (ρ:Rho) (k:PK) (d:D):Prop:=PBg dH Y acc m (Bx Y.K ρ k d)
section
variable {Y:Cx} {acc:Addr} {ρ:Rho} {d:D} {kx vx:Expr}
theorem tX (hu:Y.A.units+9<cLine) (hk:DE Y ρ kx (PK.d (.t l))) (hv:DE Y ρ vx d):DBd Y acc (fN kx vx acc Y.env) ρ (.t l) d:=fun pins s σ H ys Q I hf ha ⟨S,es,ve,rp,hl,hd,kk⟩=>
 uS hu hk hv pins s σ H ys Q I hf ha ⟨S,ve,fun y H1 e1 r1=>⟨S,ve.ext e1,fun v H2 e2 r2=>by
  have r1':=r1.ext (e2.to S);obtain ⟨b,vs,rfl,hb,rl⟩:=(show Rds Y.K H2 S (.tup (PK.dL l)) y from r1').cf;have rp2:=rp.ext ((e1.trans e2).to S);exact ⟨b,.t l,rfl,rp2.keys,Rds.key hd r1',by rw [←rp.length];exact hl,fun ep'=>kk ep' _ H2 (e1.trans e2) (ar.put hd r1' r2 rp2)⟩⟩⟩
noncomputable def tbD (K:PySem.W.Frag) (B:Rho->PK->D->Prop):TBg (Nat×KVs):=fun σ H ys Q=>∃ρ k d,B ρ k d∧Bx K ρ k d σ H ys Q
theorem xT {K:PySem.W.Frag} {G:Rho->D->Rho->List Nat->Prop} {B:Rho->PK->D->Prop} {ks:List Nat} {J:It} {its:List D} {E:Nat->List (PK×D)} (hks:∀k∈ks,ρ[k]?=some .nil) (E0:E 0=[])
  (ht:∀(i:Nat) d,its[i]?=some d->∃ρ' k v,G ρ d ρ' ks∧B ρ' k v∧E (i+1)=cW (E i) k v∧(E i).length<=sizeLine∧k.dp<=8) {σ:St} {H:Hp} {S:Ad} {Q:Nat×KVs->Hp->Prop} (ve:VE K H S ρ σ) (hJ:tG K S J its H)
  (q:∀ep kvs H',aD H H'->ar K H' S (E its.length) kvs->Q (ep,kvs) H'):f9 (gA K G) lT (tbD K B) J σ H (0,[]) Q:=by
 refine ⟨fun i n ys' H'=>n=its.length - i∧i<=its.length∧aD H H'∧ar K H' S (E i) ys'.2,⟨its.length,by simp,Nat.zero_le _,Ext.refl,by rw [E0];exact .nil⟩,?_⟩;rintro i n ys' H' ⟨rfl,hi,ex,rv⟩;have dm:=(ve.ext ex).dom;obtain ⟨J1,J2⟩:=hJ H' ex dm i
 by_cases hlt:i<its.length
 ·have hd:its[i]?=some its[i]:=by simp [hlt]
  obtain ⟨go,yld⟩:=J1 _ hd;obtain ⟨ρ',k,v,hg,hb,he,hz,hdp⟩:=ht i _ hd;refine .inr ⟨go,fun x H1 y=>?_⟩;obtain ⟨e1,r1⟩:=yld x H1 y;have ve1:=(ve.ext ex).ext e1;refine ⟨ρ,its[i],ρ',ks,hg,S,ve1,r1,fun σ2 ve2 c=>⟨c.fgt fun k hk=>ve.unset (hks k hk),by
   unfold lT;dsimp only;rw [if_pos rfl];exact ⟨ρ',k,v,hb,S,E i,ve2,rv.ext (e1.to S),hz,hdp,fun ep' kvs' H3 e3 ru=>⟨its.length - (i+1),by omega,rfl,hlt,ex.trans (e1.trans e3),by rw [he];exact ru⟩⟩⟩⟩
 ·have e:i=its.length:=by omega
  subst e;exact .inl ⟨J2 (EG _),q ys'.1 ys'.2 H' ex rv⟩
end
section
variable {X:Cx} {scope:Scope} {own:List Str} {cap:List (Str×Nat)} {ρ:Rho} {kx vx tg iter:Expr} {pos:Pos} {ks:List Nat} {its:List D} {E:Nat->List (PK×D)}
theorem tZ (cs:CS X scope own cap) (hc:X.calm=true) (hi:DI0 X tg ρ iter its) (hks:∀k∈ks,(cR own cap ρ)[k]?=some .nil) (E0:E 0=[]) (hz:(E its.length).length<=sizeLine)
  (ht:∀(i:Nat) d,its[i]?=some d->∃ρ' k v,(∀p s h f,DG (cX X scope own cap p s h f) tg (cR own cap ρ) d ρ' ks)∧(∀p s h f acc,DBd (cX X scope own cap p s h f) acc (fN kx vx acc (bL X scope s.heap.objs.size)) ρ' k v)∧E (i+1)=cW (E i) k v∧(E i).length<=sizeLine∧k.dp<=8)
  (hs:∀x,foldedSetIterable iter X.env x=pure x:=by intro _;rfl):DCx X ρ (.DictComp kx vx [⟨tg,iter,[],0⟩] scope pos) (.d (E its.length)):=by
 have rd:∀(σ:St) (H:Hp) (Q:VK),nD X.K ρ (.d (E its.length)) σ H Q->nC own cap (vn X.K ρ its) (gA X.K _) (tbD X.K _) σ H Q:=fun σ H Q ⟨S,ve,k⟩=>⟨S,ve,fun J H1 e1 hJ=>
  xT (G:=fun ρ d ρ' ks=>∀p s h f,DG (cX X scope own cap p s h f) tg ρ d ρ' ks) (B:=fun ρ k d=>∀p s h f acc,DBd (cX X scope own cap p s h f) acc (fN kx vx acc (bL X scope s.heap.objs.size)) ρ k d) hks E0 ht (ve.ext e1).cap hJ fun ep kvs H2 e2 r=>⟨by rw [←r.length];exact hz,fun a ha=>
   k a (PD a ep kvs) _ ((e1.trans e2).trans (Ext.new ha)) ((e1.trans e2).back ha) aG ⟨ep,kvs,rfl,((r.av (S':=S.and a) fun b h=>h.imp_right fun z=>by rw [z];exact ha).ext ((Ext.new ha).to _))⟩⟩⟩
 have g1:∀p s h f,PG (cX X scope own cap p s h f) tg (gA X.K (fun ρ d ρ' ks=>∀p s h f,DG (cX X scope own cap p s h f) tg ρ d ρ' ks)):=fun p s h f=>qp (Y:=cX X scope own cap p s h f) fun _ _ _ _ g=>g p s h f;have g3:∀p s h f acc,PBg dH (cX X scope own cap p s h f) acc (fN kx vx acc (bL X scope s.heap.objs.size)) (tbD X.K (fun ρ k d=>∀p s h f acc,DBd (cX X scope own cap p s h f) acc (fN kx vx acc (bL X scope s.heap.objs.size)) ρ k d)):=
  fun p s h f acc pins s σ H ys Q I fo a ⟨_,_,_,g,q⟩=>g p _ h f acc pins s σ H ys Q I fo a q
 exact ⟨PE.weak (uV cs hc hi g1 g3 hs) rd,fun i x pos' spos hN hix hx hf hsw=>PS.weak (u6 cs hc hN hix hx hi g1 g3 hsw hs hf) fun D σ H q=>rd σ H _ q⟩
end
set_option autoImplicit true
set_option relaxedAutoImplicit true
set_option autoImplicit true
set_option relaxedAutoImplicit true
section
variable {prog:Program} {w:World} {E:Value->Shared->Prop} {K:Type} [DecidableEq K] {knd:HeapKind prog w K} {A:Around} {s:Shared}
noncomputable def iJ (A:Around) (s:Shared) (ys:List (K×Addr×Value)):List (K×Addr×Value)->Bool->Prop
 |[],r=>r=true
 |x::xs,r=>(atKey ys x.1=none∧r=false)∨∃p e r',atKey ys x.1=some p∧SeqAt.EqAt A s x.2.2 p.2 e∧iJ A s ys xs r'∧r=(e&&r')
theorem vi (hu:knd.room A) (ha:(a==sysModules)=false) (hb:(b==sysModules)=false)
  (da:au knd s.heap a xs ep) (db:au knd s.heap b ys ep') (ia:∀x∈xs,knd.is s.heap x.1 x.2.1) (ib:∀y∈ys,knd.is s.heap y.1 y.2.1)
  (hv:xs.length=ys.length->iJ A s ys xs r) (h:Q (xs.length==ys.length&&r) s):wpAny (model prog w) A (Builtin.Dict.samePairs nm a b) Q E s:=by
 obtain ⟨oa,es,goa,_,hda,hla,_⟩:=da;obtain ⟨ob,fs,gob,_,hdb,hlb,hnb⟩:=db;have za:es.size=xs.length:=by rw [←Array.length_toList,hla,Ez]
 have zb:fs.size=ys.length:=by rw [←Array.length_toList,hlb,Ez]
 unfold Builtin.Dict.samePairs Builtin.Dict.showsAll;simp only [ha,hb,Bool.false_eq_true,if_false];refine At (AC (At (AC (At (wpAny_dictEntries goa hda ?_)))));refine At (wpAny_dictEntries gob hdb ?_)
 by_cases hz:es.size=fs.size
 ·have hl:xs.length=ys.length:=by omega
  rw [if_neg (by simpa using hz)];refine At (wpAny_dictEpoch goa hda (At ?_));rw [Std.Legacy.Range.forIn_eq_forIn_range'];simp only [Std.Legacy.Range.size,Nat.sub_zero,Nat.add_sub_cancel,Nat.div_one];refine wpAny_forIn_list _ (fun rest q s'=>s'=s∧q=(none,())∧∃i r',rest=List.range' i (es.size - i)∧iJ A s ys (xs.drop i) r'∧(r'=r)) _ ?_ ?_ _ _ ⟨rfl,rfl,0,r,by simp,hv hl,rfl⟩
  ·rintro x rest q s' ⟨e1,e2,i,r',hr,hh,er⟩;subst e1 e2 er;have hi:i<es.size:=Nat.lt_of_not_le fun z=>by rw [Nat.sub_eq_zero_of_le z] at hr;cases hr
   obtain ⟨m,hm⟩:∃m,es.size - i=m+1:=⟨es.size - i - 1,by omega⟩
   rw [hm,List.range'_succ] at hr;injection hr with e3 e4;subst e3;have hx:x<xs.length:=by omega
   have ee:es[x]?=some ⟨knd.hash xs[x].1,.ref xs[x].2.1,xs[x].2.2⟩:=by
    rw [←Array.getElem?_toList,hla,List.getElem?_map,List.getElem?_eq_getElem hx];rfl
   rw [List.drop_eq_getElem_cons hx,iJ] at hh;refine At (wpAny_dictEntries goa hda ?_);rw [ee];dsimp only;refine At (Da (At (wpAny_dictFind_heap hu (ia _ (List.getElem_mem hx)) gob hdb hlb ib hnb (fun hno=>?_) fun j p hj=>?_)))
   ·rw [atKey_none_of_get hno] at hh;rcases hh with ⟨_,er⟩|⟨_,_,_,z,_⟩
    ·refine AC ?_;simp only [Bool.not_false,if_true];rw [er,Bool.and_false] at h;exact AC (AC h)
    ·cases z
   ·rw [atKey_of_get hnb hj] at hh;rcases hh with ⟨z,_⟩|⟨p',e,r2,z,he,ht,er⟩
    ·cases z
    cases z;refine At (wpAny_dictEntries gob hdb ?_);have ef:fs[j]?=some ⟨knd.hash xs[x].1,.ref p.1,p.2⟩:=by
     rw [←Array.getElem?_toList,hlb,List.getElem?_map,hj];rfl
    rw [ef];refine Da (he prog w _ _ ?_);cases e with
    |false=>
     simp only [Bool.not_false,if_true];rw [er,Bool.false_and,Bool.and_false] at h;exact AC (AC h)
    |true=>
     simp only [Bool.not_true,Bool.false_eq_true,if_false];refine At (wpAny_dictEpoch goa hda ?_);rw [if_neg (by simp)];rw [Bool.true_and] at er;exact AC ⟨rfl,rfl,x+1,r2,by rw [e4];congr 1;omega,ht,er.symm⟩
  ·rintro q s' ⟨e1,e2,i,r',hr,hh,er⟩;subst e1 e2 er;have hi:es.size<=i:=Nat.le_of_not_lt fun z=>by
    obtain ⟨m,hm⟩:∃m,es.size - i=m+1:=⟨es.size - i - 1,by omega⟩
    rw [hm,List.range'_succ] at hr;cases hr
   rw [List.drop_eq_nil_of_le (by omega)] at hh;cases (show r'=true from hh);rw [hl,beq_self_eq_true,Bool.and_true] at h;exact AC h
 ·rw [if_pos (by simpa using hz)];have hl:(xs.length==ys.length)=false:=by rw [beq_eq_false_iff_ne];omega
  rw [hl,Bool.false_and] at h;exact At (wpAny_rule (AC h))
theorem zZ (hu:knd.room A.in1) (hc:A.units<cLine) (ha:(a==sysModules)=false) (hb:(b==sysModules)=false)
  (da:au knd s.heap a xs ep) (db:au knd s.heap b ys ep') (ia:∀x∈xs,knd.is s.heap x.1 x.2.1) (ib:∀y∈ys,knd.is s.heap y.1 y.2.1)
  (hv:xs.length=ys.length->iJ A.in1 s ys xs r) (h:Q (.bool (xs.length==ys.length&&r)) s):wpAny (model prog w) A (compareOp .Eq (.ref a) (.ref b)) Q E s:=by
 refine wpAny_richCompare_same_room (op:=.Eq) da.typeIs db.typeIs F.slot_dict_eq (wpAny_call_entry F.slot_dict_eq da.typeIs F.entry_dict_eq ?_ (F.args_dict_eq_2 _ _)) hc;show wpAny _ _ (Builtin.Dict.dictSlotArgs _ _>>=_) _ _ _;refine At ?_;unfold Builtin.Dict.dictSlotArgs;refine At (wpAny_notOrdered_dict da.typeIs (AC (At (wpAny_isInstance db.typeIs F.sub_dict_dict ?_))));simp only [Bool.not_true,Bool.false_eq_true,if_false];refine At (AC (At (AC (At (vi hu ha hb da db ia ib hv (AC ⟨_,rfl,(fun z=>nomatch z),by simpa using h⟩))))))
end
noncomputable def eqV (x:D):Bool:=bc x&&decide ((toPy x).depth<=32)
noncomputable def eqB (es fs:List (PK×D)):Bool:=es.all fun p=>match aZ fs p.1 with
 |some w=>eqD p.2 w
 |none=>false
section
variable {X:Cx} {pins:List (Addr×Obj)} {σ:St} {H:Hp} {s:Shared} {S:Ad}
theorem xS (ok:fs.all (fun p=>eqV p.2)=true) (h:aZ fs k=some d):eqV d=true:=by
 obtain ⟨p,hp,e⟩:=Option.map_eq_some_iff.mp h;rw [←e];exact EA.mp ok p (List.mem_of_find?_eq_some hp)
theorem oy (hu:X.A.units+64<cLine) (I:Inv X pins σ H s) (rb:ar X.K H S fs lvs) (kb:KP lvs ys) (okf:fs.all (fun p=>eqV p.2)=true):
  ∀{es:List (PK×D)} {kvs:List (PK×Addr×V)} {xs:List (PK×Addr×Value)},ar X.K H S es kvs->KP kvs xs->es.all (fun p=>eqV p.2)=true->iJ X.A.in1 s ys xs (eqB es fs)
 |_,_,_,.nil,k,_=>by cases k;exact rfl
 |_,_,_,.cons (k:=k') (d:=d) hd kk r t,k,oke=>by
  cases k with
  |@cons _ x _ xs h kt=>
   obtain ⟨o1,o2⟩:=EJ.mp (show (eqV d&&_)=true from oke);have ih:=oy hu I rb kb okf t kt o2;obtain ⟨i1,i2⟩:=ar.look (k:=k') rb;have q:=kb.val k';have e1:x.1=k':=h.1.symm;unfold iJ;rw [e1];cases e:aZ fs k' with
   |none=>
    rw [i2 e] at q;refine .inl ⟨?_,?_⟩
    ·cases z:atKey ys k' with
     |none=>rfl
     |some p=>rw [z] at q;exact q.elim
    ·show ((match aZ fs k' with|some w=>eqD d w|none=>false)&&_)=false;rw [e];rfl
   |some w=>
    obtain ⟨v,hv,rv⟩:=i1 w e;rw [hv] at q;obtain ⟨u,hu',ru⟩:=bY.some_of q;obtain ⟨p,hp,hp2⟩:=Option.map_eq_some_iff.mp hu';obtain ⟨a1,a2⟩:=EJ.mp (show (bc d&&decide _)=true from o1);obtain ⟨b1,b2⟩:=EJ.mp (show (bc w&&decide _)=true from xS okf e);obtain ⟨as,ra⟩:=dq I _ a1 r h.2.2;obtain ⟨bs,rb'⟩:=dq I _ b1 rv ru;refine .inr ⟨p,eqD d w,_,hp,?_,ih,?_⟩
    ·rw [hp2];exact SeqAt.eqAt_reads _ _ _ _ _ _ _ _ ra rb' (c9 a1) (c9 b1) (by have:=of_decide_eq_true a2;show X.A.units+1+_<_;omega)
    ·show ((match aZ fs k' with|some w=>eqD d w|none=>false)&&_)=_;rw [e];rfl
theorem AR (hu:X.A.units+64<cLine) (oke:es.all (fun p=>eqV p.2)=true) (okf:fs.all (fun p=>eqV p.2)=true):
  OpR X (compareOp .Eq) (fun x y H Q=>∃S,Rds X.K H S (.pdc es) x∧Rds X.K H S (.pdc fs) y∧Q (.bl (es.length==fs.length&&eqB es fs)) H):=by
 intro pins s σ H x y v u Q I rx ry zz;obtain ⟨S,r1,r2,q⟩:=zz;cases r1 with
 |@dP a ep kvs _ ha _ ra=>
  cases r2 with
  |@dP b ep' lvs _ hb _ rb=>
   obtain rfl:v=Value.ref a:=rx;obtain rfl:u=Value.ref b:=ry;obtain ⟨_,za,xs,ka,da⟩:=cJ I.hok ha;obtain ⟨_,zb,ys,kb,db⟩:=cJ I.hok hb;refine zZ (knd:=bI X.prog X.w) (show X.A.units+1+8<cLine by omega) (by omega) za zb da db (ka.is ra.keys I.hok) (kb.is rb.keys I.hok) (fun _=>oy hu I rb kb okf ra ka oke) ⟨.bl _,H,I,?_,q⟩;show Value.bool _=Value.bool _;rw [ra.length,rb.length,ka.length,kb.length]
end
end CT
set_option autoImplicit true
set_option relaxedAutoImplicit true
namespace CT
open PySem PySem.Spec L2
open PyProof.Rows hiding St
open PySem.W (Frag)
noncomputable abbrev CXA (_:Program) (_:World):CXT:=CX0
noncomputable def DEX (_:Cx) (_:Rho) (_:Expr) (_:D):Prop:=True
noncomputable def DSX (_:Cx) (_:Rho) (_:Stmt) (_:Rho) (_:D):Prop:=True
noncomputable def yW (_:Cx) (_:Rho) (_:List Stmt) (_:Rho) (_:D):Prop:=True
inductive pd (X:Cx) (tg:Expr) (body:List Stmt) (ρe:Rho) (de:D):List D->Rho->Prop
 |here {d:D} {ds:List D} {ρ ρ1:Rho} {ks:List Nat}:DG X tg ρ d ρ1 ks->cy ρ ρ1 ks->yW X ρ1 body ρe de->pd X tg body ρe de (d::ds) ρ
 |cons {d:D} {ds:List D} {ρ ρ1 ρ2:Rho} {ks:List Nat}:DG X tg ρ d ρ1 ks->cy ρ ρ1 ks->DSs X ρ1 body (.nx ρ2)->pd X tg body ρe de ds ρ2->pd X tg body ρe de (d::ds) ρ
inductive Res where
 |ok (d:D)|xc (d:D)
inductive yZ where
 |ok (fs:List (Str×D))|xc (d:D)
noncomputable def spR (K:Frag) (P:List D->Res->Prop):Sp:=fun vs H Q _=>∃S ds r,Dom H S∧ae K H S ds vs∧P ds r∧(∀d,r≠.xc d)∧∀d,r=.ok d->∀v H',aD H H'->Rds K H' S d v->Q v H'
noncomputable def qA (K:Frag) (C:Addr) (P:List D->yZ->Prop):Sp:=fun vs H Q _=>∃S x dx us ds r,vs=.ref x::us∧H x=some (.ins C dx [])∧Dom H S∧S x∧ae K H S ds us∧P ds r∧(∀d,r≠.xc d)∧
 ∀fs,r=.ok fs->∀H' gs,(∀a o,a≠x->H a=some o->H' a=some o)->H' x=some (.ins C dx gs)->aH K H' S fs gs->Q .non H'
section
variable {P:Program} {w:World} {K:Frag} {mg:Str->Option Value} {base:Heap} {x qual:Str} {st:Stmt} {f C:Addr} {fd:FuncData} {N ps:List Str} {k:Nat}
theorem aE.okD (F:aE P w K mg base CX0 k f fd ps (spR K Pr)):aE P w K mg base CX0 k f fd ps (spD K fun ds d=>Pr ds (.ok d)):=
 F.imp fun vs H Q E ⟨S,ds,d,dm,r,p,kk⟩=>⟨S,ds,.ok d,dm,r,p,(fun _ z=>nomatch z),fun d' e=>by cases e;exact kk⟩
theorem aE.okI (F:aE P w K mg base CX0 k f fd ps (qA K C Pr)):aE P w K mg base CX0 k f fd ps (spI K C fun ds fs=>Pr ds (.ok fs)):=
 F.imp fun vs H Q E ⟨S,x,dx,us,ds,fs,e,hx,dm,sx,r,p,kk⟩=>⟨S,x,dx,us,ds,.ok fs,e,hx,dm,sx,r,p,(fun _ z=>nomatch z),fun d' e=>by cases e;exact kk⟩
theorem Ds (F:Fun K x qual st f fd) (S:bC N ps (aj st)) (len:∀ds r,Pr ds r->ds.length=ps.length)
  (hb:∀(cdv:Value) (A:Around) (outer:List Env) (s:Shared) (H:Hp) (E:XK) (ds:List D) (d:D),aJ k (A.deeper (envOfC qual (aj st) s.heap.objs.size f cdv))->Pr ds (.ok d)->
   ∃o,yX o d∧DSs (dN CX0 P w K mg base N qual (aj st) f cdv A outer s H E).nox (aO N ds) (aY st) o):aE P w K mg base CX0 (k+1) f fd ps (spR K Pr):=
 (Dq (Pr:=fun ds d=>Pr ds (.ok d)) F S (fun ds d p=>len ds _ p) hb).imp fun vs H Q E ⟨S,ds,r,dm,rs,p,nx,kk⟩=>by
  cases r with
  |ok d=>exact ⟨S,ds,d,dm,rs,p,kk d rfl⟩
  |xc d=>exact absurd rfl (nx d)
theorem Cb (F:Fun K x qual st f fd) (S:bC N ps (aj st)) (len:∀ds r,Pr ds r->ds.length+1=ps.length)
  (hb:∀(cdv:Value) (A:Around) (outer:List Env) (s:Shared) (H:Hp) (E:XK) (ds:List D) (fs:List (Str×D)) (z dx:Addr),aJ k (A.deeper (envOfC qual (aj st) s.heap.objs.size f cdv))->Pr ds (.ok fs)->
   ∃ρ',ρ'[0]?=some (.new C z dx fs)∧DSs (dN CX0 P w K mg base N qual (aj st) f cdv A outer s H E).nox (.new C z dx []::(aO N (.non::ds)).tail) (aY st) (.nx ρ')):aE P w K mg base CX0 (k+1) f fd ps (qA K C Pr):=
 (Dr (Pr:=fun ds fs=>Pr ds (.ok fs)) F S (fun ds d p=>len ds _ p) hb).imp fun vs H Q E ⟨S,x,dx,us,ds,r,e,hx,dm,sx,rs,p,nx,kk⟩=>by
  cases r with
  |ok d=>exact ⟨S,x,dx,us,ds,d,e,hx,dm,sx,rs,p,kk d rfl⟩
  |xc d=>exact absurd rfl (nx d)
end
end CT
set_option autoImplicit true
set_option relaxedAutoImplicit true
set_option genInjectivity false
namespace IN
open PySem PySem.Spec L2 CT
open PyProof.Rows hiding St
inductive BO where|add|sub|mul|mod|fdiv|pow|shr
inductive CO where|lt|le|gt|ge|eq|ne|is|isn|inn|nin
inductive BN where|len|sum|all|any|abs|int|str|tuple|list|dict|min|max|isin|range|zip|enum|sorted
inductive Tg where
 |nm (k:Nat)|tp (ts:List Tg)
inductive CE where
 |nop|var (i:Nat)|lit (d:D)|gl (x:Str)
 |bin (o:BO) (a b:CE)|neg (a:CE)|nt (a:CE)|and (a b:CE)|or (a b:CE)
 |cmp (o:CO) (a b:CE)|isN (a:CE)|mV (a:CE)|chn (a b c:CE)|ife (c a b:CE)
 |tup (es:List CE)|lst (es:List CE)|ix (a b:CE)|sl (a lo hi:CE)
 |fld (a:CE) (f:Str)|blt (n:BN) (es:List CE)|fn (x:Str) (es:List CE)|mth (o:CE) (m:Str) (es:List CE)
 |comp (w:Nat) (cap:List Nat) (tg:Tg) (it test body:CE)
 |emit (e:CE)|loop (tg:Tg) (it test body:CE)
 |fF
 |bN (w:Nat) (cap:List Nat) (tg:Tg) (it k v:CE)
inductive CS' where
 |asg (t:Tg) (e:CE) (L:List Nat)|aug (i:Nat) (o:BO) (e:CE) (L:List Nat)
 |par (i j:Nat) (a b:CE) (L:List Nat)
 |put (i:Nat) (k e:CE) (L:List Nat)|gN (f:Str) (e:CE) (L:List Nat)
 |app (i:Nat) (e:CE) (L:List Nat)|clr (i:Nat)
 |exp (e:CE) (L:List Nat)|ret (e:CE) (L:List Nat)|Bq
 |ife (c:CE) (L:List Nat) (a b:List CS')|for (t:Tg) (it:CE) (L:List Nat) (b:List CS')|whl (c:CE) (L:List Nat) (b:List CS')
 |rse (x:Str) (es:List CE) (L:List Nat)
 |try (b:List CS') (x:Str) (i:Nat) (h:List CS')
 |pass
 |fgt (L:List Nat)
 |mov (j i:Nat)
structure Def where
 slots:Nat
 aw:Nat
 init:Bool:=false
 body:List CS'
inductive Tag where
 |ty (n:String)|cl (C:Addr)|xc (C:Addr)
 deriving DecidableEq
noncomputable def BC:D->Option Tag
 |.ins C _=>some (.cl C)|.exc C _=>some (.xc C)
 |d=>(tyN d).map .ty
noncomputable def Ei:D->Option Tag
 |.ty n=>some (.ty n)|.cl C=>some (.cl C)|_=>none
structure Prg where
 glob:Str->Option D
 fn:Str->Option Str
 ini:Str->Option (Addr×Str)
 exc:Str->Option (Addr×List Str)
 mth:Addr->Str->Option Str
 fok:Addr->Str->Bool
 xok:Addr->Str->Bool
 kit:Tag->Tag->Option Bool
 sub:Addr->Addr->Option Bool
 defs:Str->Option (Option Addr×Def)
inductive Rs where
 |ok (d:D)|fr (c:Ow)|xc (d:D)
inductive Oc where
 |nx (ρ:Rho)|rt (d:D)|fr (c:Ow)|xc (ρ:Rho) (d:D)
mutual
noncomputable def b_:D->Option PK
 |.int n=>some (.i n)
 |.tup xs=>match fX xs with|some l=>some (.t l)|none=>none
 |_=>none
noncomputable def fX:List D->Option (List PK)
 |[]=>some []
 |x::xs=>match b_ x with
  |some k=>match fX xs with
   |some ks=>some (k::ks)
   |none=>none
  |none=>none
end
mutual
noncomputable def PK.beq:PK->PK->Bool
 |.i n,.i m=>n==m
 |.t l,.t r=>PK.gw l r
 |_,_=>false
noncomputable def PK.gw:List PK->List PK->Bool
 |[],[]=>true
 |a::l,b::r=>PK.beq a b&&PK.gw l r
 |_,_=>false
end
noncomputable def look:List (PK×D)->PK->Option D
 |[],_=>none
 |(k,d)::r,q=>if PK.beq k q then some d else look r q
noncomputable def bS (es:List (PK×D)) (q:PK) (v:D):List (PK×D):=
 match look es q with
 |some _=>es.map fun p=>if PK.beq p.1 q then (p.1,v) else p
 |none=>es++[(q,v)]
noncomputable def apart:List Int->Bool
 |[]=>true
 |x::xs=>!xs.contains x&&apart xs
noncomputable def bH (i j:Int):Bool:=decide (i.natAbs<2^64)||decide (j.natAbs<2^64)||(decide (i.natAbs<2^100000)&&decide (j.natAbs<2^100000))
noncomputable def binI:BO->Int->Int->Option D
 |.add,i,j=>some (.int (i+j))
 |.sub,i,j=>some (.int (i - j))
 |.mul,i,j=>if bH i j then some (.int (i*j)) else none
 |.mod,i,j=>if 0<j then some (.int (i%j)) else none
 |.fdiv,i,j=>if 0<j∧j.toNat<1073741824 then some (.int (i / j)) else none
 |.pow,_,_=>none
 |.shr,_,_=>none
noncomputable def rep1 (k:Int):List D->Option D
 |[d]=>if 0<=k∧k.toNat<2^20 then some (.tup (List.replicate k.toNat d)) else none
 |_=>none
noncomputable def zh (f:List D->D) (xs ys:List D):Option D:=if xs.length+ys.length<=sizeLine then some (f (xs++ys)) else none
noncomputable def mF (f:Int->Option α):D->Option α
 |.int j=>f j|_=>none
noncomputable def tupK (f:List D->Option α):D->Option α
 |.tup j=>f j|_=>none
noncomputable def lstK (f:List D->Option α):D->Option α
 |.lst j=>f j|_=>none
noncomputable def eN (o:BO) (x y:D):Option D:=
 match x with
 |.int i=>mF (binI o i) y
 |.tup xs=>match o with
  |.add=>tupK (zh .tup xs) y
  |.mul=>mF (fun k=>rep1 k xs) y
  |_=>none
 |.lst xs=>match o with
  |.add=>lstK (zh .lst xs) y
  |_=>none
 |_=>none
theorem fz:(∀i j,eN .add (.int i) (.int j)=some (.int (i+j)))∧(∀i j,eN .sub (.int i) (.int j)=some (.int (i - j)))
  ∧(∀i j,eN .mul (.int i) (.int j)=if bH i j then some (.int (i*j)) else none)
  ∧(∀i j,eN .mod (.int i) (.int j)=if 0<j then some (.int (i%j)) else none)
  ∧(∀i j,eN .fdiv (.int i) (.int j)=if 0<j∧j.toNat<1073741824 then some (.int (i / j)) else none)
  ∧(∀xs ys,eN .add (.tup xs) (.tup ys)=if xs.length+ys.length<=sizeLine then some (.tup (xs++ys)) else none)
  ∧(∀xs ys,eN .add (.lst xs) (.lst ys)=if xs.length+ys.length<=sizeLine then some (.lst (xs++ys)) else none)
  ∧(∀d k,eN .mul (.tup [d]) (.int k)=if 0<=k∧k.toNat<2^20 then some (.tup (List.replicate k.toNat d)) else none):=by
 and_intros<;>(intros;rfl)
noncomputable def boolsOf:List D->Option (List Bool)
 |[]=>some []
 |.bl b::r=>match boolsOf r with|some l=>some (b::l)|none=>none
 |_=>none
noncomputable def intsOf:List D->Option (List Int)
 |[]=>some []
 |.int b::r=>match intsOf r with|some l=>some (b::l)|none=>none
 |_=>none
noncomputable def d9 (x y:D):Bool:=bc x&&bc y&&decide (min (toPy x).depth (toPy y).depth<=64)
noncomputable def jq (f:Int->Int->Bool) (x y:D):Option Bool:=mF (fun i=>mF (fun j=>some (f i j)) y) x
noncomputable def eqK (f:Bool->Bool) (x y:D):Option Bool:=if d9 x y then some (f (eqD x y)) else none
noncomputable def blK (f:Bool->Option Bool):D->Option Bool
 |.bl b=>f b|_=>none
noncomputable def eqI (f:Bool->Bool) (y:D):D->Option Bool
 |.int i=>(match y with
  |.int j=>some (f (decide (i=j)))
  |_=>eqK f (.int i) y)
 |x=>eqK f x y
noncomputable def mz (es fs:List (PK×D)):Bool:=es.all fun p=>match look fs p.1 with
 |some w=>eqD p.2 w
 |none=>false
noncomputable def A0 (f:List (PK×D)->Option Bool):D->Option Bool
 |.pdc fs=>f fs|_=>none
noncomputable def eqX (y:D):D->Option Bool
 |.pdc es=>A0 (fun fs=>if es.all (fun p=>eqV p.2)&&fs.all (fun p=>eqV p.2) then some (es.length==fs.length&&mz es fs) else none) y
 |x=>eqI id y x
noncomputable def bg (o:CO) (x y:D):Option Bool:=
 match o with
 |.lt=>jq (fun i j=>decide (i<j)) x y
 |.le=>jq (fun i j=>decide (i<=j)) x y
 |.gt=>jq (fun i j=>decide (j<i)) x y
 |.ge=>jq (fun i j=>decide (j<=i)) x y
 |.eq=>eqX y x
 |.ne=>eqI (!·) y x
 |.is=>blK (fun p=>blK (fun q=>some (p==q)) y) x
 |.isn=>blK (fun p=>blK (fun q=>some (p !=q)) y) x
 |.inn=>none
 |.nin=>none
theorem jS:(∀i j,bg .lt (.int i) (.int j)=some (decide (i<j)))∧(∀i j,bg .le (.int i) (.int j)=some (decide (i<=j)))
  ∧(∀i j,bg .gt (.int i) (.int j)=some (decide (j<i)))∧(∀i j,bg .ge (.int i) (.int j)=some (decide (j<=i)))
  ∧(∀i j,bg .eq (.int i) (.int j)=some (decide (i=j)))∧(∀i j,bg .ne (.int i) (.int j)=some (!decide (i=j)))
  ∧(∀xs y,bg .eq (.tup xs) y=if d9 (.tup xs) y then some (eqD (.tup xs) y) else none)
  ∧(∀xs y,bg .ne (.tup xs) y=if d9 (.tup xs) y then some (!eqD (.tup xs) y) else none)
  ∧(∀xs y,bg .eq (.lst xs) y=if d9 (.lst xs) y then some (eqD (.lst xs) y) else none)
  ∧(∀xs y,bg .ne (.lst xs) y=if d9 (.lst xs) y then some (!eqD (.lst xs) y) else none):=by
 and_intros<;>(intros;rfl)
noncomputable def br:D->Option (List D)
 |.lst xs=>some xs|.tup xs=>some xs|_=>none
noncomputable def ixD:D->D->Option D
 |.lst xs,.int i=>atI xs i
 |.tup xs,.int i=>atI xs i
 |.pdc es,k=>match b_ k with
  |some (.t l)=>if (PK.t l).dp<=8 then look es (.t l) else none
  |_=>none
 |_,_=>none
noncomputable def slD:D->Option Int->Option Int->Option D
 |.tup xs,l,u=>some (.tup (dM xs l u))
 |.lst xs,l,u=>some (.lst (dM xs l u))
 |_,_,_=>none
noncomputable def bM (G:Prg) (d:D):D->Option Bool
 |.tup [.ty a,.ty b]=>if a="list"∧b="tuple" then (match tyN d with|some _=>some (pN d "list"||pN d "tuple")|none=>none) else none
 |c=>match BC d,Ei c with
  |some t,some u=>G.kit t u
  |_,_=>none
noncomputable def bA (G:Prg):BN->List D->Option D
 |.len,[d]=>match br d with|some xs=>some (.int xs.length)|none=>none
 |.sum,[.lst xs]=>match intsOf xs with|some ns=>some (.int ns.sum)|none=>none
 |.all,[d]=>match br d with|some xs=>(match boolsOf xs with|some bs=>some (.bl (bs.all id))|none=>none)|none=>none
 |.tuple,[d]=>match br d with|some xs=>some (.tup xs)|none=>none
 |.min,[.int i,.int j]=>some (.int (if j<i then j else i))
 |.max,[.int i,.int j]=>some (.int (if j>i then j else i))
 |.isin,[d,c]=>match bM G d c with|some b=>some (.bl b)|none=>none
 |_,_=>none
noncomputable def itD:D->Option (List D)
 |.lst xs=>some xs|.tup xs=>some xs|.pdc es=>some (es.map fun p=>PK.d p.1)|_=>none
noncomputable def fZ (j:Int):Bool:=decide (j.toNat<2^62)&&decide ((-j).toNat<=2^62)
noncomputable def gv:BN->List D->Option (List D)
 |.range,[.int j]=>if fZ j then some ((aq j).map D.int) else none
 |.range,[.int i,.int j]=>if fZ i&&fZ j then some ((jv i j).map D.int) else none
 |.zip,[x,y]=>match br x,br y with|some xs,some ys=>some (cg xs ys)|_,_=>none
 |.zip,[x,y,z]=>match br x,br y,br z with|some xs,some ys,some zs=>some (a_ xs ys zs)|_,_,_=>none
 |.enum,[x]=>match br x with|some xs=>some (a7 0 xs)|_=>none
 |_,_=>none
mutual
noncomputable def ak:Tg->D->Rho->Option Rho
 |.nm k,d,ρ=>if k<ρ.length then some (ρ.set k (.val d)) else none
 |.tp ts,.tup ds,ρ=>aP ts ds ρ
 |_,_,_=>none
noncomputable def aP:List Tg->List D->Rho->Option Rho
 |[],[],ρ=>some ρ
 |t::ts,d::ds,ρ=>match ak t d ρ with|some ρ'=>aP ts ds ρ'|none=>none
 |_,_,_=>none
end
mutual
noncomputable def tks:Tg->List Nat
 |.nm k=>[k]
 |.tp ts=>dO ts
noncomputable def dO:List Tg->List Nat
 |[]=>[]
 |t::ts=>tks t++dO ts
end
noncomputable def isNil:Option Sl->Bool
 |some .nil=>true|_=>false
noncomputable def aQ:Option Sl->Option D
 |some (.val d)=>some d|_=>none
noncomputable def iN (f:D->Option (List D)):List D->Option (List D)
 |[]=>some []
 |d::ds=>match f d with
  |some xs=>match iN f ds with
   |some ys=>some (xs++ys)
   |none=>none
  |none=>none
noncomputable def gH (f:D->Option (PK×D)):List D->List (PK×D)->Option (List (PK×D))
 |[],es=>some es
 |d::ds,es=>match f d with
  |some p=>if es.length<sizeLine then gH f ds (bS es p.1 p.2) else none
  |none=>none
noncomputable def pK:Option D->Option D->Option (PK×D)
 |some kd,some v=>match b_ kd with
  |some (.t l)=>if (PK.t l).dp<=8 then some (.t l,v) else none
  |_=>none
 |_,_=>none
noncomputable def cz (w:Nat) (cap:List Nat) (ρ:Rho):Rho:=List.replicate w .nil++cap.map fun i=>bZ ρ[i]?
noncomputable def Rs.val:Rs->Option D
 |.ok d=>some d|.fr c=>some c.D|.xc _=>none
noncomputable def fnR (G:Prg) (cl:Str->List D->Option Rs) (x:Str) (ds:List D):Option Rs:=
 match ds with
 |[]=>none
 |d::r=>match G.fn x with
  |some k=>cl k (d::r)
  |none=>match G.ini x with
   |some (_,k)=>cl k (d::r)
   |none=>none
noncomputable def aF (G:Prg) (cl:Str->List D->Option Rs) (o:D) (m:Str) (ds:List D):Option Rs:=
 match o with
 |.ins C fs=>match fs.lookup m,G.mth C m with
  |none,some k=>cl k (.ins C fs::ds)
  |_,_=>none
 |.pdc es=>if m="get" then (match ds with
  |[k]=>match b_ k with
   |some (.t l)=>if (PK.t l).dp<=8 then some (.ok ((look es (.t l)).getD .non)) else none
   |_=>none
  |_=>none) else none
 |_=>none
noncomputable def bo (G:Prg) (o:D) (f:Str):Option D:=
 match o with
 |.ins C fs=>if G.fok C f then fs.lookup f else none
 |_=>none
noncomputable def asI:CE->Option D->Option (Option Int)
 |.nop,_=>some none
 |_,some (.int i)=>some (some i)
 |_,_=>none
section
variable (G:Prg) (cl:Str->List D->Option Rs)
mutual
noncomputable def ev:CE->Rho->Option D
 |.var i,ρ=>aQ ρ[i]?
 |.lit d,_=>some d
 |.gl x,_=>G.glob x
 |.bin o a b,ρ=>match ev a ρ with
  |some x=>match ev b ρ with
   |some y=>eN o x y
   |none=>none
  |none=>none
 |.neg a,ρ=>match ev a ρ with|some (.int i)=>some (.int (-i))|_=>none
 |.nt a,ρ=>match ev a ρ with|some (.bl b)=>some (.bl (!b))|_=>none
 |.and a b,ρ=>match ev a ρ with
  |some (.bl true)=>(match ev b ρ with|some (.bl q)=>some (.bl q)|_=>none)
  |some (.bl false)=>some (.bl false)
  |_=>none
 |.or a b,ρ=>match ev a ρ with
  |some (.bl true)=>some (.bl true)
  |some (.bl false)=>(match ev b ρ with|some (.bl q)=>some (.bl q)|_=>none)
  |_=>none
 |.cmp o a b,ρ=>match ev a ρ with
  |some x=>match ev b ρ with
   |some y=>match bg o x y with|some q=>some (.bl q)|none=>none
   |none=>none
  |none=>none
 |.isN a,ρ=>match ev a ρ with|some x=>some (.bl (dA x))|none=>none
 |.mV a,ρ=>match ev a ρ with|some x=>some (.bl (!dA x))|none=>none
 |.chn a b c,ρ=>match ev a ρ with
  |some (.int i)=>match ev b ρ with
   |some (.int j)=>match ev c ρ with
    |some (.int k)=>some (.bl (decide (i<=j)&&decide (j<k)))
    |_=>none
   |_=>none
  |_=>none
 |.ife c a b,ρ=>match evT c ρ with
  |some true=>ev a ρ
  |some false=>ev b ρ
  |none=>none
 |.tup es,ρ=>match evA es ρ with
  |some ds=>if ds.length<=sizeLine then some (.tup ds) else none
  |none=>none
 |.lst es,ρ=>match evA es ρ with
  |some ds=>if ds.length<=sizeLine then some (.lst ds) else none
  |none=>none
 |.ix a b,ρ=>match ev a ρ with
  |some x=>match ev b ρ with
   |some y=>ixD x y
   |none=>none
  |none=>none
 |.sl a lo hi,ρ=>match ev a ρ with
  |some x=>match asI lo (ev lo ρ) with
   |some l=>match asI hi (ev hi ρ) with
    |some u=>slD x l u
    |none=>none
   |none=>none
  |none=>none
 |.fld a f,ρ=>match ev a ρ with|some x=>bo G x f|none=>none
 |.blt n es,ρ=>match evA es ρ with
  |some ds=>match n with
   |.list=>(match ds with|[d]=>(match br d with|some xs=>some (.lst xs)|none=>none)|_=>none)
   |.dict=>(match ds with|[.pdc es]=>if apart (es.map fun q=>q.1.hs) then some (.pdc es) else none|_=>none)
   |_=>bA G n ds
  |none=>none
 |.fn x es,ρ=>match evA es ρ with
  |some ds=>match fnR G cl x ds with|some r=>r.val|none=>none
  |none=>none
 |.mth o m es,ρ=>match ev o ρ with
  |some x=>match evA es ρ with
   |some ds=>match aF G cl x m ds with|some r=>r.val|none=>none
   |none=>none
  |none=>none
 |.comp w cap tg it test body,ρ=>match evI it ρ with
  |some its=>if (tks tg).all (fun k=>k<w) then
    match iN (fun d=>match ak tg d (cz w cap ρ) with
     |some ρ'=>match evT test ρ' with
      |some true=>evB w body ρ'
      |some false=>some []
      |none=>none
     |none=>none) its with
    |some out=>if out.length<=sizeLine then some (.lst out) else none
    |none=>none
   else none
  |none=>none
 |.fF,_=>some (.pdc [])
 |.bN w cap tg it k v,ρ=>match evI it ρ with
  |some its=>if (tks tg).all (fun k=>k<w) then
    match gH (fun d=>match ak tg d (cz w cap ρ) with
     |some ρ'=>pK (ev k ρ') (ev v ρ')
     |none=>none) its [] with
    |some es=>some (.pdc es)
    |none=>none
   else none
  |none=>none
 |.nop,_=>none
 |.emit _,_=>none
 |.loop _ _ _ _,_=>none
noncomputable def evT:CE->Rho->Option Bool
 |.nt a,ρ=>match evT a ρ with|some b=>some (!b)|none=>none
 |.and a b,ρ=>match evT a ρ with
  |some true=>evT b ρ
  |some false=>some false
  |none=>none
 |.or a b,ρ=>match evT a ρ with
  |some true=>some true
  |some false=>evT b ρ
  |none=>none
 |.cmp o a b,ρ=>match ev a ρ with
  |some x=>match ev b ρ with
   |some y=>bg o x y
   |none=>none
  |none=>none
 |.isN a,ρ=>match ev a ρ with|some x=>some (dA x)|none=>none
 |.mV a,ρ=>match ev a ρ with|some x=>some (!dA x)|none=>none
 |.var i,ρ=>match aQ ρ[i]? with|some (.bl b)=>some b|_=>none
 |.lit (.bl b),_=>some b
 |.blt n es,ρ=>match evA es ρ with
  |some ds=>match bA G n ds with|some (.bl b)=>some b|_=>none
  |none=>none
 |.fn x es,ρ=>match evA es ρ with
  |some ds=>match fnR G cl x ds with|some (.ok (.bl b))=>some b|_=>none
  |none=>none
 |.mth o m es,ρ=>match ev o ρ with
  |some x=>match evA es ρ with
   |some ds=>match aF G cl x m ds with|some (.ok (.bl b))=>some b|_=>none
   |none=>none
  |none=>none
 |_,_=>none
noncomputable def evA:List CE->Rho->Option (List D)
 |[],_=>some []
 |e::es,ρ=>match ev e ρ with
  |some d=>match evA es ρ with
   |some ds=>some (d::ds)
   |none=>none
  |none=>none
noncomputable def evI:CE->Rho->Option (List D)
 |.blt n es,ρ=>match evA es ρ with
  |some ds=>match gv n ds with
   |some its=>some its
   |none=>none
  |none=>none
 |.var i,ρ=>match aQ ρ[i]? with|some d=>itD d|none=>none
 |.fld a f,ρ=>match ev a ρ with|some x=>(match bo G x f with|some d=>itD d|none=>none)|none=>none
 |.tup es,ρ=>match evA es ρ with|some ds=>if ds.length<=sizeLine then some ds else none|none=>none
 |.lst es,ρ=>match evA es ρ with|some ds=>if ds.length<=sizeLine then some ds else none|none=>none
 |.ix a b,ρ=>match ev a ρ with
  |some x=>match ev b ρ with
   |some y=>(match ixD x y with|some d=>itD d|none=>none)
   |none=>none
  |none=>none
 |.fn x es,ρ=>match evA es ρ with
  |some ds=>match fnR G cl x ds with|some r=>(match r.val with|some d=>itD d|none=>none)|none=>none
  |none=>none
 |.mth o m es,ρ=>match ev o ρ with
  |some x=>match evA es ρ with
   |some ds=>match aF G cl x m ds with|some r=>(match r.val with|some d=>itD d|none=>none)|none=>none
   |none=>none
  |none=>none
 |_,_=>none
noncomputable def evB (w:Nat):CE->Rho->Option (List D)
 |.emit e,ρ=>match ev e ρ with|some d=>some [d]|none=>none
 |.loop tg it test body,ρ=>match evI it ρ with
  |some its=>if (tks tg).all (fun k=>k<w&&isNil ρ[k]?) then
    iN (fun d=>match ak tg d ρ with
     |some ρ'=>match evT test ρ' with
      |some true=>evB w body ρ'
      |some false=>some []
      |none=>none
     |none=>none) its
   else none
  |none=>none
 |_,_=>none
end
theorem oD {β:Type} {x:Option D} {f:D->Option β} {r:β} (h:(match x with|some u=>f u|none=>none)=some r):∃u,x=some u∧f u=some r:=by
 cases x with
 |none=>cases h
 |some u=>exact ⟨u,rfl,h⟩
theorem oB {β:Type} {x:Option Bool} {f:Bool->Option β} {r:β} (h:(match x with|some u=>f u|none=>none)=some r):∃u,x=some u∧f u=some r:=by
 cases x with
 |none=>cases h
 |some u=>exact ⟨u,rfl,h⟩
theorem oL {β:Type} {x:Option (List D)} {f:(List D)->Option β} {r:β} (h:(match x with|some u=>f u|none=>none)=some r):∃u,x=some u∧f u=some r:=by
 cases x with
 |none=>cases h
 |some u=>exact ⟨u,rfl,h⟩
end
set_option autoImplicit true
set_option relaxedAutoImplicit true
noncomputable def aC:Sl->Sl
 |.owx c=>.val c.D
 |s=>s
noncomputable def af:List Nat->Rho->Rho
 |[],ρ=>ρ
 |i::L,ρ=>af L (ρ.modify i aC)
noncomputable def a8:Ow->Bool
 |.l xs=>aR xs
 |.d es=>es.all fun p=>ah p.2
noncomputable def vd:Nat:=0
noncomputable def kp (b:Bool) (ρ ρg:Rho):Rho:=if b then ρ else ρg
section
variable (G:Prg) (cl:Str->List D->Option Rs)
noncomputable def evV (e:CE) (ρ:Rho):Option Rs:=
 match e with
 |.fn x es=>match evA G cl es ρ with|some ds=>fnR G cl x ds|none=>none
 |.mth o m es=>match ev G cl o ρ with
  |some x=>match evA G cl es ρ with
   |some ds=>aF G cl x m ds
   |none=>none
  |none=>none
 |.lst es=>match evA G cl es ρ with
  |some ds=>if ds.length<=sizeLine then some (.fr (.l ds)) else none
  |none=>none
 |.comp w cap tg it test body=>match ev G cl (.comp w cap tg it test body) ρ with
  |some (.lst xs)=>some (.fr (.l xs))
  |_=>none
 |.blt .list es=>match ev G cl (.blt .list es) ρ with
  |some (.lst xs)=>some (.fr (.l xs))
  |_=>none
 |.blt .dict es=>match ev G cl (.blt .dict es) ρ with
  |some (.pdc xs)=>some (.fr (.d xs))
  |_=>none
 |.fF=>some (.fr (.d []))
 |.bN w cap tg it k v=>match ev G cl (.bN w cap tg it k v) ρ with
  |some (.pdc es)=>some (.fr (.d es))
  |_=>none
 |e=>match ev G cl e ρ with|some d=>some (.ok d)|none=>none
noncomputable def forL (tg:Tg) (b:Rho->Option Oc):List D->Rho->Option Oc
 |[],ρ=>some (.nx ρ)
 |d::ds,ρ=>match ak tg d ρ with
  |some ρ1=>match b ρ1 with
   |some (.nx ρ2)=>forL tg b ds ρ2
   |o=>o
  |none=>none
noncomputable def nF (c:Rho->Option Bool) (b:Rho->Option Oc):Nat->Rho->Option Oc
 |0,_=>none
 |n+1,ρ=>match c ρ with
  |some true=>(match b ρ with
   |some (.nx ρ2)=>nF c b n ρ2
   |some (.xc _ _)=>none
   |o=>o)
  |some false=>some (.nx ρ)
  |none=>none
noncomputable def gM:List Nat->Rho->Rho
 |[],ρ=>ρ
 |i::L,ρ=>gM L (ρ.set i .any)
noncomputable def vk:Sl->Nat
 |.val (.int i)=>i.natAbs
 |_=>0
noncomputable def turns (ρ:Rho):Nat:=(ρ.map vk).sum+1000000
mutual
noncomputable def aa:CS'->Rho->Option Oc
 |.asg t e L,ρ=>match evV G cl e (af L ρ) with
  |some (.ok d)=>(match ak t d (kp (ah d) ρ (af L ρ)) with|some ρ'=>some (.nx ρ')|none=>none)
  |some (.fr c)=>(match t with
   |.nm k=>if k<ρ.length then some (.nx ((kp (a8 c) ρ (af L ρ)).set k (.owx c))) else none
   |t=>none)
  |some (.xc d)=>some (.xc (af L ρ) d)
  |none=>none
 |.aug _ .add _ _,_=>none
 |.aug _ _ _ _,_=>none
 |.par i j a b L,ρ=>match ev G cl a (af L ρ) with
  |some x=>match ev G cl b (af L ρ) with
   |some y=>if i≠j∧i<ρ.length∧j<ρ.length then some (.nx (((kp (ah x&&ah y) ρ (af L ρ)).set i (.val x)).set j (.val y))) else none
   |none=>none
  |none=>none
 |.put i k e L,ρ=>match ev G cl e (af L ρ) with
  |some v=>match ev G cl k (af L ρ) with
   |some kd=>match (kp (ah v) ρ (af L ρ))[i]? with
    |some (.owx (.d es))=>(match b_ kd with
     |some (.t l)=>if (PK.t l).dp<=8∧es.length<sizeLine then some (.nx ((kp (ah v) ρ (af L ρ)).set i (.owx (.d (bS es (.t l) v))))) else none
     |_=>none)
    |some (.owx (.l xs))=>(match kd with
     |.int j=>if 0<=j∧j.toNat<xs.length then some (.nx ((kp (ah v) ρ (af L ρ)).set i (.owx (.l (xs.set j.toNat v))))) else none
     |_=>none)
    |_=>none
   |none=>none
  |none=>none
 |.gN f e L,ρ=>match ev G cl e (af L ρ) with
  |some d=>match (ρ[(0:Nat)]?:Option Sl) with
   |some (.new C a dx fs)=>if fs.length<1000∧G.fok C f then some (.nx ((kp (ah d) ρ (af L ρ)).set 0 (.new C a dx (putD f d fs)))) else none
   |_=>none
  |none=>none
 |.app i e L,ρ=>match ev G cl e (af L ρ) with
  |some v=>match (kp (ah v) ρ (af L ρ))[i]? with
   |some (.owx (.l xs))=>if xs.length<sizeLine then some (.nx ((kp (ah v) ρ (af L ρ)).set i (.owx (.l (xs++[v]))))) else none
   |_=>none
  |none=>none
 |.clr _,_=>none
 |.exp e L,ρ=>match evV G cl e (af L ρ) with
  |some (.ok d)=>some (.nx (kp (ah d) ρ (af L ρ)))
  |some (.fr c)=>some (.nx (kp (a8 c) ρ (af L ρ)))
  |some (.xc d)=>some (.xc (af L ρ) d)
  |none=>none
 |.ret e L,ρ=>match (match e with|.var i=>(match ρ[i]? with|some (.owx c)=>some c|_=>none)|_=>none) with
  |some c=>some (.fr c)
  |none=>match evV G cl e (af L ρ) with
   |some (.ok d)=>some (.rt d)
   |some (.fr c)=>some (.fr c)
   |some (.xc d)=>some (.xc (af L ρ) d)
   |none=>none
 |.Bq,_=>some (.rt .non)
 |.ife c L a b,ρ=>match evT G cl c (af L ρ) with
  |some true=>run a ρ
  |some false=>run b ρ
  |none=>none
 |.for t it L b,ρ=>match evI G cl it (af L ρ) with
  |some its=>forL t (run b) its (af L ρ)
  |none=>none
 |.whl c L b,ρ=>nF (fun ρ=>evT G cl c (af L ρ)) (run b) (turns ρ) ρ
 |.rse x es L,ρ=>match evA G cl es (af L ρ) with
  |some ds=>match G.exc x with
   |some (C,fs)=>if ds.length=fs.length∧ds.length<=1000 then some (.xc (af L ρ) (.exc C (fs.zip ds))) else none
   |none=>none
  |none=>none
 |.try _ _ _ _,_=>none
 |.pass,ρ=>some (.nx ρ)
 |.fgt L,ρ=>some (.nx (gM L ρ))
 |.mov j i,ρ=>match ρ[i]? with
  |some (.owx c)=>if i≠j∧j<ρ.length then some (.nx ((ρ.set i .any).set j (.owx c))) else none
  |some (.val d)=>if j<ρ.length then some (.nx (ρ.set j (.val d))) else none
  |_=>none
noncomputable def run:List CS'->Rho->Option Oc
 |[],ρ=>some (.nx ρ)
 |s::r,ρ=>match aa s ρ with
  |some (.nx ρ')=>run r ρ'
  |o=>o
end
noncomputable def dE (C:Option Addr) (d:Def) (ds:List D):Option Rs:=
 match C with
 |none=>if ds.length=d.aw∧d.init=false then
   match run G cl d.body (ds.map .val++List.replicate (d.slots - ds.length) .nil) with
   |some (.nx _)=>some (.ok .non)
   |some (.rt x)=>some (.ok x)
   |some (.fr c)=>some (.fr c)
   |some (.xc _ x)=>some (.xc x)
   |none=>none
  else none
 |some C=>if ds.length+1=d.aw∧d.init=true then
   match run G cl d.body (.new C 0 0 []::(ds.map .val++List.replicate (d.slots - (ds.length+1)) .nil)) with
   |some (.nx ρ)=>(match (ρ[(0:Nat)]?:Option Sl) with|some (.new C' _ _ fs)=>if C'=C then some (.ok (.ins C fs)) else none|_=>none)
   |some (.xc _ x)=>some (.xc x)
   |_=>none
  else none
end
noncomputable def kal (G:Prg):Nat->Str->List D->Option Rs
 |0,_,_=>none
 |n+1,k,ds=>match G.defs k with
  |some (C,d)=>dE G (kal G n) C d ds
  |none=>none
set_option autoImplicit true
set_option relaxedAutoImplicit true
mutual
noncomputable def fvE:CE->List Nat
 |.var i=>[i]
 |.bin _ a b=>fvE a++fvE b|.neg a=>fvE a|.nt a=>fvE a|.and a b=>fvE a++fvE b|.or a b=>fvE a++fvE b
 |.cmp _ a b=>fvE a++fvE b|.isN a=>fvE a|.mV a=>fvE a|.chn a b c=>fvE a++fvE b++fvE c|.ife a b c=>fvE a++fvE b++fvE c
 |.tup es=>fvA es|.lst es=>fvA es|.ix a b=>fvE a++fvE b|.sl a b c=>fvE a++fvE b++fvE c
 |.fld a _=>fvE a|.blt _ es=>fvA es|.fn _ es=>fvA es|.mth o _ es=>fvE o++fvA es
 |.comp _ cap _ it _ _=>cap++fvE it
 |.emit e=>fvE e|.loop _ _ _ _=>[]|.nop=>[]|.lit _=>[]|.gl _=>[]|.fF=>[]
 |.bN _ cap _ it _ _=>cap++fvE it
noncomputable def fvA:List CE->List Nat
 |[]=>[]
 |e::es=>fvE e++fvA es
end
noncomputable def uniq:List Nat->List Nat
 |[]=>[]
 |x::xs=>if xs.contains x then uniq xs else x::uniq xs
noncomputable def fvU (e:CE):List Nat:=uniq (fvE e)
noncomputable def idx (N:List Str) (x:Str):Option Nat:=N.findIdx? (·==x)
noncomputable def i_ (sc:Scope) (x:Str):Bool:=match sc.names.lookup x with
 |some .local=>true|some .cell=>true|some .free=>true|_=>false
noncomputable def p6 (sc:Scope) (x:Str):Bool:=match sc.names.lookup x with
 |some .local=>true|some .cell=>true|_=>false
noncomputable def glB (sc:Scope) (x:Str):Bool:=match sc.names.lookup x with
 |some .globalImplicit=>true|_=>false
noncomputable def cD (x:Str):Bool:=!(x==("__debug__":Str))&&!(x==("__classdict__":Str))&&!(x==("__name__":Str))
noncomputable def pD (sc:Scope) (N:List Str) (x:Str):Option CE:=
 if cD x then
  match idx N x with
  |some i=>if i_ sc x then some (.var i) else none
  |none=>if glB sc x then some (.gl x) else none
 else none
noncomputable def opC:Operator->Option BO
 |.Add=>some .add|.Sub=>some .sub|.Mult=>some .mul|.Mod=>some .mod|.FloorDiv=>some .fdiv|.Pow=>some .pow|_=>none
noncomputable def coC:CmpOp->Option CO
 |.Lt=>some .lt|.LtE=>some .le|.Gt=>some .gt|.GtE=>some .ge|.Eq=>some .eq|.NotEq=>some .ne|.Is=>some .is|.IsNot=>some .isn|.In=>some .inn|.NotIn=>some .nin
noncomputable def bnC (x:Str):Option BN:=
 if x="len" then some .len else if x="sum" then some .sum else if x="all" then some .all else if x="any" then some .any
 else if x="abs" then some .abs else if x="int" then some .int else if x="tuple" then some .tuple
 else if x="list" then some .list else if x="dict" then some .dict else if x="min" then some .min else if x="max" then some .max
 else if x="isinstance" then some .isin else if x="range" then some .range else if x="zip" then some .zip else if x="enumerate" then some .enum
 else none
noncomputable def gZ:Expr->Bool
 |.Call (.Name _ _) [] [] _=>false
 |_=>true
noncomputable def bw:Expr->Bool
 |.Starred _ _=>false
 |_=>true
noncomputable def qk:Expr->Bool
 |.Slice _ _ _ _=>false
 |_=>true
noncomputable def eI:Expr->Bool
 |.Set _ _ _=>false
 |_=>true
noncomputable def eg (tg:Expr):Expr->Bool
 |.Set _ _ _=>false
 |.Call (.Name x _) _ _ _=>(!(x==("zip":Str))&&!(x==("enumerate":Str)))||(match tg with|.Tuple _ _ _=>true|_=>false)
 |_=>true
noncomputable def ik (sc:Scope):Expr->Expr->Bool
 |.Tuple ts _ _,.Tuple vs _ _=>(ts.filterMap fun
  |.Name id pos=>if sc.names.lookup id==some .local&&pos.line==(ts.head?.map (·.pos.line)).getD 0 then some id else none
  |_=>none).length !=ts.length&&(ts.length==2||ts.length==3)&&vs.length==ts.length&&!(vs.any fun|.Starred ..=>true|_=>false)
 |.Tuple _ _ _,_=>true
 |.Name _ _,_=>true
 |_,_=>false
noncomputable def r_:Expr->Bool
 |.Tuple _ _ _=>true
 |_=>false
noncomputable def qM:Const->Option CE
 |.int i=>some (.lit (.int i))|.bool b=>some (.lit (.bl b))|.none=>some (.lit .non)|.str s=>some (.lit (.str s))|_=>none
noncomputable def ownOf (scope:Scope):List Str:=(scope.names.filter fun p=>(p.2==.local||p.2==.cell)&&!(p.1==(".0":Str))).map (·.1)
noncomputable def aL (scope:Scope) (N:List Str):List (Str×Nat):=scope.names.filterMap fun p=>if p.2==.free then (idx N p.1).map fun i=>(p.1,i) else none
mutual
noncomputable def cTg (sc:Scope) (N:List Str):Nat->Expr->Option Tg
 |0,_=>none
 |n+1,e=>match e with
  |.Name x _=>if cD x&&p6 sc x then (idx N x).map .nm else none
  |.Tuple es _ _=>if es.all bw then (d5 sc N n es).map .tp else none
  |_=>none
noncomputable def d5 (sc:Scope) (N:List Str):Nat->List Expr->Option (List Tg)
 |0,_=>none
 |n+1,es=>match es with
  |[]=>some []
  |e::r=>match cTg sc N n e,d5 sc N n r with
   |some t,some ts=>some (t::ts)
   |_,_=>none
end
noncomputable def mG (op:CmpOp) (b:Expr):Option Bool:=match b with
 |.Constant c _ _=>match c with
  |.none=>match op with
   |.Is=>some true
   |.IsNot=>some false
   |_=>none
  |_=>none
 |_=>none
noncomputable def lel:List CmpOp->Bool
 |[a,b]=>match a with
  |.LtE=>match b with
   |.Lt=>true
   |_=>false
  |_=>false
 |_=>false
mutual
noncomputable def cE:Nat->Scope->List Str->Expr->Option CE
 |0,_,_,_=>none
 |n+1,sc,N,e=>match e with
  |.Constant c _ _=>qM c
  |.Name x _=>pD sc N x
  |.BinOp a op b _=>match opC op,cE n sc N a,cE n sc N b with
   |some o,some x,some y=>some (.bin o x y)
   |_,_,_=>none
  |.UnaryOp op a _=>match op with
   |.USub=>(cE n sc N a).map .neg
   |.Not=>(cE n sc N a).map .nt
   |_=>none
  |.BoolOp op es _=>match es with
   |a::b::r=>cB n sc N op (a::b::r)
   |_=>none
  |.Compare a ops bs _=>match bs with
   |[b]=>match ops with
    |[op]=>match mG op b with
     |some true=>(cE n sc N a).map .isN
     |some false=>(cE n sc N a).map .mV
     |none=>match coC op,cE n sc N a,cE n sc N b with
      |some o,some x,some y=>if eI b then some (.cmp o x y) else none
      |_,_,_=>none
    |_=>none
   |[b,c]=>if lel ops then match cE n sc N a,cE n sc N b,cE n sc N c with
     |some x,some y,some z=>if eI b&&eI c then some (.chn x y z) else none
     |_,_,_=>none
    else none
   |_=>none
  |.IfExp c a b _=>match cE n sc N c,cE n sc N a,cE n sc N b with
   |some z,some x,some y=>some (.ife z x y)
   |_,_,_=>none
  |.Tuple es _ _=>(cA n sc N es).map .tup
  |.List es _=>(cA n sc N es).map .lst
  |.Dict ks vs _=>match ks with
   |[]=>match vs with
    |[]=>some .fF
    |_=>none
   |_=>none
  |.Subscript a b _=>match b with
   |.Slice lo hi st _=>match st with
    |none=>match cE n sc N a,cO n sc N lo,cO n sc N hi with
     |some x,some y,some z=>some (.sl x y z)
     |_,_,_=>none
    |_=>none
   |b=>match cE n sc N a,cE n sc N b with
    |some x,some y=>if qk b then some (.ix x y) else none
    |_,_=>none
  |.Attribute a f _=>if gZ a then (cE n sc N a).map fun x=>.fld x f else none
  |.Call f args ks cp=>match ks with
   |[]=>match f with
    |.Name x _=>if cD x&&glB sc x&&(idx N x).isNone then
     match cA n sc N args with
     |some es=>match bnC x with
      |some b=>some (.blt b es)
      |none=>some (.fn x es)
     |none=>none
     else none
    |.Attribute o m ap=>if gZ o&&decide (args.length<30)&&(ap.endLine==cp.line) then
     match cE n sc N o,cA n sc N args with
     |some x,some es=>some (.mth x m es)
     |_,_=>none
     else none
    |_=>none
   |_=>none
  |.ListComp elt gs scope _=>match gs with
   |⟨tg,it,ifs,0⟩::gens=>
    if jT scope (ownOf scope) (aL scope N) sc N&&eg tg it then
     match cTg (du scope sc) (ownOf scope++(aL scope N).map (·.1)) n tg,cE n sc N it,cIf n (du scope sc) (ownOf scope++(aL scope N).map (·.1)) ifs,cG n (du scope sc) (ownOf scope++(aL scope N).map (·.1)) gens elt with
     |some t,some i,some c,some b=>some (.comp (ownOf scope).length ((aL scope N).map (·.2)) t i c b)
     |_,_,_,_=>none
    else none
   |_=>none
  |.DictComp kx vx gs scope _=>match gs with
   |[⟨tg,it,[],0⟩]=>
    if jT scope (ownOf scope) (aL scope N) sc N&&eg tg it then
     match cTg (du scope sc) (ownOf scope++(aL scope N).map (·.1)) n tg,cE n sc N it,cE n (du scope sc) (ownOf scope++(aL scope N).map (·.1)) kx,cE n (du scope sc) (ownOf scope++(aL scope N).map (·.1)) vx with
     |some t,some i,some k,some v=>some (.bN (ownOf scope).length ((aL scope N).map (·.2)) t i k v)
     |_,_,_,_=>none
    else none
   |_=>none
  |_=>none
noncomputable def cA:Nat->Scope->List Str->List Expr->Option (List CE)
 |0,_,_,_=>none
 |n+1,sc,N,es=>match es with
  |[]=>some []
  |e::r=>match cE n sc N e,cA n sc N r with
   |some x,some xs=>some (x::xs)
   |_,_=>none
noncomputable def cB:Nat->Scope->List Str->BoolOp->List Expr->Option CE
 |0,_,_,_,_=>none
 |n+1,sc,N,op,es=>match es with
  |[]=>none
  |[e]=>cE n sc N e
  |e::f::r=>match op,cE n sc N e,cB n sc N op (f::r) with
   |.And,some x,some y=>some (.and x y)
   |.Or,some x,some y=>some (.or x y)
   |_,_,_=>none
noncomputable def cO:Nat->Scope->List Str->Option Expr->Option CE
 |0,_,_,_=>none
 |n+1,sc,N,e=>match e with
  |none=>some .nop
  |some e=>cE n sc N e
noncomputable def cIf:Nat->Scope->List Str->List Expr->Option CE
 |0,_,_,_=>none
 |n+1,sc,N,es=>match es with
  |[]=>some (.lit (.bl true))
  |[e]=>cE n sc N e
  |_=>none
noncomputable def cG:Nat->Scope->List Str->List Comprehension->Expr->Option CE
 |0,_,_,_,_=>none
 |n+1,sc,N,gens,elt=>match gens with
  |[]=>(cE n sc N elt).map .emit
  |⟨tg,it,ifs,0⟩::r=>if eg tg it then
    match cTg sc N n tg,cE n sc N it,cIf n sc N ifs,cG n sc N r elt with
    |some t,some i,some c,some b=>some (.loop t i c b)
    |_,_,_,_=>none
   else none
  |_=>none
end
mutual
noncomputable def er1:CS'->CS'
 |.ife c L a b=>.ife c L (erL a) (erL b)
 |.for t it L b=>.for t it L (erL b)
 |.whl c L b=>.whl c L (erL b)
 |.try b x i h=>.try (erL b) x i (erL h)
 |.mov j i=>.asg (.nm j) (.var i) [i]
 |s=>s
noncomputable def erL:List CS'->List CS'
 |[]=>[]
 |s::r=>match s with
  |.fgt _=>erL r
  |s=>er1 s::erL r
end
noncomputable def b6:Expr->Bool
 |.ListComp _ _ _ _=>true|.SetComp _ _ _ _=>true|.DictComp _ _ _ _ _=>true
 |_=>false
noncomputable def nmV:Expr->Option (Str×Pos)
 |.Name x p=>some (x,p)
 |_=>none
noncomputable def gb:Expr->Option (Expr×Expr)
 |.Tuple vs _ _=>match vs with
  |[a,b]=>some (a,b)
  |_=>none
 |_=>none
noncomputable def uR (es:List Expr) (e:Expr):Option ((Str×Pos)×(Str×Pos)×Expr×Expr):=match es with
 |[t1,t2]=>match nmV t1,nmV t2,gb e with
  |some p,some q,some (a,b)=>some (p,q,a,b)
  |_,_,_=>none
 |_=>none
noncomputable def lI (n:Nat) (sc:Scope) (N:List Str) (tg e:Expr):Option CS':=match cTg sc N n tg,cE n sc N e with
 |some t,some ce=>if ik sc tg e&&(!b6 e||!r_ tg) then some (.asg t ce (fvU ce)) else none
 |_,_=>none
noncomputable def vz (n:Nat) (sc:Scope) (N:List Str) (tg e:Expr):Option CS':=match tg with
 |.Tuple es k p=>match uR es e with
  |some ((x,px),(y,py),a,b)=>match idx N x,idx N y,cE n sc N a,cE n sc N b with
   |some i,some j,some ca,some cb=>if cD x&&cD y&&(sc.names.lookup x==some .local)&&(sc.names.lookup y==some .local)&&(px.line==py.line)&&!([a,b].all (foldedForSure 8))&&!([a,b].all (constantsAlone 8))
     then some (.par i j ca cb (uniq (fvE ca++fvE cb))) else none
   |_,_,_,_=>none
  |none=>lI n sc N (.Tuple es k p) e
 |.Subscript b k _=>match nmV b with
  |some (x,_)=>match idx N x,cE n sc N k,cE n sc N e with
   |some i,some ck,some ce=>if cD x&&i_ sc x&&!b6 e then some (.put i ck ce (uniq (fvE ck++fvE ce))) else none
   |_,_,_=>none
  |none=>none
 |.Attribute b f _=>match nmV b with
  |some (x,_)=>match idx N x,cE n sc N e with
   |some 0,some ce=>if cD x&&i_ sc x&&!b6 e then some (.gN f ce (fvU ce)) else none
   |_,_=>none
  |none=>none
 |tg=>lI n sc N tg e
noncomputable def zd (n:Nat) (sc:Scope) (N:List Str) (ts:List Expr) (e:Expr):Option CS':=match ts with
 |[tg]=>vz n sc N tg e
 |_=>none
noncomputable def vf:Option Expr->Option (Str×List Expr)
 |some e=>match e with
  |.Call f args ks _=>match ks with
   |[]=>match nmV f with
    |some (x,_)=>some (x,args)
    |none=>none
   |_=>none
  |_=>none
 |none=>none
noncomputable def cExp (n:Nat) (sc:Scope) (N:List Str):Expr->Option CS'
 |.Constant (.str _) _ _=>some .pass
 |.Call (.Attribute (.Name x xp) m ap) args [] cp=>
   if m="append" then match idx N x,args with
    |some i,[a]=>if cD x&&i_ sc x&&(ap.endLine==cp.line) then (cE n sc N a).map fun ca=>.app i ca (fvU ca) else none
    |_,_=>none
   else if m="clear" then match idx N x,args with
    |some i,[]=>if cD x&&i_ sc x&&(ap.endLine==cp.line) then some (.clr i) else none
    |_,_=>none
   else (cE n sc N (.Call (.Attribute (.Name x xp) m ap) args [] cp)).map fun x=>.exp x (fvU x)
 |e=>if !b6 e then (cE n sc N e).map fun x=>.exp x (fvU x) else none
mutual
noncomputable def cS1:Nat->Scope->List Str->Stmt->Option CS'
 |0,_,_,_=>none
 |n+1,sc,N,s=>match s with
  |.Pass _=>some .pass
  |.Return o _=>match o with
   |none=>some .Bq
   |some e=>(cE n sc N e).map fun x=>.ret x (fvU x)
  |.Assign ts e _=>zd n sc N ts e
  |.Expr e _=>cExp n sc N e
  |.If c a b _=>match cE n sc N c,cS n sc N a,cS n sc N b with
   |some x,some y,some z=>some (.ife x (fvU x) y z)
   |_,_,_=>none
  |.For tg it b els _=>if eg tg it&&els.isEmpty then match cTg sc N n tg,cE n sc N it,cS n sc N b with
   |some t,some x,some y=>some (.for t x (fvU x) y)
   |_,_,_=>none
   else none
  |.While c b els _=>match cE n sc N c,cS n sc N b with
   |some x,some y=>if els.isEmpty then some (.whl x (fvU x) y) else none
   |_,_=>none
  |.Raise ex cause _=>match cause,vf ex with
   |none,some (x,args)=>if cD x&&glB sc x&&(idx N x).isNone then (cA n sc N args).map fun es=>.rse x es (uniq (fvA es)) else none
   |_,_=>none
  |_=>none
noncomputable def cS:Nat->Scope->List Str->List Stmt->Option (List CS')
 |0,_,_,_=>none
 |n+1,sc,N,ss=>match ss with
  |[]=>some []
  |s::r=>match cS1 n sc N s,cS n sc N r with
   |some x,some xs=>some (x::xs)
   |_,_=>none
end
end IN
set_option autoImplicit true
set_option relaxedAutoImplicit true
namespace IN
open PySem PySem.Spec PySem.W L2 CT
open PyProof.Rows hiding St
mutual
theorem beq_eq:∀{a b:PK},PK.beq a b=true->a=b
 |.i n,.i m,h=>by simp [PK.beq] at h;rw [h]
 |.t l,.t r,h=>by simp [PK.beq] at h;rw [nV h]
 |.i _,.t _,h=>by simp [PK.beq] at h
 |.t _,.i _,h=>by simp [PK.beq] at h
theorem nV:∀{a b:List PK},PK.gw a b=true->a=b
 |[],[],_=>rfl
 |x::l,y::r,h=>by simp [PK.gw] at h;rw [beq_eq h.1,nV h.2]
 |[],_::_,h=>by simp [PK.gw] at h
 |_::_,[],h=>by simp [PK.gw] at h
end
mutual
theorem beq_refl:∀(a:PK),PK.beq a a=true
 |.i n=>by simp [PK.beq]
 |.t l=>by simp [PK.beq,ky l]
theorem ky:∀(a:List PK),PK.gw a a=true
 |[]=>rfl
 |x::l=>by simp [PK.gw,beq_refl x,ky l]
end
theorem beq_iff:PK.beq a b=true↔a=b:=⟨beq_eq,fun h=>h▸beq_refl a⟩
theorem dW:∀(es:List (PK×D)) (k:PK),look es k=aZ es k
 |[],_=>rfl
 |(q,d)::r,k=>by
  unfold look aZ;rw [List.find?_cons]
  by_cases h:q=k
  ·rw [if_pos (beq_iff.mpr h)];simp [h]
  ·rw [if_neg (fun z=>h (beq_iff.mp z))];simp only [h,decide_false];exact dW r k
theorem fm (es:List (PK×D)) (k:PK) (v:D):bS es k v=cW es k v:=by
 unfold bS cW;rw [dW];cases aZ es k with
 |none=>rfl
 |some d=>
  show List.map _ es=List.map _ es;refine List.map_congr_left fun p _=>?_
  by_cases h:p.1=k
  ·rw [if_pos (beq_iff.mpr h),if_pos h]
  ·rw [if_neg (fun z=>h (beq_iff.mp z)),if_neg h]
theorem lU:∀{l:List Int},apart l=true->l.Nodup
 |[],_=>List.nodup_nil
 |x::xs,h=>by
  have h':xs.contains x=false∧apart xs=true:=by simpa [apart] using h
  rw [List.nodup_cons];refine ⟨fun z=>?_,lU h'.2⟩;have:=List.contains_iff_mem.mpr z;rw [h'.1] at this;cases this
mutual
theorem eC:∀{d:D} {k:PK},b_ d=some k->PK.d k=d
 |.int n,k,h=>by cases h;rfl
 |.tup xs,k,h=>by
  unfold b_ at h;split at h
  ·rename_i l e;cases h;show D.tup (PK.dL l)=_;rw [oU e]
  ·cases h
 |.non,_,h=>by cases h
 |.bl _,_,h=>by cases h
 |.str _,_,h=>by cases h
 |.lst _,_,h=>by cases h
 |.ins _ _,_,h=>by cases h
 |.exc _ _,_,h=>by cases h
 |.ty _,_,h=>by cases h
 |.cl _,_,h=>by cases h
 |.dct _,_,h=>by cases h
 |.pdc _,_,h=>by cases h
theorem oU:∀{ds:List D} {l:List PK},fX ds=some l->PK.dL l=ds
 |[],l,h=>by cases h;rfl
 |d::ds,l,h=>by
  unfold fX at h;split at h
  ·rename_i k e;split at h
   ·rename_i ks e2;cases h;show PK.d k::PK.dL ks=_;rw [eC e,oU e2]
   ·cases h
  ·cases h
end
theorem jf:∀{xs:List D} {bs:List Bool},boolsOf xs=some bs->xs=bs.map .bl
 |[],bs,h=>by cases h;rfl
 |.bl b::r,bs,h=>by
  unfold boolsOf at h;split at h
  ·rename_i l e;cases h;rw [jf e];rfl
  ·cases h
 |.int _::_,_,h=>by cases h
 |.non::_,_,h=>by cases h
 |.str _::_,_,h=>by cases h
 |.tup _::_,_,h=>by cases h
 |.lst _::_,_,h=>by cases h
 |.ins _ _::_,_,h=>by cases h
 |.exc _ _::_,_,h=>by cases h
 |.ty _::_,_,h=>by cases h
 |.cl _::_,_,h=>by cases h
 |.dct _::_,_,h=>by cases h
 |.pdc _::_,_,h=>by cases h
theorem kS:∀{xs:List D} {bs:List Int},intsOf xs=some bs->xs=bs.map .int
 |[],bs,h=>by cases h;rfl
 |.int b::r,bs,h=>by
  unfold intsOf at h;split at h
  ·rename_i l e;cases h;rw [kS e];rfl
  ·cases h
 |.bl _::_,_,h=>by cases h
 |.non::_,_,h=>by cases h
 |.str _::_,_,h=>by cases h
 |.tup _::_,_,h=>by cases h
 |.lst _::_,_,h=>by cases h
 |.ins _ _::_,_,h=>by cases h
 |.exc _ _::_,_,h=>by cases h
 |.ty _::_,_,h=>by cases h
 |.cl _::_,_,h=>by cases h
 |.dct _::_,_,h=>by cases h
 |.pdc _::_,_,h=>by cases h
theorem bX (h:br d=some xs):Sq d xs:=by
 cases d<;>first|(cases h;done)|(cases h;constructor)
theorem xY (h:bH i j=true):iF i j∨ja i j:=by
 unfold bH at h;simp only [Bool.or_eq_true,Bool.and_eq_true,decide_eq_true_eq] at h;rcases h with (h|h)|h
 ·exact .inl (.inl ⟨by omega,by omega⟩)
 ·exact .inl (.inr ⟨by omega,by omega⟩)
 ·exact .inr h
theorem iq (h:fZ j=true): -(2^62)<=j∧j<2^62:=by
 unfold fZ at h;simp only [Bool.and_eq_true,decide_eq_true_eq] at h;omega
theorem gz:∀{its out:List D},iN f its=some out->∃outs:List (List D),its.length=outs.length∧out=outs.flatten∧∀(i:Nat) d o,its[i]?=some d->outs[i]?=some o->f d=some o
 |[],out,h=>by cases h;exact ⟨[],rfl,rfl,fun i d o h=>by simp at h⟩
 |x::xs,out,h=>by
  unfold iN at h;split at h
  ·rename_i o1 e1;split at h
   ·rename_i ys e2;cases h;obtain ⟨outs,h1,h2,h3⟩:=gz e2;refine ⟨o1::outs,by simp [h1],by rw [h2];rfl,fun i d o hd ho=>?_⟩;cases i with
    |zero=>simp at hd ho;subst hd ho;exact e1
    |succ i=>exact h3 i d o (by simpa using hd) (by simpa using ho)
   ·cases h
  ·cases h
structure Le (ρ ρ':Rho):Prop where
 len:ρ.length=ρ'.length
 val:∀(i:Nat) (d:D),ρ[i]?=some (.val d)->ρ'[i]?=some (.val d)
 nil:∀(i:Nat),ρ[i]?=some .nil->ρ'[i]?=some .nil
theorem Le.set (l:Le ρ ρ') (k:Nat) (s:Sl):Le (ρ.set k s) (ρ'.set k s):=by
 have key:∀(i:Nat) (y:Sl),(ρ[i]?=some y->ρ'[i]?=some y)->(ρ.set k s)[i]?=some y->(ρ'.set k s)[i]?=some y:=fun i y hy h=>by
  by_cases e:k=i
  ·subst e;have hi:k<ρ.length:=by have:=(Eu.mp h).1;simpa using this
   rw [Ew hi] at h;rw [Ew (l.len▸hi)];exact h
  ·rw [Ex e] at h ⊢;exact hy h
 exact ⟨by simpa using l.len,fun i d h=>key i _ (l.val i d) h,fun i h=>key i _ (l.nil i) h⟩
theorem vp (h:aQ o=some d):o=some (.val d):=by
 cases o with
 |none=>cases h
 |some s=>cases s<;>first|(cases h;done)|(cases h;rfl)
theorem r9 (h:isNil o=true):o=some .nil:=by
 cases o with
 |none=>cases h
 |some s=>cases s<;>first|(cases h;done)|rfl
theorem tV {ρ ρ':Rho} (l:Le ρ ρ') {i:Nat} {d:D} (h:bZ ρ[i]?=.val d):bZ ρ'[i]?=.val d:=by
 cases q:ρ[i]? with
 |none=>rw [q] at h;cases h
 |some s=>
  rw [q] at h;cases s with
  |val d'=>cases h;rw [l.val i d q];rfl
  |nil=>cases h
  |any=>cases h
  |owx c=>cases h
  |new C x dx fs=>cases h
theorem tT {ρ ρ':Rho} (l:Le ρ ρ') {i:Nat} (h:bZ ρ[i]?=.nil):bZ ρ'[i]?=.nil:=by
 cases q:ρ[i]? with
 |none=>rw [q] at h;cases h
 |some s=>
  rw [q] at h;cases s with
  |val d'=>cases h
  |nil=>rw [l.nil i q];rfl
  |any=>cases h
  |owx c=>cases h
  |new C x dx fs=>cases h
theorem Le.cap {ρ ρ':Rho} (l:Le ρ ρ') (own:List Str) (cap:List (Str×Nat)):Le (cz own.length (cap.map (·.2)) ρ) (cR own cap ρ'):=by
 have e1:cz own.length (cap.map (·.2)) ρ=own.map (fun _=>Sl.nil)++cap.map fun p=>bZ ρ[p.2]?:=by
  unfold cz;rw [List.map_map,←List.map_const' (l:=own) (b:=Sl.nil)];rfl
 rw [e1];have go:∀(i:Nat) (y:Sl),(∀j,bZ ρ[j]?=y->bZ ρ'[j]?=y)->(own.map (fun _=>Sl.nil)++cap.map fun p=>bZ ρ[p.2]?)[i]?=some y->(cR own cap ρ')[i]?=some y:=fun i y hy h=>by
  unfold cR
  by_cases hi:i<own.length
  ·rw [List.getElem?_append_left (by simpa using hi)] at h ⊢;exact h
  ·have hi':own.length<=i:=Nat.le_of_not_lt hi;rw [List.getElem?_append_right (by simpa using hi'),List.getElem?_map,Ez] at h ⊢;cases q:cap[i - own.length]? with
   |none=>rw [q] at h;cases h
   |some p=>
    rw [q] at h;exact congrArg some (hy p.2 (EL h))
 exact ⟨by simp [cR],fun i d h=>go i _ (fun j=>tV l) h,fun i h=>go i _ (fun j=>tT l) h⟩
theorem aA (h:bw e=true):noStar e=true:=by cases e<;>first|rfl|cases h
theorem fh (h:eg tg it=true) (env:Env) (x:Value):foldedSetIterable it env x=pure x:=by
 cases it<;>first|rfl|cases h
theorem jP (h:gZ o=true):attributeBase o f env m=m:=by
 unfold attributeBase;cases o with
 |Call fn args kws pos=>
  cases fn with
  |Name x p=>
   cases args with
   |nil=>cases kws with
    |nil=>cases h
    |cons=>rfl
   |cons=>rfl
  |_=>rfl
 |_=>rfl
theorem j_ (h:qk b=true):pf b:=by
 intro o i;cases b<;>first|rfl|cases h
theorem xV (h:eI b=true):behindInMarks op b=false:=by
 cases b<;>first|rfl|cases h
theorem uL (h:eI c=true):lastMarks [op1,op2] [b,c]=false:=by
 show behindInMarks op2 c=false;exact xV h
theorem cQ (h:∀e∈es,bw e=true):(backTo pos (starEach es env)).any (·.1)=false:=by
 have go:∀es:List Expr,(∀e∈es,bw e=true)->∀p∈starEach es env,p.1=false:=by
  intro es
  induction es with
  |nil=>intro _ p hp;cases hp
  |cons e es ih=>
   intro h p hp;rw [bq (aA (h e Eo))] at hp;rcases Er.mp hp with z|z
   ·rw [z]
   ·exact ih (fun e he=>h e (En _ he)) p z
 rw [List.any_eq_false];intro p hp;unfold backTo at hp;obtain ⟨q,hq,rfl⟩:=Es.mp hp;have:=go es h q hq;simp [this]
theorem hI (h:∀e∈es,bw e=true):(backTo pos (starEach es env)).all (fun x=>!x.1)=true:=by
 have:=cQ (env:=env) (pos:=pos) h;rw [EA];intro p hp;rw [List.any_eq_false] at this;have:=this p hp;simpa using this
theorem qT (hb:gZ o=true) (hs:∀e∈args,bw e=true) (hl:args.length<30) (hp:(ap.endLine==cp.line)=true):
  eval (.Call (.Attribute o m ap) args [] cp) env=(do
   let ov←eval o env
   standAt ap.atName
   let (f,first)←holding [ov] (getMethod ov m (do return (←importBound o env).getD true))
   callWith cp f first (backTo cp (starEach args env)) (backToKw cp (keywordEach [] env))):=by
 have few:methodCallForm (args.length+([]:List Keyword).length) (backTo cp (starEach args env)) (backToKw cp (keywordEach [] env))=true:=by
  unfold methodCallForm;rw [hI hs];simp [keywordEach,backToKw,hl]
 rw [arm_eval_Call];rw [jP hb];unfold methodCall;rw [few];unfold calleeOf methodCallPos;simp only [if_true,hp,Bool.not_true,Bool.false_or];rfl
set_option autoImplicit true
set_option relaxedAutoImplicit true
noncomputable def tv:Tag->Value
 |.ty n=>.type n|.cl C=>.ref C|.xc C=>.ref C
structure Lk (K:Frag) (G:Prg) (key:Str) (C:Option Addr) (d:Def) (f:Addr) (fd:FuncData) (ps:List Str):Prop where
 df:G.defs key=some (C,d)
 bind:Binds K fd ps []
 kp:keepIn K (.ref f)=true
 ex:∃x qual st N,Fun K x qual st f fd∧bC N ps (aj st)∧cS 60 (aj st) N (aY st)=some (erL d.body)∧d.slots=N.length∧d.aw=ps.length
 ini:d.init=C.isSome
structure Row (P:Program) (w:World) (K:Frag) (mg:Str->Option Value) (base:Heap) (G:Prg):Prop where
 blt:∀x b,bnC x=some b->mg x=none
 glob:∀(X:Cx),X.K=K->X.mg=mg->∀x d,G.glob x=some d->cD x=true->Gl X x->∀ρ pos,DE X ρ (.Name x pos) d
 Cg:∀x C,G.glob x=some (.cl C)->mg x=some (.ref C)
 kit:∀t u q,G.kit t u=some q->kitOne K (tv t) (tv u)=some q∧(∀C,t=.cl C->Isi K C)∧(∀C,t=.xc C->pq K C)
 fn:∀x key,G.fn x=some key->∃d f fd ps,mg x=some (.ref f)∧Lk K G key none d f fd ps
 ini:∀x C key,G.ini x=some (C,key)->∃d f fd ps,mg x=some (.ref C)∧Mk K C f∧Lk K G key (some C) d f fd ps
 mth:∀C m key,G.mth C m=some key->∃d f fd ps,Meth K C m f∧Cls K C∧Lk K G key none d f fd ps
 fok:∀C f,G.fok C f=true->Cls K C∧cF K C f
noncomputable def prR (cl:Str->List D->Option Rs) (key:Str) (ds:List D):Res->Prop
 |.ok d=>∃r,cl key ds=some r∧r.val=some d
 |.xc d=>cl key ds=some (.xc d)
noncomputable def prF (cl:Str->List D->Option Rs) (key:Str) (ds:List D) (c:Ow):Prop:=cl key ds=some (.fr c)
noncomputable def prI (cl:Str->List D->Option Rs) (C:Addr) (key:Str) (ds:List D):yZ->Prop
 |.ok fs=>cl key ds=some (.ok (.ins C fs))
 |.xc d=>cl key ds=some (.xc d)
structure Calls (P:Program) (w:World) (K:Frag) (mg:Str->Option Value) (base:Heap) (G:Prg) (k:Nat) (cl:Str->List D->Option Rs):Prop where
 fn:∀key d f fd ps,Lk K G key none d f fd ps->aE P w K mg base (CXA P w) k f fd ps (spR K (prR cl key))
 fr:∀key d f fd ps,Lk K G key none d f fd ps->aE P w K mg base CX0 k f fd ps (ko K (prF cl key))
 ini:∀key C d f fd ps,Lk K G key (some C) d f fd ps->aE P w K mg base (CXA P w) k f fd ps (qA K C (prI cl C key))
 insI:∀key C d f fd ps,Lk K G key (some C) d f fd ps->∀ds r,cl key ds=some r->(∃fs,r=.ok (.ins C fs))∨∃d,r=.xc d
structure XE (ca:Bool) (P:Program) (wd:World) (K:Frag) (mg:Str->Option Value) (base:Heap) (X:Cx) (sc:Scope) (N:List Str) (w k:Nat):Prop where
 p_:X.prog=P
 w_:X.w=wd
 K_:X.K=K
 mg_:X.mg=mg
 je:X.base=base
 sc_:X.env.scope=sc
 N_:X.N=N
 nd:N.Nodup
 lJ:ca=true->X.calm=true
 lS:ca=true->aJ k X.A
 units:X.A.units+64<cLine
 nox:∀e s,¬X.xe e s
 fn:∀(i:Nat) (x:Str),i<w->N[i]?=some x->X.fn x=true
section
variable {ca:Bool} {P:Program} {wd:World} {K:Frag} {mg:Str->Option Value} {base:Heap} {X:Cx} {sc:Scope} {N:List Str} {w k:Nat} {G:Prg} {cl:Str->List D->Option Rs} {ρ:Rho} {e:Expr} {ce:CE} {d:D}
theorem XE.calm (x:XE true P wd K mg base X sc N w k):X.calm=true:=x.lJ rfl
theorem XE.room (x:XE true P wd K mg base X sc N w k):aJ k X.A:=x.lS rfl
theorem XE.gl (x:XE ca P wd K mg base X sc N w k) (h:glB sc n=true):Gl X n:=by
 show X.env.scope.names.lookup n=_;rw [x.sc_];unfold glB at h;split at h
 ·assumption
 ·cases h
theorem XE.vis (x:XE ca P wd K mg base X sc N w k) (h:i_ sc n=true):Vis X.env.scope n:=by
 rw [x.sc_];unfold i_ at h;split at h
 ·exact .inl (by assumption)
 ·exact .inr (.inl (by assumption))
 ·exact .inr (.inr (by assumption))
 ·cases h
theorem XE.loc (x:XE ca P wd K mg base X sc N w k) (h:p6 sc n=true):L2.Loc X.env.scope n:=by
 rw [x.sc_];unfold p6 at h;split at h
 ·exact .inl (by assumption)
 ·exact .inr (by assumption)
 ·cases h
theorem XE.at (x:XE ca P wd K mg base X sc N w k) (h:idx N n=some i):X.N[i]?=some n:=by
 rw [x.N_];unfold idx at h;obtain ⟨hi,h1,_⟩:=List.findIdx?_eq_some_iff_getElem.mp h;rw [List.getElem?_eq_getElem hi];exact congrArg some (by simpa using h1)
theorem eA (h:cD n=true):(n==("__debug__":Str))=false∧(n==("__classdict__":Str))=false∧n≠"__name__":=by
 unfold cD at h;simp only [Bool.and_eq_true,Bool.not_eq_true'] at h;exact ⟨h.1.1,h.1.2,fun z=>by rw [z] at h;exact absurd h.2 (by decide)⟩
structure OkE (G:Prg) (cl:Str->List D->Option Rs) (X:Cx) (e:Expr) (ce:CE):Prop where
 v:∀{ρ ρ' d},Le ρ ρ'->ev G cl ce ρ=some d->DE X ρ' e d
 t:∀{ρ ρ' b},Le ρ ρ'->evT G cl ce ρ=some b->DT X ρ' e b
 i:∀{ρ ρ' its tg},Le ρ ρ'->eg tg e=true->evI G cl ce ρ=some its->DI X tg ρ' e its
 c:∀{ρ ρ' r},b6 e=true->Le ρ ρ'->evV G cl ce ρ=some r->∃c,r=.fr c∧DCx X ρ' e c
 vr:∀i,ce=.var i->∃y q,e=.Name y q∧X.N[i]?=some y∧Vis X.env.scope y∧(y==("__debug__":Str))=false∧(y==("__classdict__":Str))=false
 ro:∀i,ce=.var i->∀ρ c pos,ρ[i]?=some (.owx c)->DS X ρ (.Return (some e) pos) (.rfx c)
 w:∀{ρ ρ' r},Le ρ ρ'->evV G cl ce ρ=some r->(∀d,r.val=some d->DE X ρ' e d)∧(∀c,r=.fr c->DFx X ρ' e c)∧(∀d,r=.xc d->DEX X ρ' e d)
theorem OkE.of (hv:∀{ρ ρ' d},Le ρ ρ'->ev G cl ce ρ=some d->DE X ρ' e d) (ht:∀{ρ ρ' b},Le ρ ρ'->evT G cl ce ρ=some b->DT X ρ' e b)
  (hi:∀{ρ ρ' its tg},Le ρ ρ'->eg tg e=true->evI G cl ce ρ=some its->DI X tg ρ' e its) (hc:b6 e=false)
  (hw:∀ρ,evV G cl ce ρ=match ev G cl ce ρ with|some d=>some (.ok d)|none=>none) (hro:∀i,ce=.var i->∀ρ c pos,ρ[i]?=some (.owx c)->DS X ρ (.Return (some e) pos) (.rfx c):=by intro i z;cases z) (hvr:∀i,ce=.var i->∃y q,e=.Name y q∧X.N[i]?=some y∧Vis X.env.scope y∧(y==("__debug__":Str))=false∧(y==("__classdict__":Str))=false:=by intro i z;cases z):OkE G cl X e ce:=by
 refine ⟨hv,ht,hi,fun z=>(by rw [hc] at z;cases z),hvr,hro,fun {ρ ρ' r} le h=>?_⟩;rw [hw] at h;split at h
 ·rename_i d0 q;cases h;exact ⟨fun d hd=>by cases hd;exact hv le q,(by intro c z;cases z),by intro d z;cases z⟩
 ·cases h
theorem jh (h:DE X ρ e d) (hi:itD d=some its):DI X tg ρ e its:=by
 cases d<;>first|(cases hi;done)|(cases hi;exact rB h)|(cases hi;exact rE h)|(cases hi;exact zP h)
noncomputable def opO:BO->Operator
 |.add=>.Add|.sub=>.Sub|.mul=>.Mult|.mod=>.Mod|.fdiv=>.FloorDiv|.pow=>.Pow|.shr=>.RShift
theorem AN (ho:opC op=some o):op=opO o:=by
 cases op<;>first|(cases ho;done)|(cases ho;rfl)
noncomputable def coO:CO->CmpOp
 |.lt=>.Lt|.le=>.LtE|.gt=>.Gt|.ge=>.GtE|.eq=>.Eq|.ne=>.NotEq|.is=>.Is|.isn=>.IsNot|.inn=>.In|.nin=>.NotIn
theorem qY (ho:coC op=some o):op=coO o:=by
 cases op<;>(cases ho;rfl)
theorem fM {c:Prop} [Decidable c] (h:(if c then some x else none)=some y):c∧x=y:=by
 by_cases z:c
 ·rw [if_pos z] at h;exact ⟨z,EL h⟩
 ·rw [if_neg z] at h;cases h
theorem jr (h:mF f x=some r):∃i,x=.int i∧f i=some r:=by
 cases x<;>first|exact ⟨_,rfl,h⟩|cases h
theorem BH (h:tupK f x=some r):∃i,x=.tup i∧f i=some r:=by
 cases x<;>first|exact ⟨_,rfl,h⟩|cases h
theorem AB (h:lstK f x=some r):∃i,x=.lst i∧f i=some r:=by
 cases x<;>first|exact ⟨_,rfl,h⟩|cases h
theorem wy (ha:DE X ρ a (.int i)) (hb:DE X ρ b (.int j)) (h:binI o i j=some d):DE X ρ (.BinOp a (opO o) b pos) d:=by
 cases o with
 |add=>cases h;exact zp ha hb
 |sub=>cases h;exact zK ha hb
 |mul=>obtain ⟨hm,rfl⟩:=fM h;exact (xY hm).elim (fun z=>zC z ha hb) fun z=>xb z ha hb
 |mod=>obtain ⟨hm,rfl⟩:=fM h;exact zA hm ha hb
 |fdiv=>obtain ⟨hm,rfl⟩:=fM h;exact wW (show 0<_∧_<_ by omega) ha hb
 |pow=>
  cases h
 |shr=>
  cases h
theorem y8 (ho:opC op=some o) (ha:DE X ρ a x) (hb:DE X ρ b y) (h:eN o x y=some d):DE X ρ (.BinOp a op b pos) d:=by
 rw [AN ho];cases x with
 |int i=>obtain ⟨j,rfl,h⟩:=jr h;exact wy ha hb h
 |tup xs=>cases o with
  |add=>obtain ⟨ys,rfl,h⟩:=BH h;obtain ⟨z,rfl⟩:=fM h;exact wV ha hb z
  |mul=>
   obtain ⟨k,rfl,h⟩:=jr h
   match xs,ha,h with
   |[d],ha,h=>obtain ⟨hz,rfl⟩:=fM h;exact xi ha hb hz.1 (by omega)
  |_=>cases h
 |lst xs=>cases o with
  |add=>obtain ⟨ys,rfl,h⟩:=AB h;obtain ⟨z,rfl⟩:=fM h;exact wU ha hb z
  |_=>cases h
 |_=>cases h
theorem zY (h:d9 x y=true):bc x=true∧bc y=true∧min (toPy x).depth (toPy y).depth<=64:=by
 unfold d9 at h;simp only [Bool.and_eq_true,decide_eq_true_eq] at h;exact ⟨h.1.1,h.1.2,h.2⟩
noncomputable abbrev Dd (X:Cx) (b:Expr) (o:CmpOp) (x y:D) (q:Bool):Prop:=∃r,OpR X (compareOp o) r∧R2D X.K r x y (.bl q)∧behindInMarks o b=false
theorem h_ (h:jq f x y=some q):∃i j,x=.int i∧y=.int j∧f i j=q:=by
 obtain ⟨i,rfl,h1⟩:=jr h;obtain ⟨j,rfl,h2⟩:=jr h1;exact ⟨i,j,rfl,rfl,EL h2⟩
theorem vO (h:eqK f x y=some q):(bc x=true∧bc y=true∧min (toPy x).depth (toPy y).depth<=64)∧f (eqD x y)=q:=
 ⟨zY (fM h).1,(fM h).2⟩
theorem vN (h:eqI f y x=some q):(∃i j,x=.int i∧y=.int j∧f (decide (i=j))=q)∨eqK f x y=some q:=by
 cases x with
 |int i=>cases y with
  |int j=>exact .inl ⟨i,j,rfl,rfl,EL h⟩
  |_=>exact .inr h
 |_=>exact .inr h
theorem lH (h:blK f x=some r):∃i,x=.bl i∧f i=some r:=by
 cases x<;>first|exact ⟨_,rfl,h⟩|cases h
theorem A1 (h:A0 f x=some r):∃i,x=.pdc i∧f i=some r:=by
 cases x<;>first|exact ⟨_,rfl,h⟩|cases h
theorem B8 (h:eqX y x=some q):(∃es fs,x=.pdc es∧y=.pdc fs∧(es.all fun p=>eqV p.2)=true∧(fs.all fun p=>eqV p.2)=true∧(es.length==fs.length&&eqB es fs)=q)∨eqI id y x=some q:=by
 cases x with
 |pdc es=>
  obtain ⟨fs,rfl,h⟩:=A1 h;obtain ⟨h1,h2⟩:=fM h;obtain ⟨o1,o2⟩:=EJ.mp h1;refine .inl ⟨es,fs,rfl,rfl,o1,o2,?_⟩;rw [←h2];unfold mz eqB;simp only [dW]<;>rfl
 |_=>exact .inr h
theorem vI (hns:eI b=true) (hr:X.A.units+64<cLine) (h:bg o x y=some q):
  Dd X b (coO o) x y q:=by
 cases o with
 |lt=>obtain ⟨i,j,rfl,rfl,rfl⟩:=h_ h;exact ⟨_,v8,jH,bx _⟩
 |le=>obtain ⟨i,j,rfl,rfl,rfl⟩:=h_ h;exact ⟨_,v7,jH,bx _⟩
 |gt=>obtain ⟨i,j,rfl,rfl,rfl⟩:=h_ h;exact ⟨_,Cu,jH,bx _⟩
 |ge=>obtain ⟨i,j,rfl,rfl,rfl⟩:=h_ h;exact ⟨_,Ct,jH,bx _⟩
 |eq=>
  rcases B8 h with ⟨es,fs,rfl,rfl,o1,o2,rfl⟩|h
  ·exact ⟨_,AR hr o1 o2,(fun x y H S Q rx ry dm k=>⟨S,rx,ry,k _ H Ext.refl (.bl _)⟩),bx _⟩
  rcases vN h with ⟨i,j,rfl,rfl,rfl⟩|h
  ·have z:=CH (K:=X.K) (da:=.int i) (db:=.int j) rfl rfl rfl;exact ⟨_,Cs,by simpa using z,bx _⟩
  ·obtain ⟨⟨h1,h2,h3⟩,rfl⟩:=vO h;exact ⟨_,AQ (hu:=hr) h1 h2 h3,(fun x y H S Q rx ry dm k=>⟨S,rx,ry,k _ H Ext.refl (.bl _)⟩),bx _⟩
 |ne=>
  rcases vN h with ⟨i,j,rfl,rfl,rfl⟩|h
  ·have z:=CI (K:=X.K) (da:=.int i) (db:=.int j) rfl rfl rfl;exact ⟨_,Cv,by simpa using z,bx _⟩
  ·obtain ⟨⟨h1,h2,h3⟩,rfl⟩:=vO h;exact ⟨_,AW (hu:=hr) h1 h2 h3,(fun x y H S Q rx ry dm k=>⟨S,rx,ry,k _ H Ext.refl (.bl _)⟩),bx _⟩
 |is=>obtain ⟨i,rfl,h1⟩:=lH h;obtain ⟨j,rfl,h2⟩:=lH h1;cases h2;exact ⟨_,AS,(fun x y H S Q rx ry dm k=>⟨_,_,rx.blV,ry.blV,k _ H Ext.refl (.bl _)⟩),bx _⟩
 |isn=>obtain ⟨i,rfl,h1⟩:=lH h;obtain ⟨j,rfl,h2⟩:=lH h1;cases h2;exact ⟨_,sE,(fun x y H S Q rx ry dm k=>⟨_,_,rx.blV,ry.blV,k _ H Ext.refl (.bl _)⟩),bx _⟩
 |_=>cases h
theorem zl (hns:eI b=true) (hr:X.A.units+64<cLine) (ho:coC op=some o) (ha:DE X ρ a x) (hb:DE X ρ b y) (h:bg o x y=some q):DE X ρ (.Compare a [op] [b] pos) (.bl q):=by
 obtain ⟨r,h1,h2,h3⟩:=vI hns hr h;rw [qY ho];exact mi h1 h2 ha hb h3
theorem wJ (hns:eI b=true) (hr:X.A.units+64<cLine) (ho:coC op=some o) (ha:DE X ρ a x) (hb:DE X ρ b y) (h:bg o x y=some q):DT X ρ (.Compare a [op] [b] pos) q:=by
 obtain ⟨r,h1,h2,h3⟩:=vI hns hr h;rw [qY ho];exact mv h1 h2 ha hb h3
theorem Co (hr:X.A.units+64<cLine) (hs:qk b=true) (ha:DE X ρ a x) (hb:DE X ρ b y) (h:ixD x y=some d):DE X ρ (.Subscript a b pos) d:=by
 unfold ixD at h;split at h
 ·exact zw ha hb h (j_ hs)
 ·exact zx ha hb h (j_ hs)
 ·split at h
  ·rename_i l e;split at h
   ·rename_i hd;rw [dW] at h;exact xh (by omega) ha (by rw [eC e];exact hb) hd h (j_ hs)
   ·cases h
  ·cases h
 ·cases h
theorem C9 (R:Row P wd K mg base G) (hd:BC d=some t) (hq:G.kit t u=some q):TyD K d (tv t):=by
 obtain ⟨_,h1,h2⟩:=R.kit t u q hq;cases d with
 |ins C fs=>cases hd;exact .ins fs (h1 C rfl)
 |exc C fs=>cases hd;exact .exc fs (h2 C rfl)
 |non=>cases hd;exact .non
 |bl b=>cases hd;exact .bl b
 |int i=>cases hd;exact .int i
 |str x=>cases hd;exact .str x
 |tup xs=>cases hd;exact .tup xs
 |lst xs=>cases hd;exact .lst xs
 |dct kvs=>cases hd;exact .dct kvs
 |pdc es=>cases hd;exact .pdc es
 |ty n=>cases hd
 |cl C=>cases hd
theorem Al (R:Row P wd X.K mg base G) (hg:Gl X "isinstance") (hm:X.mg "isinstance"=none) (ha:DA X ρ [a,b] [d,c]) (n1:bw a=true) (n2:bw b=true) (h:bM G d c=some q):DE X ρ (.Call (.Name "isinstance" p) [a,b] [] pos) (.bl q):=by
 have he:=bq (es:=[b]) (env:=X.env) (aA n1);have hpl:=cQ (es:=[b]) (env:=X.env) (pos:=pos) (fun e he=>by rw [Et.mp he];exact n2);unfold bM at h;split at h
 ·split at h
  ·rename_i hab;obtain ⟨rfl,rfl⟩:=hab;split at h
   ·rename_i n hn;cases h;obtain ⟨n',t1,t2⟩:=DK (K:=X.K) (x:=d) (by rw [hn];exact fun z=>nomatch z);exact wX hg hm t1 (.cons (.ty _) (.cons (.ty _) .nil)) t2 ha he hpl
   ·cases h
  ·cases h
 ·split at h
  ·rename_i t u ht hu;have hk:=(R.kit t u q h).1;have cl:ClD c (tv u):=by
    cases c<;>first|(cases hu;done)|(cases hu;constructor)
   exact zv hg hm (C9 R ht h) cl hk ha he hpl
  ·cases h
end
set_option autoImplicit true
set_option relaxedAutoImplicit true
section
variable {X:Cx} {ρ:Rho} {k:Nat} {f C:Addr} {fd:FuncData} {ps:List Str} {x m:Str} {p pos apos:Pos} {e o:Expr} {es:List Expr} {ds:List D} {d:D}
theorem uh (ho:DE X ρ o (.ins C fs)) (hl:fs.lookup m=none) (c:Cls X.K C) (hm:Meth X.K C m f) (F:aE X.prog X.w X.K X.mg X.base CX0 k f fd ps (ko X.K Pr)) (hr:aJ k X.A) (hb:Binds X.K fd ps [])
  (ha:DA X ρ (e::es) ds) (hp:Pr (.ins C fs::ds) cw) (hst:starEach (e::es) X.env=(false,eval e X.env)::starEach es X.env) (hpl:(backTo pos (starEach es X.env)).any (·.1)=false)
  (ht:eval (.Call (.Attribute o m apos) (e::es) [] pos) X.env=(do
   let ov←eval o X.env
   standAt apos.atName
   let (f,first)←holding [ov] (getMethod ov m pl)
   callWith pos f first (backTo pos (starEach (e::es) X.env)) (backToKw pos (keywordEach [] X.env)))):
  DFx X ρ (.Call (.Attribute o m apos) (e::es) [] pos) cw:=PE.weak (oT ho c hm F hr hb .nil fW ha hst hpl ht) fun σ H Q ⟨S,ve,kk⟩=>⟨S,ve,fun v H1 ex1 r1=>by
   obtain ⟨a,dx,gs,rfl,hh,rf⟩:=r1.jX;exact ⟨a,dx,gs,rfl,hh,rf.none hl,S,ve.ext ex1,fun vs H' ex r=>⟨S,_,cw,((ve.ext ex1).ext ex).dom,.cons (r1.ext (ex.to S)) (eZ r),hp,fun a o H'' ex' hn ha r'=>kk a o H'' (ex1.trans (ex.trans ex')) (ex1.back (ex.back hn)) ha r'⟩⟩⟩
theorem rA (ho:DE X ρ o (.ins C fs)) (hl:fs.lookup m=none) (c:Cls X.K C) (hm:Meth X.K C m f) (F:aE X.prog X.w X.K X.mg X.base CX0 k f fd ps (ko X.K Pr)) (hr:aJ k X.A) (hb:Binds X.K fd ps [])
  (hp:Pr [.ins C fs] cw)
  (ht:eval (.Call (.Attribute o m apos) [] [] pos) X.env=(do
   let ov←eval o X.env
   standAt apos.atName
   let (f,first)←holding [ov] (getMethod ov m pl)
   callWith pos f first (backTo pos (starEach [] X.env)) (backToKw pos (keywordEach [] X.env)))):
  DFx X ρ (.Call (.Attribute o m apos) [] [] pos) cw:=PE.weak (mY ho c hm F hr hb .nil fW ht) fun σ H Q ⟨S,ve,kk⟩=>⟨S,ve,fun v H1 ex1 r1=>by
   obtain ⟨a,dx,gs,rfl,hh,rf⟩:=r1.jX;exact ⟨a,dx,gs,rfl,hh,rf.none hl,S,_,cw,(ve.ext ex1).dom,.cons r1 .nil,hp,fun a us H'' ex' hn ha r'=>kk a us H'' (ex1.trans ex') (ex1.back hn) ha r'⟩⟩
end
noncomputable def nmB:BN->Str
 |.len=>"len"|.sum=>"sum"|.all=>"all"|.any=>"any"|.abs=>"abs"|.int=>"int"|.tuple=>"tuple"|.list=>"list"|.dict=>"dict"|.min=>"min"|.max=>"max"|.isin=>"isinstance"|.range=>"range"|.zip=>"zip"|.enum=>"enumerate"|.str=>"str"|.sorted=>"sorted"
theorem mJ {c:Prop} [Decidable c] {α:Type} {a b:α} {o:Option α} (h:(if c then some a else o)=some b):(c∧a=b)∨o=some b:=by
 by_cases hc:c
 ·rw [if_pos hc] at h;exact .inl ⟨hc,EL h⟩
 ·rw [if_neg hc] at h;exact .inr h
theorem fC {x:Str} {b:BN} (h:bnC x=some b):x=nmB b:=by
 unfold bnC at h
 repeat (rcases mJ h with ⟨hx,hb⟩|h;(subst hb;exact hx))
 cases h
section
variable {P:Program} {wd:World} {K:Frag} {mg:Str->Option Value} {base:Heap} {X:Cx} {sc:Scope} {N:List Str} {w k kc:Nat} {G:Prg} {cl:Str->List D->Option Rs} {ρ:Rho} {e:Expr} {ce:CE} {d:D} {args:List Expr} {ds:List D} {p pos:Pos} {x:Str} {b:BN}
theorem qH (R:Row P wd K mg base G) (xe:XE true P wd K mg base X sc N w k) (hx:bnC x=some b) (hg:glB sc x=true) (ha:DA X ρ args ds) (hl:args.length=ds.length) (hs:∀e∈args,bw e=true) (h:bA G b ds=some d):DE X ρ (.Call (.Name x p) args [] pos) d:=by
 have hm:=R.blt x b hx;rw [←xe.mg_] at hm;have g:=xe.gl hg;have hn:=fC hx;have hK:=xe.K_;subst hK;have one:∀{e:Expr},args=[e]->starEach [e] X.env=(false,eval e X.env)::starEach [] X.env:=fun {e} q=>bq (aA (hs e (by rw [q];simp)));cases b with
 |len=>
  dsimp only [nmB] at hn;subst hn
  match ds,args,hl,h with
  |[d0],[e0],_,h=>
   unfold bA at h;dsimp only at h;split at h
   ·rename_i xs hq;cases h;exact zy (bX hq) g hm ha (one rfl) rfl
   ·cases h
  |[],_,_,h=>cases h
  |_::_::_,_,_,h=>cases h
 |sum=>
  dsimp only [nmB] at hn;subst hn
  match ds,args,hl,h with
  |[.lst xs],[e0],_,h=>
   unfold bA at h;dsimp only at h;split at h
   ·rename_i ns hq;cases h;rw [kS hq] at ha;exact zL xe.calm g hm ha (one rfl) rfl
   ·cases h
 |all=>
  dsimp only [nmB] at hn;subst hn
  match ds,args,hl,h with
  |[d0],[e0],_,h=>
   unfold bA at h;dsimp only at h;split at h
   ·rename_i xs hq;split at h
    ·rename_i bs hb;cases h;exact zq xe.calm (by rw [←jf hb];exact bX hq) g hm ha (one rfl) rfl
    ·cases h
   ·cases h
  |[],_,_,h=>cases h
  |_::_::_,_,_,h=>cases h
 |any=>cases h
 |abs=>cases h
 |int=>cases h
 |tuple=>
  dsimp only [nmB] at hn;subst hn
  match ds,args,hl,h with
  |[d0],[e0],_,h=>
   unfold bA at h;dsimp only at h;split at h
   ·rename_i xs hq;cases h;exact ue (bX hq) g hm ha (one rfl) rfl
   ·cases h
  |[],_,_,h=>cases h
  |_::_::_,_,_,h=>cases h
 |min=>
  dsimp only [nmB] at hn;subst hn
  match ds,args,hl,h with
  |[.int i,.int j],[e0,e1],_,h=>cases h;exact xa xe.calm g hm ha (bq (aA (hs e0 (by simp)))) (cQ fun e he=>hs e (En _ he))
 |max=>
  dsimp only [nmB] at hn;subst hn
  match ds,args,hl,h with
  |[.int i,.int j],[e0,e1],_,h=>cases h;exact wZ xe.calm g hm ha (bq (aA (hs e0 (by simp)))) (cQ fun e he=>hs e (En _ he))
 |isin=>
  dsimp only [nmB] at hn;subst hn
  match ds,args,hl,h with
  |[d0,c0],[e0,e1],_,h=>
   unfold bA at h;dsimp only at h;split at h
   ·rename_i q hq;cases h;exact Al R g hm ha (hs e0 (by simp)) (hs e1 (by simp)) hq
   ·cases h
  |[],_,_,h=>cases h
  |[_],_,_,h=>cases h
  |_::_::_::_,_,_,h=>cases h
 |list=>cases h
 |dict=>cases h
 |range=>cases h
 |zip=>cases h
 |enum=>cases h
 |str=>cases h
 |sorted=>cases h
theorem oG (R:Row P wd K mg base G) (xe:XE true P wd K mg base X sc N w k) (hx:bnC x=some .list) (hg:glB sc x=true) (ha:DA X ρ [e0] [d]) (hs:bw e0=true) (h:br d=some xs):DF X ρ (.Call (.Name x p) [e0] [] pos) xs:=by
 have hm:=R.blt x _ hx;rw [←xe.mg_] at hm;have hn:=fC hx;dsimp only [nmB] at hn;subst hn;exact xj (bX h) (xe.gl hg) hm ha (bq (aA hs)) rfl
theorem n_ (R:Row P wd K mg base G) (xe:XE true P wd K mg base X sc N w k) (hx:bnC x=some .dict) (hg:glB sc x=true) (ha:DA X ρ [e0] [.pdc es]) (hs:bw e0=true) (h:apart (es.map fun q=>q.1.hs)=true):DFx X ρ (.Call (.Name x p) [e0] [] pos) (.d es):=by
 have hm:=R.blt x _ hx;rw [←xe.mg_] at hm;have hn:=fC hx;dsimp only [nmB] at hn;subst hn;exact ug (lU h) (xe.gl hg) hm ha (bq (aA hs)) rfl
theorem y9 (R:Row P wd K mg base G) (xe:XE true P wd K mg base X sc N w k) (ht:eg tg (.Call (.Name x p) args [] pos)=true) (hx:bnC x=some b) (hg:glB sc x=true) (ha:DA X ρ args ds) (hl:args.length=ds.length) (hs:∀e∈args,bw e=true) (h:gv b ds=some its):
  DI X tg ρ (.Call (.Name x p) args [] pos) its:=by
 have hm:=R.blt x b hx;rw [←xe.mg_] at hm;have g:=xe.gl hg;have hn:=fC hx;have s1:∀{e:Expr},e∈args->starEach [e] X.env=[(false,eval e X.env)]:=fun {e} q=>bq (es:=[]) (aA (hs e q));have s2:∀{e f:Expr},e∈args->f∈args->starEach [e,f] X.env=[(false,eval e X.env),(false,eval f X.env)]:=fun {e f} q r=>by rw [bq (aA (hs e q)),s1 r]
 have s3:∀{e f g:Expr},e∈args->f∈args->g∈args->starEach [e,f,g] X.env=[(false,eval e X.env),(false,eval f X.env),(false,eval g X.env)]:=fun {e f g} q r t=>by rw [bq (aA (hs e q)),s2 r t]
 have tup:(x="zip"∨x="enumerate")->∃elts j tp,tg=.Tuple elts j tp:=fun z=>by
  unfold eg at ht;dsimp only at ht;have:(!(x==("zip":Str))&&!(x==("enumerate":Str)))=false:=by rcases z with z|z<;>(subst z;decide)
  rw [this,Bool.false_or] at ht;cases tg<;>first|(cases ht;done)|exact ⟨_,_,_,rfl⟩
 unfold gv at h;split at h
 ·dsimp only [nmB] at hn;subst hn;split at h
  ·rename_i hj;cases h
   match args,hl with
   |[e0],_=>exact rD g hm ha (iq hj).1 (iq hj).2 (s1 (by simp))
  ·cases h
 ·dsimp only [nmB] at hn;subst hn;split at h
  ·rename_i hj;cases h
   match args,hl with
   |[e0,e1],_=>exact rC g hm ha ⟨(iq (EJ.mp hj).1).1,(iq (EJ.mp hj).1).2,(iq (EJ.mp hj).2).1,(iq (EJ.mp hj).2).2⟩ (s2 (by simp) (by simp)) (s1 (by simp))
  ·cases h
 ·dsimp only [nmB] at hn;subst hn;obtain ⟨elts,j,tp,rfl⟩:=tup (.inl rfl);split at h
  ·rename_i xs ys h1 h2;cases h
   match args,hl with
   |[e0,e1],_=>exact xn g hm (bX h1) (bX h2) ha (s2 (by simp) (by simp)) (s1 (by simp))
  ·cases h
 ·dsimp only [nmB] at hn;subst hn;obtain ⟨elts,j,tp,rfl⟩:=tup (.inl rfl);split at h
  ·rename_i xs ys zs h1 h2 h3;cases h
   match args,hl with
   |[e0,e1,e2],_=>exact xo g hm (bX h1) (bX h2) (bX h3) ha (s3 (by simp) (by simp) (by simp)) (s2 (by simp) (by simp))
  ·cases h
 ·dsimp only [nmB] at hn;subst hn;obtain ⟨elts,j,tp,rfl⟩:=tup (.inr rfl);split at h
  ·rename_i xs h1;cases h
   match args,hl with
   |[e0],_=>exact xm g hm (bX h1) ha (s1 (by simp))
  ·cases h
 ·cases h
theorem Cd (R:Row P wd K mg base G) (C:Calls P wd K mg base G kc cl) (hk:kc+2<=k) (xe:XE true P wd K mg base X sc N w k) (hn:cD x=true) (hg:glB sc x=true) (ha:DA X ρ args ds) (hl:args.length=ds.length) (hs:∀e∈args,bw e=true) (h:fnR G cl x ds=some r):
  (∀d,r.val=some d->DE X ρ (.Call (.Name x p) args [] pos) d)∧(∀c,r=.fr c->DFx X ρ (.Call (.Name x p) args [] pos) c)∧(∀d,r=.xc d->DEX X ρ (.Call (.Name x p) args [] pos) d):=by
 obtain ⟨hd1,hd2,hd3⟩:=eA hn;have g:=xe.gl hg;obtain ⟨rfl,rfl,rfl,rfl,rfl⟩:=And.intro xe.p_ (And.intro xe.w_ (And.intro xe.K_ (And.intro xe.mg_ xe.je)));unfold fnR at h
 match ds,args,hl with
 |[],[],_=>
  cases h
 |d0::dr,e0::er,hl=>
  have he:=bq (es:=er) (env:=X.env) (aA (hs e0 (by simp)));have hpl:=cQ (es:=er) (env:=X.env) (pos:=pos) fun e he=>hs e (En _ he);dsimp only at h;split at h
  ·rename_i key hq;obtain ⟨df,f,fd,ps,hm,L⟩:=R.fn x key hq;have F:=C.fn key df f fd ps L;have rm:=xe.room.mono (show kc<=k by omega);refine ⟨fun d hd=>?_,fun c hc=>?_,fun d hd=>?_⟩
   ·exact wR (CT.aE.okD F) rm g hm L.kp L.bind ha ⟨r,h,hd⟩ hd1 he hpl
   ·subst hc;exact uf (C.fr key df f fd ps L) rm g hm L.kp L.bind ha h hd1 he hpl
   ·subst hd;exact trivial
  ·split at h
   ·rename_i C0 key hq;obtain ⟨df,f,fd,ps,hm,M,L⟩:=R.ini x C0 key hq;have F:=C.ini key C0 df f fd ps L;have rm:=xe.room.mono (show kc+1<=k by omega);rcases C.insI key C0 df f fd ps L _ r h with ⟨fs,rfl⟩|⟨dx,rfl⟩
    ·refine ⟨fun d hd=>?_,(by intro c hc;cases hc),(by intro d hd;cases hd)⟩;cases hd;exact wY M (CT.aE.okI F) rm g hm L.bind ha h hd1 he hpl
    ·refine ⟨(by intro d hd;cases hd),(by intro c hc;cases hc),fun d hd=>?_⟩;cases hd;exact trivial
   ·cases h
theorem AH (R:Row P wd K mg base G) (C:Calls P wd K mg base G kc cl) (hk:kc+2<=k) (xe:XE true P wd K mg base X sc N w k) (hb:gZ o=true) (h30:args.length<30) (hp:(ap.endLine==pos.line)=true) (ho:DE X ρ o od) (ha:DA X ρ args ds) (hone:∀e0 d0,args=[e0]->ds=[d0]->DE X ρ e0 d0) (hl:args.length=ds.length)
  (hs:∀e∈args,bw e=true) (h:aF G cl od m ds=some r):
  (∀d,r.val=some d->DE X ρ (.Call (.Attribute o m ap) args [] pos) d)∧(∀c,r=.fr c->DFx X ρ (.Call (.Attribute o m ap) args [] pos) c)∧(∀d,r=.xc d->DEX X ρ (.Call (.Attribute o m ap) args [] pos) d):=by
 have ht:=qT (o:=o) (m:=m) (args:=args) (ap:=ap) (cp:=pos) (env:=X.env) hb hs h30 hp;obtain ⟨rfl,rfl,rfl,rfl,rfl⟩:=And.intro xe.p_ (And.intro xe.w_ (And.intro xe.K_ (And.intro xe.mg_ xe.je)));have rm:=xe.room.mono (show kc<=k by omega);unfold aF at h;split at h
 ·rename_i C0 fs;split at h
  ·rename_i key h1 h2;obtain ⟨df,f,fd,ps,M,c,L⟩:=R.mth C0 m key h2;have F:=C.fn key df f fd ps L
   match ds,args,hl with
   |[],[],_=>
    refine ⟨fun d hd=>?_,fun c hc=>?_,fun d hd=>?_⟩
    ·exact ub ho h1 c M (CT.aE.okD F) rm L.bind ⟨r,h,hd⟩ ht
    ·subst hc;exact rA ho h1 (by assumption) M (C.fr key df f fd ps L) rm L.bind h ht
    ·subst hd;exact trivial
   |d0::dr,e0::er,hl=>
    have he:=bq (es:=er) (env:=X.env) (aA (hs e0 (by simp)));have hpl:=cQ (es:=er) (env:=X.env) (pos:=pos) fun e he=>hs e (En _ he);refine ⟨fun d hd=>?_,fun c hc=>?_,fun d hd=>?_⟩
    ·exact w9 ho h1 c M (CT.aE.okD F) rm L.bind ha ⟨r,h,hd⟩ he hpl ht
    ·subst hc;exact uh ho h1 (by assumption) M (C.fr key df f fd ps L) rm L.bind ha h he hpl ht
    ·subst hd;exact trivial
  ·cases h
 ·split at h
  ·rename_i hm;subst hm;split at h
   ·rename_i kd;split at h
    ·rename_i l e;split at h
     ·rename_i hdp;cases h
      match args,hl with
      |[e0],_=>
       refine ⟨fun d hd=>?_,(by intro c hc;cases hc),(by intro d hd;cases hd)⟩;cases hd;have s0:starEach [e0] X.env=[(false,eval e0 X.env)]:=bq (es:=[]) (aA (hs e0 (by simp)));rw [dW];refine uc (by have:=xe.room.units;omega) ho (by rw [eC e];exact hone e0 kd rfl rfl) hdp ⟨jP hb,?_,hp,?_⟩
       ·rw [hI hs];rfl
       ·rw [s0];rfl
     ·cases h
    ·cases h
   ·cases h
  ·cases h
 ·cases h
end
set_option autoImplicit true
set_option relaxedAutoImplicit true
mutual
theorem fA:∀{t:Tg} {d:D} {ρ ρ' ρ1:Rho},Le ρ ρ'->ak t d ρ=some ρ1->∃ρ1',ak t d ρ'=some ρ1'∧Le ρ1 ρ1'
 |.nm k,d,ρ,ρ',ρ1,le,h=>by
  unfold ak at h ⊢;split at h
  ·rename_i hk;cases h;rw [if_pos (by rw [←le.len];exact hk)];exact ⟨_,rfl,le.set k _⟩
  ·cases h
 |.tp ts,.tup ds,ρ,ρ',ρ1,le,h=>by
  unfold ak at h ⊢;exact kD le h
 |.tp _,.non,_,_,_,_,h=>by unfold ak at h;cases h
 |.tp _,.bl _,_,_,_,_,h=>by unfold ak at h;cases h
 |.tp _,.int _,_,_,_,_,h=>by unfold ak at h;cases h
 |.tp _,.str _,_,_,_,_,h=>by unfold ak at h;cases h
 |.tp _,.lst _,_,_,_,_,h=>by unfold ak at h;cases h
 |.tp _,.ins _ _,_,_,_,_,h=>by unfold ak at h;cases h
 |.tp _,.exc _ _,_,_,_,_,h=>by unfold ak at h;cases h
 |.tp _,.ty _,_,_,_,_,h=>by unfold ak at h;cases h
 |.tp _,.cl _,_,_,_,_,h=>by unfold ak at h;cases h
 |.tp _,.dct _,_,_,_,_,h=>by unfold ak at h;cases h
 |.tp _,.pdc _,_,_,_,_,h=>by unfold ak at h;cases h
theorem kD:∀{ts:List Tg} {ds:List D} {ρ ρ' ρ1:Rho},Le ρ ρ'->aP ts ds ρ=some ρ1->∃ρ1',aP ts ds ρ'=some ρ1'∧Le ρ1 ρ1'
 |[],[],ρ,ρ',ρ1,le,h=>by unfold aP at h ⊢;cases h;exact ⟨_,rfl,le⟩
 |t::ts,d::ds,ρ,ρ',ρ1,le,h=>by
  unfold aP at h ⊢;split at h
  ·rename_i ρ2 h2;obtain ⟨ρ2',e2,le2⟩:=fA le h2;rw [e2];exact kD le2 h
  ·cases h
 |[],_::_,_,_,_,_,h=>by unfold aP at h;cases h
 |_::_,[],_,_,_,_,h=>by unfold aP at h;cases h
end
theorem wu:(assignEach es env).length=es.length:=by
 induction es with
 |nil=>rfl
 |cons e es ih=>cases e<;>(simp only [assignEach,List.length_cons];rw [ih])
theorem iM (h:bw e=true):assignEach (e::es) env=(false,assign e env)::assignEach es env:=by
 cases e<;>first|rfl|cases h
theorem tL (h:∀e∈es,bw e=true):(assignEach es env).findIdx? (·.1)=none:=by
 rw [List.findIdx?_eq_none_iff]
 induction es with
 |nil=>intro x hx;cases hx
 |cons e es ih=>
  intro x hx;rw [iM (h e Eo)] at hx;rcases Er.mp hx with z|z
  ·rw [z]
  ·exact ih (fun e he=>h e (En _ he)) x z
section
variable {P:Program} {wd:World} {K:Frag} {mg:Str->Option Value} {base:Heap} {X:Cx} {sc:Scope} {N:List Str} {w k kc:Nat} {G:Prg} {cl:Str->List D->Option Rs}
theorem jL (xe:XE true P wd K mg base X sc N w k):∀n,(∀tg t,cTg sc N n tg=some t->bw tg=true∧∀ρ d ρ1,ak t d ρ=some ρ1->(∀k∈tks t,k<w)->DG X tg ρ d ρ1 (tks t)∧cy ρ ρ1 (tks t))∧
  (∀tgs ts,d5 sc N n tgs=some ts->(∀e∈tgs,bw e=true)∧∀ρ ds ρ1,aP ts ds ρ=some ρ1->(∀k∈dO ts,k<w)->DGs X tgs ρ ds ρ1 (dO ts)∧cy ρ ρ1 (dO ts)∧ds.length=tgs.length):=by
 intro n
 induction n with
 |zero=>exact ⟨fun tg t h=>(by unfold cTg at h;cases h),fun tg t h=>(by unfold d5 at h;cases h)⟩
 |succ n ih=>
  refine ⟨fun tg t h=>?_,fun tgs ts h=>?_⟩
  ·unfold cTg at h;split at h
   ·rename_i x p;split at h
    ·rename_i hx;simp only [Bool.and_eq_true] at hx;cases hi:idx N x with
     |none=>rw [hi] at h;cases h
     |some i=>
      rw [hi] at h;cases h;refine ⟨rfl,fun ρ d ρ1 hb hw=>?_⟩;unfold ak at hb;split at hb
      ·cases hb;have hat:=xe.at hi;have hN:X.N.Nodup:=by rw [xe.N_];exact xe.nd
       refine ⟨xk hN hat (xe.loc hx.2) (.inl (xe.fn i x (hw i (by simp [tks])) (by rw [←xe.N_];exact hat))),BF⟩
      ·cases hb
    ·cases h
   ·rename_i es j p;split at h
    ·rename_i hst;cases hts:d5 sc N n es with
     |none=>rw [hts] at h;cases h
     |some ts=>
      rw [hts] at h;cases h;obtain ⟨hs,ht⟩:=ih.2 es ts hts;refine ⟨rfl,fun ρ d ρ1 hb hw=>?_⟩;cases d with
      |tup ds=>
       unfold ak at hb;obtain ⟨h1,h2,h3⟩:=ht ρ ds ρ1 hb (fun k hk=>hw k hk);exact ⟨zO xe.calm h1 h3 (by rw [wu]) (tL hs),h2⟩
      |_=>unfold ak at hb;cases hb
    ·cases h
   ·cases h
  ·unfold d5 at h;split at h
   ·cases h;refine ⟨fun e he=>(nomatch he),fun ρ ds ρ1 hb hw=>?_⟩;cases ds with
    |nil=>unfold aP at hb;cases hb;exact ⟨xl,BE,rfl⟩
    |cons=>unfold aP at hb;cases hb
   ·rename_i e r;split at h
    ·rename_i t ts h1 h2;cases h;obtain ⟨s1,g1⟩:=ih.1 e t h1;obtain ⟨s2,g2⟩:=ih.2 r ts h2;refine ⟨fun e' he=>?_,fun ρ ds ρ1 hb hw=>?_⟩
     ·rcases Er.mp he with z|z
      ·rw [z];exact s1
      ·exact s2 e' z
     ·cases ds with
      |nil=>unfold aP at hb;cases hb
      |cons d ds=>
       unfold aP at hb;split at hb
       ·rename_i ρ2 hb1;obtain ⟨a1,a2⟩:=g1 ρ d ρ2 hb1 fun k hk=>hw k (by show k∈tks t++dO ts;exact Do _ hk);obtain ⟨b1,b2,b3⟩:=g2 ρ2 ds ρ1 hb fun k hk=>hw k (by show k∈tks t++dO ts;exact Db _ hk);exact ⟨ui a1 b1 (by rw [iM s1];rfl),a2.trans b2,by simp [b3]⟩
       ·cases hb
    ·cases h
theorem XE.cX (xe:XE true P wd K mg base X sc N w k) (cs:CS X scope own cap):
  XE true P wd K mg base (CT.cX X scope own cap p s h fp) (du scope sc) (own++cap.map (·.1)) own.length k where
 p_:=xe.p_
 w_:=xe.w_
 K_:=xe.K_
 mg_:=xe.mg_
 je:=xe.je
 sc_:=by rw [←xe.sc_];rfl
 N_:=rfl
 nd:=cs.nN
 lJ:=xe.lJ
 lS:=xe.lS
 units:=xe.units
 nox:=fun _ _ z=>z
 fn:=fun i x hi hx=>by
  show decide (x∈own)=true;rw [List.getElem?_append_left hi] at hx;exact EH (List.mem_of_getElem? hx)
theorem l_ (h:i<w):(cz w cap ρ)[i]?=some .nil:=by
 unfold cz;rw [List.getElem?_append_left (by simpa using h),List.getElem?_replicate,if_pos h]
end
set_option autoImplicit true
set_option relaxedAutoImplicit true
structure All (P:Program) (wd:World) (K:Frag) (mg:Str->Option Value) (base:Heap) (G:Prg) (cl:Str->List D->Option Rs) (k n:Nat):Prop where
 e:∀X sc N w,XE true P wd K mg base X sc N w k->∀e ce,cE n sc N e=some ce->bw e=true∧ce≠.nop∧OkE G cl X e ce
 a:∀X sc N w,XE true P wd K mg base X sc N w k->∀es ces,cA n sc N es=some ces->(∀e∈es,bw e=true)∧∀ρ ρ' ds,Le ρ ρ'->evA G cl ces ρ=some ds->DA X ρ' es ds∧es.length=ds.length∧(∀e0 d0,es=[e0]->ds=[d0]->DE X ρ' e0 d0)
 b:∀X sc N w,XE true P wd K mg base X sc N w k->∀op es ce,cB n sc N op es=some ce->(∀ρ ρ' d pos,Le ρ ρ'->ev G cl ce ρ=some d->DE X ρ' (.BoolOp op es pos) d)∧∀ρ ρ' b pos,Le ρ ρ'->evT G cl ce ρ=some b->DW X ρ' (.BoolOp op es pos) b
 o:∀X sc N w,XE true P wd K mg base X sc N w k->∀oe ce,cO n sc N oe=some ce->∀ρ ρ' l,Le ρ ρ'->asI ce (ev G cl ce ρ)=some l->DO X ρ' oe l
 f:∀X sc N w,XE true P wd K mg base X sc N w k->∀ifs ce,cIf n sc N ifs=some ce->∀ρ ρ' b,Le ρ ρ'->evT G cl ce ρ=some b->DTs X ρ' ifs b
 g:∀X sc N w,XE true P wd K mg base X sc N w k->∀gens elt ce,cG n sc N gens elt=some ce->∀(full:List Comprehension) (m:Nat),full.drop (m+1)=gens->∀scope pos ρ ρ' out acc,Le ρ ρ'->evB G cl w ce ρ=some out->DB X acc (aW elt full scope pos m (.ref acc) X.env) ρ' out
section
variable {P:Program} {wd:World} {K:Frag} {mg:Str->Option Value} {base:Heap} {G:Prg} {cl:Str->List D->Option Rs} {k kc n:Nat} {X:Cx} {sc:Scope} {N:List Str} {w:Nat}
theorem BU (ih:All P wd K mg base G cl k n) (xe:XE true P wd K mg base X sc N w k) (h:cA (n+1) sc N es=some ces):
  (∀e∈es,bw e=true)∧∀ρ ρ' ds,Le ρ ρ'->evA G cl ces ρ=some ds->DA X ρ' es ds∧es.length=ds.length∧(∀e0 d0,es=[e0]->ds=[d0]->DE X ρ' e0 d0):=by
 unfold cA at h;split at h
 ·cases h;refine ⟨fun e he=>(nomatch he),fun ρ ρ' ds le h=>?_⟩;unfold evA at h;cases h;exact ⟨mh,rfl,fun e0 d0 z=>nomatch z⟩
 ·rename_i e r;split at h
  ·rename_i x xs h1 h2;cases h;obtain ⟨s1,_,o1⟩:=ih.e X sc N w xe e x h1;obtain ⟨s2,o2⟩:=ih.a X sc N w xe r xs h2;refine ⟨fun e' he=>?_,fun ρ ρ' ds le h=>?_⟩
   ·rcases Er.mp he with z|z
    ·rw [z];exact s1
    ·exact s2 e' z
   ·unfold evA at h;split at h
    ·rename_i d hd;split at h
     ·rename_i ds' hds;cases h;obtain ⟨a1,a2,_⟩:=o2 ρ ρ' ds' le hds;refine ⟨fe (o1.v le hd) a1 (bq (aA s1)),by simp [a2],fun e0 d0 z1 z2=>?_⟩;cases z1;cases z2;exact o1.v le hd
     ·cases h
    ·cases h
  ·cases h
theorem BV (ih:All P wd K mg base G cl k n) (xe:XE true P wd K mg base X sc N w k) (h:cB (n+1) sc N op es=some ce):
  (∀ρ ρ' d pos,Le ρ ρ'->ev G cl ce ρ=some d->DE X ρ' (.BoolOp op es pos) d)∧∀ρ ρ' b pos,Le ρ ρ'->evT G cl ce ρ=some b->DW X ρ' (.BoolOp op es pos) b:=by
 unfold cB at h;split at h
 ·cases h
 ·rename_i e;obtain ⟨_,_,o1⟩:=ih.e X sc N w xe e ce h;refine ⟨fun ρ ρ' d pos le h=>zF (o1.v le h),fun ρ ρ' b pos le h=>?_⟩;cases op with
  |And=>exact xG (o1.t le h)
  |Or=>exact zU (o1.t le h)
 ·rename_i e f r;split at h
  ·rename_i x y h1 h2;cases h;obtain ⟨_,_,o1⟩:=ih.e X sc N w xe e x h1;obtain ⟨o2,o3⟩:=ih.b X sc N w xe .And (f::r) y h2;refine ⟨fun ρ ρ' d pos le h=>?_,fun ρ ρ' b pos le h=>?_⟩
   ·rw [ev] at h;split at h
    ·rename_i hx;split at h
     ·rename_i q hq;cases h;have:=q_ (pos:=pos) (o1.v le hx) fun _=>o2 ρ ρ' _ pos le hq;rw [Bool.true_and] at this;exact this
     ·cases h
    ·rename_i hx;cases h;exact q_ (q:=false) (o1.v le hx) fun z=>nomatch z
    ·cases h
   ·unfold evT at h;split at h
    ·rename_i hx;have:=rK (pos:=pos) (o1.t le hx) fun _=>o3 ρ ρ' _ pos le h;rw [Bool.true_and] at this;exact this
    ·rename_i hx;cases h;exact rK (q:=false) (o1.t le hx) fun z=>nomatch z
    ·cases h
  ·rename_i x y h1 h2;cases h;obtain ⟨_,_,o1⟩:=ih.e X sc N w xe e x h1;obtain ⟨o2,o3⟩:=ih.b X sc N w xe .Or (f::r) y h2;refine ⟨fun ρ ρ' d pos le h=>?_,fun ρ ρ' b pos le h=>?_⟩
   ·rw [ev] at h;split at h
    ·rename_i hx;cases h;exact vL (q:=false) (o1.v le hx) fun z=>nomatch z
    ·rename_i hx;split at h
     ·rename_i q hq;cases h;have:=vL (pos:=pos) (o1.v le hx) fun _=>o2 ρ ρ' _ pos le hq;rw [Bool.false_or] at this;exact this
     ·cases h
    ·cases h
   ·unfold evT at h;split at h
    ·rename_i hx;cases h;exact vM (q:=false) (o1.t le hx) fun z=>nomatch z
    ·rename_i hx;have:=vM (pos:=pos) (o1.t le hx) fun _=>o3 ρ ρ' _ pos le h;rw [Bool.false_or] at this;exact this
    ·cases h
  ·cases h
theorem BZ (ih:All P wd K mg base G cl k n) (xe:XE true P wd K mg base X sc N w k) (h:cO (n+1) sc N oe=some ce) (le:Le ρ ρ') (hl:asI ce (ev G cl ce ρ)=some l):DO X ρ' oe l:=by
 unfold cO at h;split at h
 ·cases h;cases hl;exact xq
 ·rename_i e;obtain ⟨_,hn,o1⟩:=ih.e X sc N w xe e ce h;unfold asI at hl;split at hl
  ·exact absurd rfl hn
  ·rename_i i hv;cases hl;exact xr (o1.v le hv)
  ·cases hl
theorem BX (ih:All P wd K mg base G cl k n) (xe:XE true P wd K mg base X sc N w k) (h:cIf (n+1) sc N ifs=some ce) (le:Le ρ ρ') (hl:evT G cl ce ρ=some b):DTs X ρ' ifs b:=by
 unfold cIf at h;split at h
 ·cases h;unfold evT at hl;cases hl;exact xE
 ·rename_i e;obtain ⟨_,hn,o1⟩:=ih.e X sc N w xe e ce h;exact xF (o1.t le hl)
 ·cases h
theorem o9
  (h:(match ak tgt d ρ with
     |some ρ'=>match evT G cl test ρ' with
      |some true=>evB G cl wb body ρ'
      |some false=>some []
      |none=>none
     |none=>none)=some out):∃ρ1 b,ak tgt d ρ=some ρ1∧evT G cl test ρ1=some b∧(b=true->evB G cl wb body ρ1=some out)∧(b=false->out=[]):=by
 split at h
 ·rename_i ρ1 h1;split at h
  ·rename_i h2;exact ⟨ρ1,true,h1,h2,fun _=>h,fun z=>nomatch z⟩
  ·rename_i h2;cases h;exact ⟨ρ1,false,h1,h2,(fun z=>nomatch z),fun _=>rfl⟩
  ·cases h
 ·cases h
theorem BY (ih:All P wd K mg base G cl k n) (xe:XE true P wd K mg base X sc N w k) (h:cG (n+1) sc N gens elt=some ce) (hf:full.drop (m+1)=gens)
  (le:Le ρ ρ') (ho:evB G cl w ce ρ=some out):DB X acc (aW elt full scope pos m (.ref acc) X.env) ρ' out:=by
 unfold cG at h;split at h
 ·cases hq:cE n sc N elt with
  |none=>rw [hq] at h;cases h
  |some x=>
   rw [hq] at h;cases h;obtain ⟨_,_,o1⟩:=ih.e X sc N w xe elt x hq;unfold evB at ho;split at ho
   ·rename_i d hd;cases ho;have hn:full[m+1]?=none:=by
     have z:(full.drop (m+1))[0]?=full[m+1]?:=by rw [List.getElem?_drop]
     rw [←z,hf];rfl
    unfold aW;rw [hn];exact wN (o1.v le hd)
   ·cases ho
 ·rename_i tg it ifs r;split at h
  ·rename_i hit;split at h
   ·rename_i t i c b h1 h2 h3 h4;cases h;have hg:full[m+1]?=some ⟨tg,it,ifs,0⟩:=by
     have z:(full.drop (m+1))[0]?=full[m+1]?:=by rw [List.getElem?_drop]
     rw [←z,hf];rfl
    have hf2:full.drop (m+1+1)=r:=by
     have:full.drop (m+1+1)=(full.drop (m+1)).drop 1:=by rw [List.drop_drop]
     rw [this,hf];rfl
    obtain ⟨_,_,oi⟩:=ih.e X sc N w xe it i h2;unfold evB at ho;split at ho
    ·rename_i its hi;split at ho
     ·rename_i hk;obtain ⟨outs,l1,l2,l3⟩:=gz ho;subst l2;rw [EA] at hk;have hk':∀j∈tks t,j<w∧ρ[j]?=some .nil:=fun j hj=>by
       have:=hk j hj;simp only [Bool.and_eq_true,decide_eq_true_eq] at this;exact ⟨this.1,r9 this.2⟩
      refine wO (ks:=tks t) hg xe.calm (fun e s z=>xe.nox e s z) (oi.i le hit hi).dI0 (fun j hj=>le.nil j (hk' j hj).2) l1 (fun q d o hd ho'=>?_) (fh hit _);obtain ⟨ρ1,bb,z1,z2,z3,z4⟩:=o9 (l3 q d o hd ho');obtain ⟨ρ1',e1,le1⟩:=fA le z1;obtain ⟨_,tg1⟩:=(jL xe n).1 tg t h1;obtain ⟨dg,_⟩:=tg1 ρ' d ρ1' e1 fun j hj=>(hk' j hj).1;exact ⟨ρ1',bb,dg,ih.f X sc N w xe ifs c h3 ρ1 ρ1' bb le1 z2,fun hb=>ih.g X sc N w xe r elt b h4 full (m+1) hf2 scope pos ρ1 ρ1' o acc le1 (z3 hb),z4⟩
     ·cases ho
    ·cases ho
   ·cases h
  ·cases h
 ·cases h
theorem wK (ih:All P wd K mg base G cl k n) (xe:XE true P wd K mg base X sc N w k)
  (hcs:jT scope (ownOf scope) (aL scope N) sc N=true) (hit:eg tg it=true)
  (h1:cTg (du scope sc) (ownOf scope++(aL scope N).map (·.1)) n tg=some t) (h2:cE n sc N it=some i) (h3:cIf n (du scope sc) (ownOf scope++(aL scope N).map (·.1)) ifs=some c)
  (h4:cG n (du scope sc) (ownOf scope++(aL scope N).map (·.1)) gens elt=some b) (le:Le ρ ρ') (h:ev G cl (.comp (ownOf scope).length ((aL scope N).map (·.2)) t i c b) ρ=some d):
  ∃xs,d=.lst xs∧DC X ρ' (.ListComp elt (⟨tg,it,ifs,0⟩::gens) scope pos) xs:=by
 have cs:CS X scope (ownOf scope) (aL scope N):=CS.of sc N xe.sc_ xe.N_ hcs;obtain ⟨_,_,oi⟩:=ih.e X sc N w xe it i h2;rw [ev] at h;split at h
 ·rename_i its hi;split at h
  ·rename_i hk;split at h
   ·rename_i out hc;split at h
    ·rename_i hz;cases h;obtain ⟨outs,l1,l2,l3⟩:=gz hc;subst l2;rw [EA] at hk;have hk':∀j∈tks t,j<(ownOf scope).length:=fun j hj=>by simpa using hk j hj
     have lec:=le.cap (ownOf scope) (aL scope N);refine ⟨_,rfl,wQ (ks:=tks t) cs xe.calm (oi.i le hit hi).dI0 (fun j hj=>lec.nil j (l_ (hk' j hj))) l1 hz (fun q dd o hd ho'=>?_) (fh hit _)⟩;obtain ⟨ρ1,bb,z1,z2,z3,z4⟩:=o9 (l3 q dd o hd ho');obtain ⟨ρ1',e1,le1⟩:=fA lec z1;refine ⟨ρ1',bb,fun p s H f=>?_,fun p s H f=>?_,fun hb p s H f acc=>?_,z4⟩
     ·obtain ⟨_,tg1⟩:=(jL (xe.cX cs (p:=p) (s:=s) (h:=H) (fp:=f)) n).1 tg t h1;exact (tg1 _ dd ρ1' e1 hk').1
     ·exact ih.f _ _ _ _ (xe.cX cs) ifs c h3 ρ1 ρ1' bb le1 z2
     ·exact ih.g _ _ _ _ (xe.cX cs) gens elt b h4 (⟨tg,it,ifs,0⟩::gens) 0 rfl scope pos ρ1 ρ1' o acc le1 (z3 hb)
    ·cases h
   ·cases h
  ·cases h
 ·cases h
theorem ji:∀{its:List D} {es0 es:List (CT.PK×D)},gH f its es0=some es->∃E:Nat->List (CT.PK×D),E 0=es0∧E its.length=es∧∀(i:Nat) d,its[i]?=some d->∃p,f d=some p∧(E i).length<sizeLine∧E (i+1)=bS (E i) p.1 p.2
 |[],es0,es,h=>by cases h;exact ⟨fun _=>es0,rfl,rfl,fun i d h=>by simp at h⟩
 |x::xs,es0,es,h=>by
  unfold gH at h;split at h
  ·rename_i p hp;split at h
   ·rename_i hl;obtain ⟨E,e0,e1,e2⟩:=ji h;refine ⟨fun i=>match i with|0=>es0|i+1=>E i,rfl,e1,fun i d hd=>?_⟩;cases i with
    |zero=>simp at hd;subst hd;exact ⟨p,hp,hl,e0⟩
    |succ i=>exact e2 i d (by simpa using hd)
   ·cases h
  ·cases h
theorem tY (ih:All P wd K mg base G cl k n) (xe:XE true P wd K mg base X sc N w k)
  (hcs:jT scope (ownOf scope) (aL scope N) sc N=true) (hit:eg tg it=true)
  (h1:cTg (du scope sc) (ownOf scope++(aL scope N).map (·.1)) n tg=some t) (h2:cE n sc N it=some i) (h3:cE n (du scope sc) (ownOf scope++(aL scope N).map (·.1)) kx=some kk)
  (h4:cE n (du scope sc) (ownOf scope++(aL scope N).map (·.1)) vx=some vv) (le:Le ρ ρ') (h:ev G cl (.bN (ownOf scope).length ((aL scope N).map (·.2)) t i kk vv) ρ=some d):
  ∃es,d=.pdc es∧DCx X ρ' (.DictComp kx vx [⟨tg,it,[],0⟩] scope pos) (.d es):=by
 have cs:CS X scope (ownOf scope) (aL scope N):=CS.of sc N xe.sc_ xe.N_ hcs;obtain ⟨_,_,oi⟩:=ih.e X sc N w xe it i h2;rw [ev] at h;split at h
 ·rename_i its hi;split at h
  ·rename_i hk;split at h
   ·rename_i es hc;cases h;obtain ⟨E,e0,e1,e2⟩:=ji hc;rw [EA] at hk;have hk':∀j∈tks t,j<(ownOf scope).length:=fun j hj=>by simpa using hk j hj
    have lec:=le.cap (ownOf scope) (aL scope N);have hz:(E its.length).length<=sizeLine:=by
     cases hl:its.length with
     |zero=>rw [e0];exact Nat.zero_le _
     |succ m=>
      obtain ⟨p,_,a,b⟩:=e2 m its[m] (by simp [hl]);rw [b,bS];split
      ·rw [Ez];omega
      ·rw [Ey];exact a
    subst e1;refine ⟨_,rfl,tZ (ks:=tks t) cs xe.calm (oi.i le hit hi).dI0 (fun j hj=>lec.nil j (l_ (hk' j hj))) e0 hz (fun q dd hd=>?_) (fh hit _)⟩;obtain ⟨p,hp,hl,hE⟩:=e2 q dd hd;split at hp
    ·rename_i ρ1 z1;obtain ⟨ρ1',e1',le1⟩:=fA lec z1;unfold pK at hp;split at hp
     ·rename_i kd v hkd hvd;split at hp
      ·rename_i l hpk;split at hp
       ·rename_i hdp;cases hp;refine ⟨ρ1',.t l,v,fun p s H f=>?_,fun p s H f acc=>?_,by rw [hE,fm],Nat.le_of_lt hl,hdp⟩
        ·obtain ⟨_,tg1⟩:=(jL (xe.cX cs (p:=p) (s:=s) (h:=H) (fp:=f)) n).1 tg t h1;exact (tg1 _ dd ρ1' e1' hk').1
        ·have xc:=xe.cX cs (p:=p) (s:=s) (h:=H) (fp:=f);have ok1:=(ih.e _ _ _ _ xc kx kk h3).2.2.v le1 hkd;rw [←eC hpk] at ok1;exact tX (Y:=cX X scope (ownOf scope) (aL scope N) p s H f) (by have:=xe.units;show X.A.units+9<cLine;omega) ok1 ((ih.e _ _ _ _ xc vx vv h4).2.2.v le1 hvd)
       ·cases hp
      ·cases hp
     ·cases hp
    ·cases hp
   ·cases h
  ·cases h
 ·cases h
end
set_option autoImplicit true
set_option relaxedAutoImplicit true
section
variable {P:Program} {wd:World} {K:Frag} {mg:Str->Option Value} {base:Heap} {G:Prg} {cl:Str->List D->Option Rs} {k kc n:Nat} {X:Cx} {sc:Scope} {N:List Str} {w:Nat} {ce:CE} {pos:Pos}
theorem xH (h:qM c=some ce):ce≠.nop∧OkE G cl X (.Constant c j pos) ce:=by
 cases c with
 |int i=>
  cases h;refine ⟨(fun z=>nomatch z),OkE.of (fun le h=>by rw [ev] at h;cases h;exact zt) (fun le h=>by unfold evT at h;cases h) (fun le _ h=>by unfold evI at h;cases h) rfl fun ρ=>rfl⟩
 |bool b=>
  cases h;refine ⟨(fun z=>nomatch z),OkE.of (fun le h=>by rw [ev] at h;cases h;exact vJ) (fun le h=>by unfold evT at h;cases h;exact gI vJ) (fun le _ h=>by unfold evI at h;cases h) rfl fun ρ=>rfl⟩
 |none=>
  cases h;refine ⟨(fun z=>nomatch z),OkE.of (fun le h=>by rw [ev] at h;cases h;exact gF) (fun le h=>by unfold evT at h;cases h) (fun le _ h=>by unfold evI at h;cases h) rfl fun ρ=>rfl⟩
 |str s=>
  cases h;refine ⟨(fun z=>nomatch z),OkE.of (fun le h=>by rw [ev] at h;cases h;exact zJ) (fun le h=>by unfold evT at h;cases h) (fun le _ h=>by unfold evI at h;cases h) rfl fun ρ=>rfl⟩
 |float _=>cases h
 |complex _ _=>cases h
 |bytes _=>cases h
 |ellipsis=>cases h
theorem zW (R:Row P wd K mg base G) (xe:XE ca P wd K mg base X sc N w k) (h:pD sc N x=some ce):ce≠.nop∧OkE G cl X (.Name x pos) ce:=by
 unfold pD at h;split at h
 ·rename_i hn;obtain ⟨h1,h2,_⟩:=eA hn;split at h
  ·rename_i i hi;split at h
   ·rename_i hv;cases h;have go:∀{ρ ρ':Rho} {d:D},Le ρ ρ'->aQ ρ[i]?=some d->DE X ρ' (.Name x pos) d:=fun le hq=>rk (xe.at hi) (xe.vis hv) (le.val i _ (vp hq)) h1 h2;refine ⟨(fun z=>nomatch z),OkE.of (fun le h=>by rw [ev] at h;exact go le h) (fun le h=>?_) (fun le _ h=>?_) rfl (fun ρ=>rfl) (fun i' z ρ c pos hr=>(by cases z;exact xA (xe.at hi) (xe.vis hv) hr h1 h2)) fun i' z=>(by cases z;exact ⟨x,pos,rfl,xe.at hi,xe.vis hv,h1,h2⟩)⟩
    ·unfold evT at h;split at h
     ·rename_i b hb;cases h;exact gI (go le hb)
     ·cases h
    ·unfold evI at h;obtain ⟨d,hd,h⟩:=oD h;exact jh (go le hd) h
   ·cases h
  ·split at h
   ·rename_i hg;cases h;refine ⟨(fun z=>nomatch z),OkE.of (fun le h=>by rw [ev] at h;exact R.glob X xe.K_ xe.mg_ x _ h hn (xe.gl hg) _ _) (fun le h=>by unfold evT at h;cases h) (fun le _ h=>by unfold evI at h;cases h) rfl fun ρ=>rfl⟩
   ·cases h
 ·cases h
theorem Aj (h:mG op b=some true):∃j p,b=.Constant .none j p∧op=.Is:=by
 unfold mG at h;split at h
 ·split at h
  ·split at h
   ·exact ⟨_,_,rfl,rfl⟩
   ·cases h
   ·cases h
  ·cases h
 ·cases h
theorem Ai (h:mG op b=some false):∃j p,b=.Constant .none j p∧op=.IsNot:=by
 unfold mG at h;split at h
 ·split at h
  ·split at h
   ·cases h
   ·exact ⟨_,_,rfl,rfl⟩
   ·cases h
  ·cases h
 ·cases h
theorem Ax (h:lel ops=true):ops=[.LtE,.Lt]:=by
 unfold lel at h;split at h
 ·split at h
  ·split at h
   ·rfl
   ·cases h
  ·cases h
 ·cases h
theorem BW (R:Row P wd K mg base G) (C:Calls P wd K mg base G kc cl) (hk:kc+2<=k) (ih:All P wd K mg base G cl k n) (xe:XE true P wd K mg base X sc N w k) (h:cE (n+1) sc N e=some ce):bw e=true∧ce≠.nop∧OkE G cl X e ce:=by
 unfold cE at h;split at h
 ·
  exact ⟨rfl,xH h⟩
 ·
  exact ⟨rfl,zW R xe h⟩
 ·
  rename_i a op b _;split at h
  ·rename_i o x y h0 h1 h2;cases h;obtain ⟨_,_,oa⟩:=ih.e X sc N w xe a x h1;obtain ⟨_,_,ob⟩:=ih.e X sc N w xe b y h2;refine ⟨rfl,(fun z=>nomatch z),OkE.of (fun le h=>?_) (fun le h=>by unfold evT at h;cases h) (fun le _ h=>by unfold evI at h;cases h) rfl fun ρ=>rfl⟩;rw [ev] at h;obtain ⟨u,hu,h⟩:=oD h;obtain ⟨v,hv,h⟩:=oD h;exact y8 h0 (oa.v le hu) (ob.v le hv) h
  ·cases h
 ·
  rename_i op a _;split at h
  ·
   cases hq:cE n sc N a with
   |none=>rw [hq] at h;cases h
   |some x=>
    rw [hq] at h;cases h;obtain ⟨_,_,oa⟩:=ih.e X sc N w xe a x hq;refine ⟨rfl,(fun z=>nomatch z),OkE.of (fun le h=>?_) (fun le h=>by unfold evT at h;cases h) (fun le _ h=>by unfold evI at h;cases h) rfl fun ρ=>rfl⟩;rw [ev] at h;split at h
    ·rename_i i hi;cases h;exact zD (oa.v le hi)
    ·cases h
  ·
   cases hq:cE n sc N a with
   |none=>rw [hq] at h;cases h
   |some x=>
    rw [hq] at h;cases h;obtain ⟨_,_,oa⟩:=ih.e X sc N w xe a x hq;refine ⟨rfl,(fun z=>nomatch z),OkE.of (fun le h=>?_) (fun le h=>?_) (fun le _ h=>by unfold evI at h;cases h) rfl fun ρ=>rfl⟩
    ·rw [ev] at h;split at h
     ·rename_i i hi;cases h;exact zE (oa.v le hi)
     ·cases h
    ·unfold evT at h;obtain ⟨i,hi,h⟩:=oB h;cases h;exact zT (oa.t le hi)
  ·cases h
 ·
  rename_i op es _;split at h
  ·rename_i a b r;obtain ⟨b1,b2⟩:=ih.b X sc N w xe op (a::b::r) ce h;have hce:(∃x y,ce=.and x y)∨∃x y,ce=.or x y:=by
    cases n with
    |zero=>unfold cB at h;cases h
    |succ n=>
     unfold cB at h;dsimp only at h;split at h
     ·cases h;exact .inl ⟨_,_,rfl⟩
     ·cases h;exact .inr ⟨_,_,rfl⟩
     ·cases h
   refine ⟨rfl,?_,OkE.of (fun le h=>b1 _ _ _ _ le h) (fun le h=>(b2 _ _ _ _ le h).dt) ?_ rfl ?_ ?_ ?_⟩
   ·rcases hce with ⟨_,_,rfl⟩|⟨_,_,rfl⟩<;>exact fun z=>nomatch z
   ·intro ρ ρ' its tg le _ h;rcases hce with ⟨_,_,rfl⟩|⟨_,_,rfl⟩<;>(unfold evI at h;cases h)
   ·intro ρ;rcases hce with ⟨_,_,rfl⟩|⟨_,_,rfl⟩<;>rfl
   ·intro i z;rcases hce with ⟨_,_,rfl⟩|⟨_,_,rfl⟩<;>cases z
   ·intro i z;rcases hce with ⟨_,_,rfl⟩|⟨_,_,rfl⟩<;>cases z
  ·cases h
 ·
  rename_i a ops bs _;split at h
  ·rename_i b;split at h
   ·rename_i op;split at h
    ·rename_i hc;obtain ⟨j,p',rfl,rfl⟩:=Aj hc;cases hq:cE n sc N a with
     |none=>rw [hq] at h;cases h
     |some x=>
      rw [hq] at h;cases h;obtain ⟨_,_,oa⟩:=ih.e X sc N w xe a x hq;refine ⟨rfl,(fun z=>nomatch z),OkE.of (fun le h=>?_) (fun le h=>?_) (fun le _ h=>by unfold evI at h;cases h) rfl fun ρ=>rfl⟩
      ·rw [ev] at h;obtain ⟨d,hd,h⟩:=oD h;cases h;exact zu (oa.v le hd)
      ·unfold evT at h;obtain ⟨d,hd,h⟩:=oD h;cases h;exact zS (oa.v le hd)
    ·rename_i hc;obtain ⟨j,p',rfl,rfl⟩:=Ai hc;cases hq:cE n sc N a with
     |none=>rw [hq] at h;cases h
     |some x=>
      rw [hq] at h;cases h;obtain ⟨_,_,oa⟩:=ih.e X sc N w xe a x hq;refine ⟨rfl,(fun z=>nomatch z),OkE.of (fun le h=>?_) (fun le h=>?_) (fun le _ h=>by unfold evI at h;cases h) rfl fun ρ=>rfl⟩
      ·rw [ev] at h;obtain ⟨d,hd,h⟩:=oD h;cases h;exact xg (oa.v le hd)
      ·unfold evT at h;obtain ⟨d,hd,h⟩:=oD h;cases h;exact xC (oa.v le hd)
    ·split at h
     ·rename_i o x y h0 h1 h2;split at h
      ·rename_i hns;cases h;obtain ⟨_,_,oa⟩:=ih.e X sc N w xe a x h1;obtain ⟨_,_,ob⟩:=ih.e X sc N w xe b y h2;refine ⟨rfl,(fun z=>nomatch z),OkE.of (fun le h=>?_) (fun le h=>?_) (fun le _ h=>by unfold evI at h;cases h) rfl fun ρ=>rfl⟩
       ·rw [ev] at h;obtain ⟨u,hu,h⟩:=oD h;obtain ⟨v,hv,h⟩:=oD h;obtain ⟨q,hq,h⟩:=oB h;cases h;exact zl hns xe.units h0 (oa.v le hu) (ob.v le hv) hq
       ·unfold evT at h;obtain ⟨u,hu,h⟩:=oD h;obtain ⟨v,hv,h⟩:=oD h;exact wJ hns xe.units h0 (oa.v le hu) (ob.v le hv) h
      ·cases h
     ·cases h
   ·cases h
  ·
   rename_i b c;split at h
   ·rename_i hl;obtain rfl:=Ax hl;split at h
    ·rename_i x y z h1 h2 h3;split at h
     ·rename_i hs;simp only [Bool.and_eq_true] at hs;cases h;obtain ⟨_,_,oa⟩:=ih.e X sc N w xe a x h1;obtain ⟨_,_,ob⟩:=ih.e X sc N w xe b y h2;obtain ⟨_,_,oc⟩:=ih.e X sc N w xe c z h3;refine ⟨rfl,(fun z=>nomatch z),OkE.of (fun le h=>?_) (fun le h=>by unfold evT at h;cases h) (fun le _ h=>by unfold evI at h;cases h) rfl fun ρ=>rfl⟩;rw [ev] at h;split at h
      ·rename_i i hi;split at h
       ·rename_i j hj;split at h
        ·rename_i l hl;cases h;exact t_ (oa.v le hi) (ob.v le hj) (oc.v le hl) (uL hs.2)
        ·cases h
       ·cases h
      ·cases h
     ·cases h
    ·cases h
   ·cases h
  ·cases h
 ·
  rename_i c a b _;split at h
  ·rename_i z x y h0 h1 h2;cases h;obtain ⟨_,_,oc⟩:=ih.e X sc N w xe c z h0;obtain ⟨_,_,oa⟩:=ih.e X sc N w xe a x h1;obtain ⟨_,_,ob⟩:=ih.e X sc N w xe b y h2;refine ⟨rfl,(fun z=>nomatch z),OkE.of (fun le h=>?_) (fun le h=>by unfold evT at h;cases h) (fun le _ h=>by unfold evI at h;cases h) rfl fun ρ=>rfl⟩;rw [ev] at h;split at h
   ·rename_i hq;exact vK (oc.t le hq) (fun _=>oa.v le h) fun z=>nomatch z
   ·rename_i hq;exact vK (oc.t le hq) (fun z=>nomatch z) fun _=>ob.v le h
   ·cases h
  ·cases h
 ·
  rename_i es j _;cases hq:cA n sc N es with
  |none=>rw [hq] at h;cases h
  |some ces=>
   rw [hq] at h;cases h;obtain ⟨_,oa⟩:=ih.a X sc N w xe es ces hq;refine ⟨rfl,(fun z=>nomatch z),OkE.of (fun le h=>?_) (fun le h=>by unfold evT at h;cases h) (fun le _ h=>?_) rfl fun ρ=>rfl⟩
   ·rw [ev] at h;obtain ⟨ds,hd,h⟩:=oL h;split at h
    ·rename_i hl;cases h;exact rj (oa _ _ ds le hd).1 hl
    ·cases h
   ·unfold evI at h;obtain ⟨ds,hd,h⟩:=oL h;split at h
    ·rename_i hl;cases h;exact rE (rj (oa _ _ _ le hd).1 hl)
    ·cases h
 ·
  rename_i es _;cases hq:cA n sc N es with
  |none=>rw [hq] at h;cases h
  |some ces=>
   rw [hq] at h;cases h;obtain ⟨_,oa⟩:=ih.a X sc N w xe es ces hq;refine ⟨rfl,(fun z=>nomatch z),⟨fun le h=>?_,fun le h=>(by unfold evT at h;cases h),fun le _ h=>?_,fun z=>(nomatch z),fun i z=>(nomatch z),fun i z=>(nomatch z),fun le h=>?_⟩⟩
   ·rw [ev] at h;obtain ⟨ds,hd,h⟩:=oL h;split at h
    ·rename_i hl;cases h;exact rh (oa _ _ ds le hd).1 hl
    ·cases h
   ·unfold evI at h;obtain ⟨ds,hd,h⟩:=oL h;split at h
    ·rename_i hl;cases h;exact rB (rh (oa _ _ _ le hd).1 hl)
    ·cases h
   ·unfold evV at h;dsimp only at h;obtain ⟨ds,hd,h⟩:=oL h;split at h
    ·rename_i hl;cases h;have:=zN (pos:=‹Pos›) (oa _ _ ds le hd).1 hl;exact ⟨fun d hd=>by cases hd;exact this.de,fun c hc=>by cases hc;exact this.x,by intro d z;cases z⟩
    ·cases h
 ·
  split at h
  ·split at h
   ·skip
    cases h;refine ⟨rfl,(fun z=>nomatch z),⟨fun le h=>?_,fun le h=>(by unfold evT at h;cases h),fun le _ h=>(by unfold evI at h;cases h),fun z=>(nomatch z),fun i z=>(nomatch z),fun i z=>(nomatch z),fun le h=>?_⟩⟩
    ·rw [ev] at h;cases h;exact jU.de
    ·unfold evV at h;cases h;exact ⟨fun d hd=>by cases hd;exact jU.de,fun c hc=>by cases hc;exact jU,by intro d z;cases z⟩
   ·cases h
  ·cases h
 ·
  rename_i a b _;split at h
  ·rename_i lo hi st _;split at h
   ·
    split at h
    ·rename_i x y z h1 h2 h3;cases h;obtain ⟨_,_,oa⟩:=ih.e X sc N w xe a x h1;refine ⟨rfl,(fun z=>nomatch z),OkE.of (fun le h=>?_) (fun le h=>by unfold evT at h;cases h) (fun le _ h=>by unfold evI at h;cases h) rfl fun ρ=>rfl⟩;rw [ev] at h;split at h
     ·rename_i u hu;split at h
      ·rename_i l hl;split at h
       ·rename_i v hv;have d1:=ih.o X sc N w xe lo y h2 _ _ l le hl;have d2:=ih.o X sc N w xe hi z h3 _ _ v le hv;unfold slD at h;split at h
        ·cases h;exact zH (oa.v le hu) d1 d2
        ·cases h;exact zG (oa.v le hu) d1 d2
        ·cases h
       ·cases h
      ·cases h
     ·cases h
    ·cases h
   ·cases h
  ·
   split at h
   ·rename_i x y h1 h2;split at h
    ·rename_i hs;cases h;obtain ⟨_,_,oa⟩:=ih.e X sc N w xe a x h1;obtain ⟨_,_,ob⟩:=ih.e X sc N w xe b y h2;have go:∀{ρ ρ':Rho} {u v d:D},Le ρ ρ'->ev G cl x ρ=some u->ev G cl y ρ=some v->ixD u v=some d->DE X ρ' (.Subscript a b ‹Pos›) d:=fun le hu hv hd=>Co xe.units hs (oa.v le hu) (ob.v le hv) hd;refine ⟨rfl,(fun z=>nomatch z),OkE.of (fun le h=>?_) (fun le h=>by unfold evT at h;cases h) (fun le _ h=>?_) rfl fun ρ=>rfl⟩
     ·rw [ev] at h;obtain ⟨u,hu,h⟩:=oD h;obtain ⟨v,hv,h⟩:=oD h;exact go le hu hv h
     ·unfold evI at h;obtain ⟨u,hu,h⟩:=oD h;obtain ⟨v,hv,h⟩:=oD h;obtain ⟨d,hd,h⟩:=oD h;exact jh (go le hu hv hd) h
    ·cases h
   ·cases h
 ·
  rename_i a f _;split at h
  ·rename_i hb;cases hq:cE n sc N a with
   |none=>rw [hq] at h;cases h
   |some x=>
    rw [hq] at h;cases h;obtain ⟨_,_,oa⟩:=ih.e X sc N w xe a x hq;have go:∀{ρ ρ':Rho} {u d:D},Le ρ ρ'->ev G cl x ρ=some u->bo G u f=some d->DE X ρ' (.Attribute a f ‹Pos›) d:=fun {ρ ρ' u d} le hu hd=>by
     have hK:=xe.K_;subst hK;unfold bo at hd;split at hd
     ·split at hd
      ·rename_i hf;exact zr (oa.v le hu) (R.fok _ _ hf).1 (R.fok _ _ hf).2 hd (jP hb)
      ·cases hd
     ·cases hd
    refine ⟨rfl,(fun z=>nomatch z),OkE.of (fun le h=>?_) (fun le h=>by unfold evT at h;cases h) (fun le _ h=>?_) rfl fun ρ=>rfl⟩
    ·rw [ev] at h;obtain ⟨u,hu,h⟩:=oD h;exact go le hu h
    ·unfold evI at h;obtain ⟨u,hu,h⟩:=oD h;obtain ⟨d,hd,h⟩:=oD h;exact jh (go le hu hd) h
  ·cases h
 ·
  rename_i f args ks cp;split at h
  ·split at h
   ·rename_i x p';split at h
    ·rename_i hn;simp only [Bool.and_eq_true] at hn;obtain ⟨⟨hn1,hg⟩,_⟩:=hn;split at h
     ·rename_i ces hq;obtain ⟨ss,oa⟩:=ih.a X sc N w xe args ces hq;split at h
      ·rename_i b hb;cases h;have vb:∀{ρ ρ':Rho} {d:D},Le ρ ρ'->ev G cl (.blt b ces) ρ=some d->DE X ρ' (.Call (.Name x p') args [] cp) d:=by
        intro ρ ρ' d le h;rw [ev] at h;split at h
        ·rename_i ds hd;obtain ⟨a1,a2,a3⟩:=oa _ _ ds le hd;split at h
         ·split at h
          ·split at h
           ·rename_i d0 xs hs;cases h
            match args,a2,a1,ss with
            |[e0],_,a1,ss=>exact (oG R xe hb hg a1 (ss e0 (by simp)) hs).de
           ·cases h
          ·cases h
         ·split at h
          ·split at h
           ·rename_i es hs;cases h
            match args,a2,a1,ss with
            |[e0],_,a1,ss=>exact (n_ R xe hb hg a1 (ss e0 (by simp)) hs).de
           ·cases h
          ·cases h
         ·exact qH R xe hb hg a1 a2 ss h
        ·cases h
       refine ⟨rfl,(fun z=>nomatch z),⟨vb,fun le h=>?_,fun le ht h=>?_,fun z=>(nomatch z),fun i z=>(nomatch z),fun i z=>(nomatch z),fun {ρ ρ' r} le h=>?_⟩⟩
       ·unfold evT at h;obtain ⟨ds,hd,h⟩:=oL h;split at h
        ·rename_i q hq;cases h;obtain ⟨a1,a2,a3⟩:=oa _ _ ds le hd;exact gI (qH R xe hb hg a1 a2 ss hq)
        ·cases h
       ·unfold evI at h;obtain ⟨ds,hd,h⟩:=oL h;obtain ⟨its,hi,h⟩:=oL h;cases h;obtain ⟨a1,a2,a3⟩:=oa _ _ ds le hd;exact y9 R xe ht hb hg a1 a2 ss hi
       ·have dflt:(evV G cl (.blt b ces) ρ=match ev G cl (.blt b ces) ρ with|some d=>some (.ok d)|none=>none)->(∀d,r.val=some d->DE X ρ' (.Call (.Name x p') args [] cp) d)∧(∀c,r=.fr c->DFx X ρ' (.Call (.Name x p') args [] cp) c)∧(∀d,r=.xc d->DEX X ρ' (.Call (.Name x p') args [] cp) d):=by
         intro q;rw [q] at h;obtain ⟨d,hd,h⟩:=oD h;cases h;exact ⟨fun d' hd'=>by cases hd';exact vb le hd,(by intro c z;cases z),by intro d z;cases z⟩
        cases b with
        |list=>
         unfold evV at h;dsimp only at h;split at h
         ·rename_i xs hx;cases h;refine ⟨fun d' hd'=>by cases hd';exact vb le hx,fun c hc=>?_,by intro d z;cases z⟩;cases hc;rw [ev] at hx;split at hx
          ·rename_i ds hd;obtain ⟨a1,a2,a3⟩:=oa _ _ ds le hd;dsimp only at hx;split at hx
           ·split at hx
            ·rename_i d0 ys hs;cases hx
             match args,a2,a1,ss with
             |[e0],_,a1,ss=>exact (oG R xe hb hg a1 (ss e0 (by simp)) hs).x
            ·cases hx
           ·cases hx
          ·cases hx
         ·cases h
        |dict=>
         unfold evV at h;dsimp only at h;split at h
         ·rename_i xs hx;cases h;refine ⟨fun d' hd'=>by cases hd';exact vb le hx,fun c hc=>?_,by intro d z;cases z⟩;cases hc;rw [ev] at hx;obtain ⟨ds,hd,hx⟩:=oL hx;obtain ⟨a1,a2,a3⟩:=oa _ _ ds le hd;dsimp only at hx;split at hx
          ·split at hx
           ·rename_i es hs;cases hx
            match args,a2,a1,ss with
            |[e0],_,a1,ss=>exact n_ R xe hb hg a1 (ss e0 (by simp)) hs
           ·cases hx
          ·cases hx
         ·cases h
        |len=>exact dflt rfl
        |sum=>exact dflt rfl
        |all=>exact dflt rfl
        |any=>exact dflt rfl
        |abs=>exact dflt rfl
        |int=>exact dflt rfl
        |tuple=>exact dflt rfl
        |min=>exact dflt rfl
        |max=>exact dflt rfl
        |isin=>exact dflt rfl
        |range=>exact dflt rfl
        |zip=>exact dflt rfl
        |enum=>exact dflt rfl
        |str=>exact dflt rfl
        |sorted=>exact dflt rfl
      ·cases h;have go:∀{ρ ρ':Rho} {ds:List D} {r:Rs},Le ρ ρ'->evA G cl ces ρ=some ds->fnR G cl x ds=some r->(∀d,r.val=some d->DE X ρ' (.Call (.Name x p') args [] cp) d)∧(∀c,r=.fr c->DFx X ρ' (.Call (.Name x p') args [] cp) c)∧(∀d,r=.xc d->DEX X ρ' (.Call (.Name x p') args [] cp) d):=fun le hd hr=>by
        obtain ⟨a1,a2,a3⟩:=oa _ _ _ le hd;exact Cd R C hk xe hn1 hg a1 a2 ss hr
       refine ⟨rfl,(fun z=>nomatch z),⟨fun le h=>?_,fun le h=>?_,fun le ht h=>?_,fun z=>(nomatch z),fun i z=>(nomatch z),fun i z=>(nomatch z),fun {ρ ρ' r} le h=>?_⟩⟩
       ·rw [ev] at h;obtain ⟨ds,hd,h⟩:=oL h;split at h
        ·rename_i r hr;exact (go le hd hr).1 _ h
        ·cases h
       ·unfold evT at h;obtain ⟨ds,hd,h⟩:=oL h;split at h
        ·rename_i q hr;cases h;exact gI ((go le hd hr).1 _ rfl)
        ·cases h
       ·unfold evI at h;obtain ⟨ds,hd,h⟩:=oL h;split at h
        ·rename_i r hr;obtain ⟨d,hv,h⟩:=oD h;exact jh ((go le hd hr).1 _ hv) h
        ·cases h
       ·unfold evV at h;dsimp only at h;obtain ⟨ds,hd,h⟩:=oL h;exact go le hd h
     ·cases h
    ·cases h
   ·rename_i o m ap;split at h
    ·rename_i hn;simp only [Bool.and_eq_true,decide_eq_true_eq] at hn;obtain ⟨⟨hb,h30⟩,hp⟩:=hn;split at h
     ·rename_i x ces h1 h2;cases h;obtain ⟨_,_,oo⟩:=ih.e X sc N w xe o x h1;obtain ⟨ss,oa⟩:=ih.a X sc N w xe args ces h2;have go:∀{ρ ρ':Rho} {u:D} {ds:List D} {r:Rs},Le ρ ρ'->ev G cl x ρ=some u->evA G cl ces ρ=some ds->aF G cl u m ds=some r->(∀d,r.val=some d->DE X ρ' (.Call (.Attribute o m ap) args [] cp) d)∧(∀c,r=.fr c->DFx X ρ' (.Call (.Attribute o m ap) args [] cp) c)∧(∀d,r=.xc d->DEX X ρ' (.Call (.Attribute o m ap) args [] cp) d):=fun le hu hd hr=>by
       obtain ⟨a1,a2,a3⟩:=oa _ _ _ le hd;exact AH R C hk xe hb h30 hp (oo.v le hu) a1 a3 a2 ss hr
      refine ⟨rfl,(fun z=>nomatch z),⟨fun le h=>?_,fun le h=>?_,fun le ht h=>?_,fun z=>(nomatch z),fun i z=>(nomatch z),fun i z=>(nomatch z),fun {ρ ρ' r} le h=>?_⟩⟩
      ·rw [ev] at h;obtain ⟨u,hu,h⟩:=oD h;obtain ⟨ds,hd,h⟩:=oL h;split at h
       ·rename_i r hr;exact (go le hu hd hr).1 _ h
       ·cases h
      ·unfold evT at h;obtain ⟨u,hu,h⟩:=oD h;obtain ⟨ds,hd,h⟩:=oL h;split at h
       ·rename_i q hr;cases h;exact gI ((go le hu hd hr).1 _ rfl)
       ·cases h
      ·unfold evI at h;obtain ⟨u,hu,h⟩:=oD h;obtain ⟨ds,hd,h⟩:=oL h;split at h
       ·rename_i r hr;obtain ⟨d,hv,h⟩:=oD h;exact jh ((go le hu hd hr).1 _ hv) h
       ·cases h
      ·unfold evV at h;dsimp only at h;obtain ⟨u,hu,h⟩:=oD h;obtain ⟨ds,hd,h⟩:=oL h;exact go le hu hd h
     ·cases h
    ·cases h
   ·cases h
  ·cases h
 ·
  rename_i elt gs scope _;split at h
  ·rename_i tg it ifs gens;split at h
   ·rename_i hn;simp only [Bool.and_eq_true] at hn;split at h
    ·rename_i t i c b h1 h2 h3 h4;cases h;have go:=fun {ρ ρ':Rho} {d:D} (le:Le ρ ρ') (h:ev G cl (.comp (ownOf scope).length ((aL scope N).map (·.2)) t i c b) ρ=some d)=>wK (pos:=‹Pos›) ih xe hn.1 hn.2 h1 h2 h3 h4 le h;have hcx:∀{ρ ρ':Rho} {r:Rs},Le ρ ρ'->evV G cl (.comp (ownOf scope).length ((aL scope N).map (·.2)) t i c b) ρ=some r->∃c,r=.fr c∧DCx X ρ' (.ListComp elt (⟨tg,it,ifs,0⟩::gens) scope ‹Pos›) c:=fun {ρ ρ' r} le h=>by
      unfold evV at h;dsimp only at h;split at h
      ·rename_i xs hx;cases h;obtain ⟨ys,e,dc⟩:=go le hx;cases e;exact ⟨_,rfl,dc.cx⟩
      ·cases h
     refine ⟨rfl,(fun z=>nomatch z),⟨fun le h=>?_,fun le h=>(by unfold evT at h;cases h),fun le ht h=>(by unfold evI at h;cases h),fun _ le h=>hcx le h,fun i z=>(nomatch z),fun i z=>(nomatch z),fun {ρ ρ' r} le h=>?_⟩⟩
     ·obtain ⟨xs,rfl,dc⟩:=go le h;exact dc.de
     ·obtain ⟨c',rfl,dc⟩:=hcx le h;exact ⟨fun d hd=>by cases hd;exact dc.pe.de,fun c hc=>by cases hc;exact dc.pe,by intro d z;cases z⟩
    ·cases h
   ·cases h
  ·cases h
 ·
  rename_i kx vx gs scope _;split at h
  ·rename_i tg it;split at h
   ·rename_i hn;simp only [Bool.and_eq_true] at hn;split at h
    ·rename_i t i kk vv h1 h2 h3 h4;cases h;have go:=fun {ρ ρ':Rho} {d:D} (le:Le ρ ρ') (h:ev G cl (.bN (ownOf scope).length ((aL scope N).map (·.2)) t i kk vv) ρ=some d)=>tY (pos:=‹Pos›) ih xe hn.1 hn.2 h1 h2 h3 h4 le h;have hcx:∀{ρ ρ':Rho} {r:Rs},Le ρ ρ'->evV G cl (.bN (ownOf scope).length ((aL scope N).map (·.2)) t i kk vv) ρ=some r->∃c,r=.fr c∧DCx X ρ' (.DictComp kx vx [⟨tg,it,[],0⟩] scope ‹Pos›) c:=fun {ρ ρ' r} le h=>by
      unfold evV at h;dsimp only at h;split at h
      ·rename_i es hx;cases h;obtain ⟨ys,e,dc⟩:=go le hx;cases e;exact ⟨_,rfl,dc⟩
      ·cases h
     refine ⟨rfl,(fun z=>nomatch z),⟨fun le h=>?_,fun le h=>(by unfold evT at h;cases h),fun le ht h=>(by unfold evI at h;cases h),fun _ le h=>hcx le h,fun i z=>(nomatch z),fun i z=>(nomatch z),fun {ρ ρ' r} le h=>?_⟩⟩
     ·obtain ⟨es,rfl,dc⟩:=go le h;exact dc.pe.de
     ·obtain ⟨c',rfl,dc⟩:=hcx le h;exact ⟨fun d hd=>by cases hd;exact dc.pe.de,fun c hc=>by cases hc;exact dc.pe,by intro d z;cases z⟩
    ·cases h
   ·cases h
  ·cases h
 ·cases h
theorem y4 (R:Row P wd K mg base G) (C:Calls P wd K mg base G kc cl) (hk:kc+2<=k):∀n,All P wd K mg base G cl k n:=by
 intro n
 induction n with
 |zero=>exact ⟨fun X sc N w xe e ce h=>(by unfold cE at h;cases h),fun X sc N w xe es ces h=>(by unfold cA at h;cases h),fun X sc N w xe op es ce h=>(by unfold cB at h;cases h),fun X sc N w xe oe ce h=>(by unfold cO at h;cases h),fun X sc N w xe ifs ce h=>(by unfold cIf at h;cases h),fun X sc N w xe gens elt ce h=>(by unfold cG at h;cases h)⟩
 |succ n ih=>
  exact ⟨fun X sc N w xe e ce h=>BW R C hk ih xe h,fun X sc N w xe es ces h=>BU ih xe h,fun X sc N w xe op es ce h=>BV ih xe h,fun X sc N w xe oe ce h ρ ρ' l le hl=>BZ ih xe h le hl,fun X sc N w xe ifs ce h ρ ρ' b le hl=>BX ih xe h le hl,
   fun X sc N w xe gens elt ce h full m hf scope pos ρ ρ' out acc le ho=>BY ih xe h hf le ho⟩
end
set_option autoImplicit true
set_option relaxedAutoImplicit true
noncomputable def tr (z dx:Addr):Sl->Sl
 |.new C _ _ fs=>.new C z dx fs
 |s=>s
noncomputable abbrev trR (z dx:Addr) (ρ:Rho):Rho:=ρ.map (tr z dx)
section
variable {z dx:Addr} {ρ:Rho}
theorem s9 {i:Nat} {d:D} (h:ρ[i]?=some (.val d)):(trR z dx ρ)[i]?=some (.val d):=by rw [List.getElem?_map,h];rfl
theorem bP {i:Nat} {c:Ow} (h:ρ[i]?=some (.owx c)):(trR z dx ρ)[i]?=some (.owx c):=by rw [List.getElem?_map,h];rfl
theorem bz:Le ρ (trR z dx ρ):=⟨by simp,fun i d h=>s9 h,fun i h=>by rw [List.getElem?_map,h];rfl⟩
theorem bJ:trR z dx (ρ.set i s)=(trR z dx ρ).set i (tr z dx s):=by unfold trR;rw [List.map_set]
theorem fq:trR z dx (ρ.modify i aC)=trR z dx ρ∨∃c,ρ[i]?=some (.owx c)∧trR z dx (ρ.modify i aC)=(trR z dx ρ).set i (.val c.D):=by
 cases h:ρ[i]? with
 |none=>
  left;rw [List.modify_eq_self (by simpa using h)]
 |some s=>
  have hi:=(Eu.mp h).1;have e:ρ.modify i aC=ρ.set i (aC s):=by
   refine List.ext_getElem? fun j=>?_;rw [List.getElem?_modify]
   by_cases hj:i=j
   ·subst hj;rw [Ew hi,h];simp
   ·rw [Ex hj];simp [hj]
  cases s with
  |owx c=>right;exact ⟨c,rfl,by rw [e,bJ];rfl⟩
  |_=>
   left;rw [e]
   congr 1
   refine List.ext_getElem? fun j=>?_
   by_cases hj:i=j
   ·subst hj;rw [Ew hi,h];rfl
   ·rw [Ex hj]
end
section
variable {X:Cx} {ρ:Rho} {e:Expr} {d:D} {i:Nat} {c c':Ow} {xs:List D} {st:Stmt} {o:Out}
theorem ar.cK {K:Frag} {H:Hp} {S:Ad} {a:Addr} {ob:HO} (cc:fv a ob) (ha:H a=some ob):∀(es:List (CT.PK×D)) {kvs:List (CT.PK×Addr×V)},(es.all fun p=>ah p.2)=true->ar K H S es kvs->ar K H (S.and a) es kvs
 |[],_,_,r=>by cases r;exact .nil
 |(k,d)::es,_,h,r=>by
  have h':ah d=true∧(es.all fun p=>ah p.2)=true:=by simpa using h
  have nk:∀k:CT.PK,ah (CT.PK.d k)=true:=by
   intro k;exact CT.PK.rec (motive_1:=fun k=>ah (CT.PK.d k)=true) (motive_2:=fun l=>aR (CT.PK.dL l)=true) (fun n=>rfl) (fun l ih=>ih) rfl (fun k l h1 h2=>by show (ah (CT.PK.d k)&&aR (CT.PK.dL l))=true;rw [h1,h2];rfl) k
  cases r with
  |cons hd kk r t=>exact .cons hd (Rds.cK cc ha _ (nk k) kk) (Rds.cK cc ha d h'.1 r) (ar.cK cc ha es h'.2 t)
theorem jK {K:Frag} {σ:L2.St} {H:Hp} {Q:VK} (hr:ρ[i]?=some (.owx c)) (hf:a8 c'=true):nD K ρ c' σ H Q->nD K (ρ.set i (.val c.D)) c' σ H Q:=fun ⟨S,ve,k⟩=>by
 obtain ⟨S',a,us,ha,cc,hS,ve'⟩:=ve.vQ hr;refine ⟨S',ve',fun a' ob H' ex hn ha' r=>k a' ob H' ex hn ha' ?_⟩;have hb:∀b,(S.and a') b->((S'.and a').and a) b:=fun b hb=>by
  rcases hb with hb|hb
  ·rcases hS b hb with z|z
   ·exact .inl (.inl z)
   ·exact .inr z
  ·exact .inl (.inr hb)
 have ha2:=ex _ _ (fun z=>z) ha;cases c' with
 |l xs=>obtain ⟨vs,q,r⟩:=r;exact ⟨vs,q,(ae.cK cc ha2 xs hf r).av fun b h=>.inl (hb b h)⟩
 |d es=>obtain ⟨ep,vs,q,r⟩:=r;exact ⟨ep,vs,q,(ar.cK cc ha2 es hf r).av fun b h=>.inl (hb b h)⟩
theorem kJ (hr:ρ[i]?=some (.owx c)) (hf:a8 c'=true) (h:DFx X (ρ.set i (.val c.D)) e c'):DFx X ρ e c':=PE.weak h fun σ H Q=>jK hr hf
theorem qZ (hr:ρ[i]?=some (.owx c)) (hf:a8 c'=true) (h:DCx X (ρ.set i (.val c.D)) e c'):DCx X ρ e c':=
 ⟨kJ hr hf h.pe,fun j x pos' spos hN hix hx hl hsw=>PS.weak (h.ps j x pos' spos hN hix hx hl hsw) fun D σ H q=>jK (Q:=fun x H1=>dR j x σ H1 D.nx) hr hf q⟩
theorem xt (hr:ρ[i]?=some (.owx c)) (h:DS X (ρ.set i (.val c.D)) st o):DS X ρ st o:=PS.weak h fun E σ H ⟨H₀,S₀,S,f,k⟩=>by
 obtain ⟨S',_,f'⟩:=f.give hr;exact ⟨H₀,S₀,S',f',k⟩
variable {z dx:Addr}
theorem aS:∀{L:List Nat} {ρ:Rho},DS X (trR z dx (af L ρ)) st o->DS X (trR z dx ρ) st o
 |[],_,h=>h
 |i::L,ρ,h=>by
  have h':=aS (L:=L) (ρ:=ρ.modify i aC) h;rcases fq (z:=z) (dx:=dx) (ρ:=ρ) (i:=i) with e|⟨c,hc,e⟩
  ·rw [e] at h';exact h'
  ·rw [e] at h';exact xt (bP hc) h'
theorem bu (hn:ah d=true):∀{L:List Nat} {ρ:Rho},DE X (trR z dx (af L ρ)) e d->DE X (trR z dx ρ) e d
 |[],_,h=>h
 |i::L,ρ,h=>by
  have h':=bu hn (L:=L) (ρ:=ρ.modify i aC) h;rcases fq (z:=z) (dx:=dx) (ρ:=ρ) (i:=i) with e|⟨c,hc,e⟩
  ·rw [e] at h';exact h'
  ·rw [e] at h';exact ud (bP hc) hn h'
theorem gG (hn:a8 c'=true):∀{L:List Nat} {ρ:Rho},DFx X (trR z dx (af L ρ)) e c'->DFx X (trR z dx ρ) e c'
 |[],_,h=>h
 |i::L,ρ,h=>by
  have h':=gG hn (L:=L) (ρ:=ρ.modify i aC) h;rcases fq (z:=z) (dx:=dx) (ρ:=ρ) (i:=i) with e|⟨c,hc,e⟩
  ·rw [e] at h';exact h'
  ·rw [e] at h';exact kJ (bP hc) hn h'
theorem kI (hn:a8 c'=true):∀{L:List Nat} {ρ:Rho},DCx X (trR z dx (af L ρ)) e c'->DCx X (trR z dx ρ) e c'
 |[],_,h=>h
 |i::L,ρ,h=>by
  have h':=kI hn (L:=L) (ρ:=ρ.modify i aC) h;rcases fq (z:=z) (dx:=dx) (ρ:=ρ) (i:=i) with e|⟨c,hc,e⟩
  ·rw [e] at h';exact h'
  ·rw [e] at h';exact qZ (bP hc) hn h'
theorem fG {q:Bool}:∀{L:List Nat} {ρ:Rho},DT X (trR z dx (af L ρ)) e q->DT X (trR z dx ρ) e q
 |[],_,h=>h
 |i::L,ρ,h=>by
  have h':=fG (L:=L) (ρ:=ρ.modify i aC) h;rcases fq (z:=z) (dx:=dx) (ρ:=ρ) (i:=i) with e|⟨c,hc,e⟩
  ·rw [e] at h';exact h'
  ·rw [e] at h';exact xD (bP hc) h'
theorem kO:∀{L:List Nat} {ρ:Rho} {j:Nat},ρ[j]?=some (.new C a b fs)->(af L ρ)[j]?=some (.new C a b fs)
 |[],_,_,h=>h
 |i::L,ρ,j,h=>by
  refine kO (L:=L) (ρ:=ρ.modify i aC) ?_;rw [List.getElem?_modify,h]
  split<;>rfl
end
set_option autoImplicit true
set_option relaxedAutoImplicit true
section
variable {X:Cx} {ρ ρ':Rho} {e tg:Expr} {d:D} {pos:Pos} {ks:List Nat}
theorem og (he:DE X ρ e d) (hg:DG X tg ρ d ρ' ks) (ht:cy ρ ρ' ks) (hs:swapsWithSole [tg] e pos.line X.env=pure false) (hw:swappedStores [tg] e X.env=pure none) (h1:(assignEach [tg] X.env).map (·.2)=[assign tg X.env]):
  DS X ρ (.Assign [tg] e pos) (.nx ρ'):=PS.weak (Bc he hg hs hw h1) fun E σ H ⟨H₀,S₀,S,f,k⟩=>⟨S,f.ve,fun v H' ex r=>⟨S,(f.grow ex).ve,r,fun σ' ve' c=>k σ' H' S ((f.grow ex).tgt ve' c ht)⟩⟩
theorem rJ {kt k2 pt2} (hc:X.calm=true) (hN:X.N.Nodup) (hi:X.N[i]?=some x) (hj:X.N[j]?=some y) (hij:i≠j)
  (hx:X.env.scope.names.lookup x=some .local) (hy:X.env.scope.names.lookup y=some .local) (ha:DA X ρ [a,b] [da,db])
  (hw:swappedStores [.Tuple [.Name x px,.Name y py] kt pt] (.Tuple [a,b] k2 pt2) X.env=pure (some [x,y])):
  DS X ρ (.Assign [.Tuple [.Name x px,.Name y py] kt pt] (.Tuple [a,b] k2 pt2) pos) (.nx ((ρ.set i (.val da)).set j (.val db))):=
 PS.weak (Bg hc hN hi hj hij hx hy ha hw) fun E σ H ⟨H₀,S₀,S,f,k⟩=>⟨S,f.ve,fun vs H' ex rs=>by
  obtain ⟨v,u,rfl,r1,r2⟩:=rs.two;exact ⟨v,u,rfl,k _ H' S (((f.grow ex).set r1).set r2)⟩⟩
theorem ae.put {K:Frag} {H:Hp} {S:Ad}:∀{xs:List D} {vs:List V} {d:D} {v:V} (j:Nat),ae K H S xs vs->Rds K H S d v->ae K H S (xs.set j d) (vs.set j v)
 |_,_,_,_,_,.nil,_=>.nil
 |_,_,_,_,0,.cons _ t,r=>.cons r t
 |_,_,_,_,j+1,.cons h t,r=>.cons h (ae.put j t r)
theorem yy {o i value:Expr} {td ty tv:TE} {pos':Pos} (ho:PE X o td) (hi:PE X i ty) (hv:PE X value tv) (hs:swapsWith value (some (.Subscript o i pos')) pos.line X.env=pure false):
  PS X (.Assign [.Subscript o i pos'] value pos) (fun D σ H=>tv σ H fun v H1=>td σ H1 fun x H2=>ty σ H2 fun y H3=>wg x y v H3 fun H4=>D.nx σ H4):=by
 intro pins s σ H D I h;refine wpAny_Assign_Subscript (thn (hv pins s σ H _ I h) fun r s1 ⟨v,H1,I1,rv,q1⟩=>thn (ho pins s1 σ H1 _ I1 q1) fun u s2 ⟨x,H2,I2,rx,q2⟩=>thn (hi pins s2 σ H2 _ I2 q2) fun iv s3 zz=>?_) hs;obtain ⟨y,H3,I3,ry,q3⟩:=zz;exact thn (set_list pins s3 σ H3 x y v u iv r _ I3 rx ry rv q3) fun _ s4 ⟨H4,I4,q4⟩=>⟨σ,H4,I4,q4⟩
theorem oj (hN:X.N[n]?=some x) (hv:Vis X.env.scope x) (hr:ρ[n]?=some (.owx (.l xs))) (hi:DE X ρ i (.int j)) (he:DE X ρ value d) (hj:0<=j∧j.toNat<xs.length)
  (hs:swapsWith value (some (.Subscript (.Name x p) i pos')) pos.line X.env=pure false) (hd:(x==("__debug__":Str))=false) (hcd:(x==("__classdict__":Str))=false):
  DS X ρ (.Assign [.Subscript (.Name x p) i pos'] value pos) (.nx (ρ.set n (.owx (.l (xs.set j.toNat d))))):=
 PS.weak (yy (eB hN hv hd hcd) hi he hs) fun E σ H ⟨H₀,S₀,S,f,k⟩=>⟨S,f.ve,fun v H1 ex r=>by
  have f1:=f.grow ex;obtain ⟨w,h1,a,_,rfl,sa,ha,vs,rfl,rp⟩:=f1.ve.rel n _ hr;refine ⟨_,h1,S,f1.ve,fun y H2 e2 r2=>?_⟩;cases r2;refine ⟨a,vs,j,j.toNat,rfl,rfl,e2 _ _ (fun z=>z) ha,?_,k _ _ S ((f1.grow e2).sS hr h1 (ae.put _ (rp.ext (e2.to S)) (r.ext (e2.to S))))⟩;have hl:=rp.length;unfold ixN;simp only [hj.1,if_true];rw [if_pos (by omega)]⟩
theorem Fm.move {K:Frag} {H₀ H:Hp} {S₀ S:Ad} {σ:L2.St} {i j:Nat} {c:Ow} {a:Addr} (f:Fm K H₀ S₀ H S ρ σ) (hij:i≠j) (hr:ρ[i]?=some (.owx c)) (hs:σ[i]?=some (some (.ref a))):Fm K H₀ S₀ H S ((ρ.set i .any).set j (.owx c)) (σ.set j (some (.ref a))):=by
 have key:∀(m:Nat) (x:Sl),((ρ.set i .any).set j (.owx c))[m]?=some x->(j=m∧x=.owx c∧j<ρ.length)∨(j≠m∧i=m∧x=.any)∨(j≠m∧i≠m∧ρ[m]?=some x):=fun m x h=>by
  by_cases hm:j=m
  ·subst hm;have hj:j<ρ.length:=by have:=(Eu.mp h).1;simpa using this
   rw [Ew (by simpa using hj)] at h;exact .inl ⟨rfl,(EL h).symm,hj⟩
  ·rw [Ex hm] at h
   by_cases hi:i=m
   ·subst hi;have hi':i<ρ.length:=(Eu.mp hr).1;rw [Ew hi'] at h;exact .inr (.inl ⟨hm,rfl,(EL h).symm⟩)
   ·rw [Ex hi] at h;exact .inr (.inr ⟨hm,hi,h⟩)
 obtain ⟨v,q1,q2⟩:=f.ve.rel i _ hr;refine ⟨⟨by simpa using f.ve.len,fun m x h=>?_,fun m k x y b hmk h1 h2 o1 o2 h3 h4=>?_,f.ve.dom⟩,f.ext,f.sub,f.new,f.dm,fun m x b h o h2=>?_⟩
 ·rcases key m x h with ⟨rfl,rfl,hj⟩|⟨hm,rfl,rfl⟩|⟨hm,hi,h'⟩
  ·rw [hs] at q1;cases q1;exact ⟨_,Ew (f.ve.len▸hj),q2⟩
  ·rw [Ex hm];exact ⟨_,hs,trivial⟩
  ·rw [Ex hm];exact f.ve.rel m x h'
 ·rcases key m x h1 with ⟨rfl,rfl,hj⟩|⟨hm,rfl,rfl⟩|⟨hm,hi,h1'⟩
  ·rw [Ew (f.ve.len▸hj)] at h3;cases h3;rcases key k y h2 with ⟨rfl,_,_⟩|⟨hk,rfl,rfl⟩|⟨hk,hi,h2'⟩
   ·exact hmk rfl
   ·exact o2
   ·rw [Ex hk] at h4;exact f.ve.dist i k _ y a hi hr h2' trivial o2 hs h4
  ·exact o1
  ·rw [Ex hm] at h3;rcases key k y h2 with ⟨rfl,rfl,hj⟩|⟨hk,rfl,rfl⟩|⟨hk,hi2,h2'⟩
   ·rw [Ew (f.ve.len▸hj)] at h4;cases h4;exact f.ve.dist m i x _ a (Ne.symm hi) h1' hr o1 trivial h3 hs
   ·exact o2
   ·rw [Ex hk] at h4;exact f.ve.dist m k x y b hmk h1' h2' o1 o2 h3 h4
 ·rcases key m x h with ⟨rfl,rfl,hj⟩|⟨hm,rfl,rfl⟩|⟨hm,hi,h'⟩
  ·rw [Ew (f.ve.len▸hj)] at h2;cases h2;exact f.own i _ a hr trivial hs
  ·exact o.elim
  ·rw [Ex hm] at h2;exact f.own m x b h' o h2
theorem xw (hN:X.N.Nodup) (hi:X.N[i]?=some y) (hj:X.N[j]?=some x) (hij:i≠j) (hv:Vis X.env.scope y) (hx:L2.Loc X.env.scope x) (hf:X.fn x=true∨X.env.scope.names.lookup x=some .local) (hr:ρ[i]?=some (.owx c))
  (hd:(y==("__debug__":Str))=false) (hcd:(y==("__classdict__":Str))=false):DS X ρ (.Assign [.Name x p] (.Name y q) pos) (.nx ((ρ.set i .any).set j (.owx c))):=
 PS.weak (m9 hN hj hx (eB hi hv hd hcd) rfl hf) fun E σ H ⟨H₀,S₀,S,f,k⟩=>by
  obtain ⟨v,h1,a,o,rfl,sa,ha,r⟩:=f.ve.rel i _ hr;exact ⟨_,h1,k _ H S (Fm.move f hij hr h1)⟩
theorem cq (h:b6 e=false):swapsWith e t l env=pure false:=by
 cases e<;>first|rfl|cases h
theorem Dj (h:bw tg=true):(assignEach [tg] env).map (·.2)=[assign tg env]:=by rw [iM h];rfl
theorem AL (hsc:env.scope=sc) (h:ik sc tg e=true):swappedStores [tg] e env=pure none:=by
 unfold ik at h;split at h
 ·rename_i ts _ _ vs _ _;have h1:=(EJ.mp (EJ.mp (EJ.mp h).1).1).1;unfold swappedStores;dsimp only;split
  ·rfl
  ·split
   ·rfl
   ·have e:∀id:Str,env.kindOf id=sc.names.lookup id:=fun id=>by rw [←hsc];rfl
    simp only [e];rw [if_pos];exact Bool.or_eq_true_iff.mpr (.inl h1)
 ·rename_i ts _ _ hne;unfold swappedStores;cases e<;>first|rfl|exact absurd rfl (hne _ _ _)
 ·unfold swappedStores;cases e<;>rfl
 ·cases h
end
mutual
theorem fB:∀{t:Tg} {d:D} {ρ ρ1:Rho},ak t d ρ=some ρ1->ak t d (trR z dx ρ)=some (trR z dx ρ1)
 |.nm k,d,ρ,ρ1,h=>by
  unfold ak at h ⊢;split at h
  ·rename_i hk;cases h;rw [if_pos (by simpa using hk),bJ];rfl
  ·cases h
 |.tp ts,.tup ds,ρ,ρ1,h=>by
  unfold ak at h ⊢;exact kE h
 |.tp _,.non,_,_,h=>by unfold ak at h;cases h
 |.tp _,.bl _,_,_,h=>by unfold ak at h;cases h
 |.tp _,.int _,_,_,h=>by unfold ak at h;cases h
 |.tp _,.str _,_,_,h=>by unfold ak at h;cases h
 |.tp _,.lst _,_,_,h=>by unfold ak at h;cases h
 |.tp _,.ins _ _,_,_,h=>by unfold ak at h;cases h
 |.tp _,.exc _ _,_,_,h=>by unfold ak at h;cases h
 |.tp _,.ty _,_,_,h=>by unfold ak at h;cases h
 |.tp _,.cl _,_,_,h=>by unfold ak at h;cases h
 |.tp _,.dct _,_,_,h=>by unfold ak at h;cases h
 |.tp _,.pdc _,_,_,h=>by unfold ak at h;cases h
theorem kE:∀{ts:List Tg} {ds:List D} {ρ ρ1:Rho},aP ts ds ρ=some ρ1->aP ts ds (trR z dx ρ)=some (trR z dx ρ1)
 |[],[],ρ,ρ1,h=>by unfold aP at h ⊢;cases h;rfl
 |t::ts,d::ds,ρ,ρ1,h=>by
  unfold aP at h ⊢;split at h
  ·rename_i ρ2 h2;rw [fB h2];exact kE h
  ·cases h
 |[],_::_,_,_,h=>by unfold aP at h;cases h
 |_::_,[],_,_,h=>by unfold aP at h;cases h
end
theorem sN:∀{d:D} {k:CT.PK},b_ d=some k->ah d=true:=by
 intro d k h;have nk:∀k:CT.PK,ah (CT.PK.d k)=true:=by
  intro k;exact CT.PK.rec (motive_1:=fun k=>ah (CT.PK.d k)=true) (motive_2:=fun l=>aR (CT.PK.dL l)=true) (fun n=>rfl) (fun l ih=>ih) rfl (fun k l h1 h2=>by show (ah (CT.PK.d k)&&aR (CT.PK.dL l))=true;rw [h1,h2];rfl) k
 rw [←eC h];exact nk k
set_option autoImplicit true
set_option relaxedAutoImplicit true
noncomputable def S1 (X:Cx) (z dx:Addr) (st:Stmt) (ρ:Rho):Oc->Prop
 |.nx ρ'=>DS X (trR z dx ρ) st (.nx (trR z dx ρ'))
 |.rt d=>DS X (trR z dx ρ) st (.rt d)
 |.fr c=>DS X (trR z dx ρ) st (.rfx c)
 |.xc ρ' d=>DSX X (trR z dx ρ) st (trR z dx ρ') d
noncomputable def SS (X:Cx) (z dx:Addr) (sts:List Stmt) (ρ:Rho):Oc->Prop
 |.nx ρ'=>DSs X (trR z dx ρ) sts (.nx (trR z dx ρ'))
 |.rt d=>DSs X (trR z dx ρ) sts (.rt d)
 |.fr c=>DSs X (trR z dx ρ) sts (.rfx c)
 |.xc ρ' d=>yW X (trR z dx ρ) sts (trR z dx ρ') d
section
variable {X:Cx} {z dx:Addr} {st:Stmt} {sts:List Stmt} {ρ ρ1:Rho} {o:Oc} {L:List Nat}
theorem S1.cons (hx:∀e s,¬X.xe e s) (h1:S1 X z dx st ρ (.nx ρ1)) (h2:SS X z dx sts ρ1 o):SS X z dx (st::sts) ρ o:=by
 cases o with
 |nx ρ'=>exact iS h1 h2
 |rt d=>exact iS h1 h2
 |fr c=>exact iS h1 h2
 |xc ρ' d=>exact trivial
theorem S1.last (h1:S1 X z dx st ρ o) (hn:∀ρ',o≠.nx ρ'):SS X z dx (st::sts) ρ o:=by
 cases o with
 |nx ρ'=>exact absurd rfl (hn ρ')
 |rt d=>exact oq h1 trivial
 |fr c=>exact oq h1 trivial
 |xc ρ' d=>exact trivial
theorem S1.give (h:S1 X z dx st (af L ρ) o):S1 X z dx st ρ o:=by
 cases o with
 |nx ρ'=>exact aS h
 |rt d=>exact aS h
 |fr c=>exact aS h
 |xc ρ' d=>exact trivial
end
section
variable {ca:Bool} {P:Program} {wd:World} {K:Frag} {mg:Str->Option Value} {base:Heap} {G:Prg} {cl:Str->List D->Option Rs} {k kc n:Nat} {X:Cx} {sc:Scope} {N:List Str} {w:Nat} {ce:CE} {z dx:Addr} {ρ:Rho} {pos:Pos}
theorem lZ (h:cTg sc N n tg=some (.nm i)):∃x p,tg=.Name x p∧idx N x=some i∧cD x=true∧p6 sc x=true:=by
 cases n with
 |zero=>unfold cTg at h;cases h
 |succ n=>
  unfold cTg at h;split at h
  ·rename_i x p;split at h
   ·rename_i hx;simp only [Bool.and_eq_true] at hx;cases hi:idx N x with
    |none=>rw [hi] at h;cases h
    |some j=>rw [hi] at h;cases h;exact ⟨x,p,rfl,hi,hx.1,hx.2⟩
   ·cases h
  ·split at h
   ·cases hq:d5 sc N n ‹_› with
    |none=>rw [hq] at h;cases h
    |some ts=>rw [hq] at h;cases h
   ·cases h
  ·cases h
theorem XE.lt (xe:XE ca P wd K mg base X sc N w k) (h:idx N x=some i):i<N.length:=by
 have:=xe.at h;rw [xe.N_] at this;exact (Eu.mp this).1
theorem XE.fnx (xe:XE ca P wd K mg base X sc N N.length k) (h:idx N x=some i):X.fn x=true:=by
 have:=xe.at h;rw [xe.N_] at this;exact xe.fn i x (xe.lt h) this
theorem XE.ndX (xe:XE ca P wd K mg base X sc N w k):X.N.Nodup:=by rw [xe.N_];exact xe.nd
mutual
theorem nE:∀{n:Nat} {tg:Expr} {t:Tg},(∀x i,idx N x=some i->i<N.length)->cTg sc N n tg=some t->∀j∈tks t,j<N.length
 |0,_,_,_,h=>by unfold cTg at h;cases h
 |n+1,tg,t,lt,h=>by
  unfold cTg at h;split at h
  ·rename_i x p;split at h
   ·cases hi:idx N x with
    |none=>rw [hi] at h;cases h
    |some i=>rw [hi] at h;cases h;intro j hj;rw [Et.mp (show j∈[i] from hj)];exact lt x i hi
   ·cases h
  ·rename_i es _ _;split at h
   ·cases hq:d5 sc N n es with
    |none=>rw [hq] at h;cases h
    |some ts=>rw [hq] at h;cases h;exact fun j hj=>o8 lt hq j hj
   ·cases h
  ·cases h
theorem o8:∀{n:Nat} {tgs:List Expr} {ts:List Tg},(∀x i,idx N x=some i->i<N.length)->d5 sc N n tgs=some ts->∀j∈dO ts,j<N.length
 |0,_,_,_,h=>by unfold d5 at h;cases h
 |n+1,tgs,ts,lt,h=>by
  unfold d5 at h;split at h
  ·cases h;intro j hj;cases hj
  ·split at h
   ·rename_i t ts' h1 h2;cases h;intro j hj;rcases Ep.mp (show j∈tks t++dO ts' from hj) with q|q
    ·exact nE lt h1 j q
    ·exact o8 lt h2 j q
   ·cases h
end
theorem y6 (xe:XE true P wd K mg base X sc N N.length k) (hm:∃n,cTg sc N n tg=some t) (oe:OkE G cl X e ce) (hsw:ik sc tg e=true) (hcm:(!b6 e||!r_ tg)=true) (h:aa G cl (.asg t ce L) ρ=some o):
  S1 X z dx (.Assign [tg] e pos) ρ o:=by
 obtain ⟨m,hm⟩:=hm;obtain ⟨ns,tok⟩:=(jL xe m).1 tg t hm;have lt:=nE (N:=N) (fun x i h=>xe.lt h) hm;have hw:=AL xe.sc_ hsw;have h1:=Dj (env:=X.env) ns;rw [aa] at h;cases hv:evV G cl ce (af L ρ) with
 |none=>rw [hv] at h;cases h
 |some r=>
  rw [hv] at h;obtain ⟨w1,w2,w3⟩:=oe.w (ρ':=trR z dx (af L ρ)) bz hv;cases hc:b6 e with
  |false=>
   have hs:swapsWithSole [tg] e pos.line X.env=pure false:=cq hc;cases r with
   |ok d=>
    dsimp only at h;split at h
    ·rename_i ρ' hb;cases h;cases hn:ah d with
     |true=>
      rw [hn] at hb;obtain ⟨g1,g2⟩:=tok _ d _ (fB (z:=z) (dx:=dx) hb) lt;exact og (bu hn (w1 d rfl)) g1 g2 hs hw h1
     |false=>
      rw [hn] at hb;obtain ⟨g1,g2⟩:=tok _ d _ (fB (z:=z) (dx:=dx) hb) lt;exact aS (og (w1 d rfl) g1 g2 hs hw h1)
    ·cases h
   |fr c=>
    dsimp only at h;split at h
    ·rename_i i;split at h
     ·cases h;obtain ⟨x,p,rfl,hi,hok,hl⟩:=lZ hm;show DS X _ _ (.nx (trR z dx _));rw [bJ];cases hn:a8 c with
      |true=>exact iR xe.ndX (xe.at hi) (xe.loc hl) (gG hn (w2 c rfl)) (cq hc) (.inl (xe.fnx hi))
      |false=>exact aS (iR xe.ndX (xe.at hi) (xe.loc hl) (w2 c rfl) (cq hc) (.inl (xe.fnx hi)))
     ·cases h
    ·cases h
   |xc d=>
    cases h;exact trivial
  |true=>
   obtain ⟨c,rfl,dc⟩:=oe.c (ρ':=trR z dx (af L ρ)) hc bz hv;dsimp only at h;split at h
   ·rename_i i;split at h
    ·cases h;obtain ⟨x,p,rfl,hi,hok,hl⟩:=lZ hm;show DS X _ _ (.nx (trR z dx _));rw [bJ];obtain ⟨bb,hbb⟩:∃bb,swapsWith e (some (.Name x p)) pos.line X.env=pure bb:=by
      cases e<;>first|(cases hc;done)|exact ⟨_,rfl⟩
     have key:∀{ρ0:Rho},DCx X (trR z dx ρ0) e c->DS X (trR z dx ρ0) (.Assign [.Name x p] e pos) (.nx ((trR z dx ρ0).set i (.owx c))):=fun {ρ0} dc=>by
      cases bb with
      |true=>exact uo xe.ndX (xe.at hi) (xe.loc hl) dc hbb (.inl (xe.fnx hi))
      |false=>exact iR xe.ndX (xe.at hi) (xe.loc hl) dc.pe hbb (.inl (xe.fnx hi))
     cases hn:a8 c with
     |true=>exact key (kI hn dc)
     |false=>exact aS (key dc)
    ·cases h
   ·cases h
end
set_option autoImplicit true
set_option relaxedAutoImplicit true
structure XF (P:Program) (wd:World) (K:Frag) (mg:Str->Option Value) (base:Heap) (X:Cx) (sc:Scope) (N:List Str) (k:Nat):Prop where
 xe:XE true P wd K mg base X sc N N.length k
 pass:PassesOwn (model X.prog X.w) X.A X.env X.xe
 hst:X.stack=X.env::X.outer
 hfr:X.env.frame=some X.env.locals
 blk:X.env.blockKind=.function
noncomputable def B_:CS'->Bool
 |.asg _ _ _=>false|.ife _ _ _ _=>false|.for _ _ _ _=>false|.whl _ _ _=>false|.try _ _ _ _=>false
 |_=>true
theorem bE (h:s'=er1 s) (hf:B_ s'=true):s=s':=by
 subst h;cases s<;>first|(unfold er1;rfl)|(unfold er1 at hf;cases hf)
theorem z8 {t e L} (h:CS'.asg t e L=er1 s):s=.asg t e L∨∃j i,s=.mov j i∧t=.nm j∧e=.var i:=by
 cases s<;>first|(unfold er1 at h;cases h;done)|(unfold er1 at h;cases h;exact .inl rfl)|(unfold er1 at h;cases h;exact .inr ⟨_,_,rfl,rfl,rfl⟩)
theorem B9 {c L a b} (h:CS'.ife c L a b=er1 s):∃a' b',s=.ife c L a' b'∧erL a'=a∧erL b'=b:=by
 cases s<;>first|(unfold er1 at h;cases h;done)|(unfold er1 at h;cases h;exact ⟨_,_,rfl,rfl,rfl⟩)
theorem z9 {t it L b} (h:CS'.for t it L b=er1 s):∃b',s=.for t it L b'∧erL b'=b:=by
 cases s<;>first|(unfold er1 at h;cases h;done)|(unfold er1 at h;cases h;exact ⟨_,rfl,rfl⟩)
theorem z_ {c L b} (h:CS'.whl c L b=er1 s):∃b',s=.whl c L b'∧erL b'=b:=by
 cases s<;>first|(unfold er1 at h;cases h;done)|(unfold er1 at h;cases h;exact ⟨_,rfl,rfl⟩)
theorem gW (h:nmV e=some (x,p)):e=.Name x p:=by
 unfold nmV at h;split at h
 ·cases h;rfl
 ·cases h
theorem yS (h:gb e=some (a,b)):∃k p,e=.Tuple [a,b] k p:=by
 unfold gb at h;split at h
 ·split at h
  ·cases h;exact ⟨_,_,rfl⟩
  ·cases h
 ·cases h
theorem yd (h:uR es e=some ((x,px),(y,py),a,b)):es=[.Name x px,.Name y py]∧∃k p,e=.Tuple [a,b] k p:=by
 unfold uR at h;split at h
 ·split at h
  ·rename_i h1 h2 h3;cases h;rw [gW h1,gW h2];exact ⟨rfl,yS h3⟩
  ·cases h
 ·cases h
theorem yJ (h:vf o=some (x,args)):∃p1 p2,o=some (.Call (.Name x p1) args [] p2):=by
 unfold vf at h;split at h
 ·split at h
  ·split at h
   ·split at h
    ·rename_i h1;cases h;rw [gW h1];exact ⟨_,_,rfl⟩
    ·cases h
   ·cases h
  ·cases h
 ·cases h
structure yV (G:Prg) (cl:Str->List D->Option Rs) (X:Cx) (sc:Scope) (N:List Str) (z dx:Addr) (n:Nat):Prop where
 s:∀st s,cS1 n sc N st=some (er1 s)->∀ρ o,aa G cl s ρ=some o->S1 X z dx st ρ o
 b:∀sts b,cS n sc N sts=some (erL b)->∀ρ o,run G cl b ρ=some o->SS X z dx sts ρ o
section
variable {ca:Bool} {P:Program} {wd:World} {K:Frag} {mg:Str->Option Value} {base:Heap} {G:Prg} {cl:Str->List D->Option Rs} {k kc n:Nat} {X:Cx} {sc:Scope} {N:List Str} {w:Nat} {ce:CE} {z dx:Addr} {ρ:Rho} {pos:Pos}
theorem vg (h:run G cl (s::r) ρ=some o):(∃ρ1,aa G cl s ρ=some (.nx ρ1)∧run G cl r ρ1=some o)∨(aa G cl s ρ=some o∧∀ρ',o≠.nx ρ'):=by
 unfold run at h;split at h
 ·rename_i ρ1 h1;exact .inl ⟨ρ1,h1,h⟩
 ·rename_i hne;exact .inr ⟨h,fun ρ' q=>by subst q;exact hne ρ' h⟩
theorem CL (hx:∀e s,¬X.xe e s) {st:Stmt} {sts:List Stmt} {s:CS'} {r:List CS'} (h1:∀ρ o,aa G cl s ρ=some o->S1 X z dx st ρ o) (h2:∀ρ o,run G cl r ρ=some o->SS X z dx sts ρ o) {o:Oc} (h:run G cl (s::r) ρ=some o):SS X z dx (st::sts) ρ o:=by
 rcases vg h with ⟨ρ1,a,b⟩|⟨a,b⟩
 ·exact S1.cons hx (h1 _ _ a) (h2 _ _ b)
 ·exact S1.last (h1 _ _ a) b
theorem S1.if (hx:∀e s,¬X.xe e s) (hc:DT X (trR z dx ρ) c q) (ha:q=true->SS X z dx a ρ o) (hb:q=false->SS X z dx b ρ o):S1 X z dx (.If c a b pos) ρ o:=by
 cases o with
 |nx ρ'=>exact pJ hc ha hb
 |rt d=>exact pJ hc ha hb
 |fr c=>exact pJ hc ha hb
 |xc ρ' d=>exact trivial
theorem va (h:aa G cl (.ret e L) ρ=some o):(∃i c,e=.var i∧ρ[i]?=some (.owx c)∧o=.fr c)∨∃r,evV G cl e (af L ρ)=some r∧o=(match r with|.ok d=>.rt d|.fr c=>.fr c|.xc d=>.xc (af L ρ) d):=by
 unfold aa at h;split at h
 ·rename_i c hc;cases h;split at hc
  ·rename_i i;split at hc
   ·rename_i c' hq;cases hc;exact .inl ⟨i,_,rfl,hq,rfl⟩
   ·cases hc
  ·cases hc
 ·right;split at h
  ·rename_i d hd;cases h;exact ⟨_,hd,rfl⟩
  ·rename_i d hd;cases h;exact ⟨_,hd,rfl⟩
  ·rename_i d hd;cases h;exact ⟨_,hd,rfl⟩
  ·cases h
theorem mm (h:DFx X ρ e c) (hs:swapsWith e none pos.line X.env=pure false):DS X ρ (.Expr e pos) (.nx ρ):=PS.weak (ki h hs) fun E σ H ⟨H₀,S₀,S,f,k⟩=>⟨S,f.ve,fun a o H' ex hn ha r=>k σ H' S (f.grow ex)⟩
theorem rQ (oe:OkE G cl X e ce) (hc:b6 e=false) (hr:aa G cl (.exp ce L) ρ=some o):S1 X z dx (.Expr e pos) ρ o:=by
 rw [aa] at hr;cases hv:evV G cl ce (af L ρ) with
 |none=>rw [hv] at hr;cases hr
 |some r=>
  rw [hv] at hr;obtain ⟨w1,w2,w3⟩:=oe.w (ρ':=trR z dx (af L ρ)) bz hv;cases r with
  |ok d=>
   cases hr;cases hn:ah d with
   |true=>exact oh (bu hn (w1 d rfl)) (cq hc)
   |false=>exact aS (oh (w1 d rfl) (cq hc))
  |fr c=>
   cases hr;cases hn:a8 c with
   |true=>exact mm (gG hn (w2 c rfl)) (cq hc)
   |false=>exact aS (mm (w2 c rfl) (cq hc))
  |xc d=>
   cases hr;exact trivial
noncomputable def v9 (z dx:Addr):Oc->Out
 |.nx ρ=>.nx (trR z dx ρ)|.rt d=>.rt d|.fr c=>.rfx c|.xc _ _=>.rt .non
theorem rT (tok:∀ρ d ρ1,ak t d ρ=some ρ1->DG X tg ρ d ρ1 (tks t)∧cy ρ ρ1 (tks t)) (hb:∀ρ o,run G cl b ρ=some o->SS X z dx body ρ o):
  ∀(its:List D) (ρ:Rho) (o:Oc),forL t (run G cl b) its ρ=some o->((∀ρ' d,o≠.xc ρ' d)->iI X tg body its (trR z dx ρ) (v9 z dx o))∧∀ρe d,o=.xc ρe d->pd X tg body (trR z dx ρe) d its (trR z dx ρ)
 |[],ρ,o,h=>by
  unfold forL at h;cases h;exact ⟨fun _=>.nil _,fun _ _ z=>nomatch z⟩
 |d::ds,ρ,o,h=>by
  unfold forL at h;split at h
  ·rename_i ρ1 h1;obtain ⟨g1,g2⟩:=tok _ d _ (fB (z:=z) (dx:=dx) h1);split at h
   ·rename_i ρ2 h2;obtain ⟨r1,r2⟩:=rT tok hb ds ρ2 o h;have s1:DSs X (trR z dx ρ1) body (.nx (trR z dx ρ2)):=hb _ _ h2;exact ⟨fun hx=>.cons g1 g2 s1 (r1 hx),fun ρe d' z=>.cons g1 g2 s1 (r2 ρe d' z)⟩
   ·rename_i hne;have s1:=hb _ _ h;cases o with
    |nx ρ'=>exact absurd h (hne ρ')
    |rt d'=>exact ⟨fun _=>.ret g1 g2 s1 trivial,fun _ _ z=>nomatch z⟩
    |fr c=>exact ⟨fun _=>.ret g1 g2 s1 trivial,fun _ _ z=>nomatch z⟩
    |xc ρe d'=>exact ⟨fun hx=>absurd rfl (hx ρe d'),fun ρe' d'' z=>by cases z;exact .here g1 g2 s1⟩
  ·cases h
theorem tE (hc:∀ρ q,evT G cl ce (af L ρ)=some q->DT X (trR z dx ρ) c q) (hb:∀ρ o,run G cl b ρ=some o->SS X z dx body ρ o):
  ∀(m:Nat) (ρ:Rho) (o:Oc),nF (fun ρ=>evT G cl ce (af L ρ)) (run G cl b) m ρ=some o->(∀ρ' d,o≠.xc ρ' d)∧WhO X c body m (trR z dx ρ) (v9 z dx o)
 |0,_,_,h=>by unfold nF at h;cases h
 |m+1,ρ,o,h=>by
  unfold nF at h;split at h
  ·rename_i hq;split at h
   ·rename_i ρ2 h2;obtain ⟨n1,w1⟩:=tE hc hb m ρ2 o h;exact ⟨n1,.turn (hc _ _ hq) (hb _ _ h2) w1⟩
   ·cases h
   ·rename_i hne hnx;have s1:=hb _ _ h;cases o with
    |nx ρ'=>exact absurd h (hne ρ')
    |rt d'=>exact ⟨(fun _ _ z=>nomatch z),.ret (hc _ _ hq) s1 trivial⟩
    |fr c=>exact ⟨(fun _ _ z=>nomatch z),.ret (hc _ _ hq) s1 trivial⟩
    |xc ρe d'=>exact absurd h (hnx ρe d')
  ·rename_i hq;cases h;exact ⟨(fun _ _ z=>nomatch z),.stop (hc _ _ hq)⟩
  ·cases h
theorem AG (xe:XE ca P wd K mg base X sc N N.length k) (h1:cTg sc N n tg=some (.nm j)) (hv:∀i',CE.var i=.var i'->∃y q,e=.Name y q∧X.N[i']?=some y∧Vis X.env.scope y∧(y==("__debug__":Str))=false∧(y==("__classdict__":Str))=false) (hr:aa G cl (.mov j i) ρ=some o):S1 X z dx (.Assign [tg] e pos) ρ o:=by
 obtain ⟨y,q,rfl,hy,hvis,d1,d2⟩:=hv i rfl;obtain ⟨x,p,rfl,hi,hok,hl⟩:=lZ h1;rw [aa] at hr;split at hr
 ·rename_i c hc;split at hr
  ·rename_i hij;cases hr;show DS X _ _ (.nx (trR z dx _));rw [bJ,bJ];exact xw xe.ndX hy (xe.at hi) hij.1 hvis (xe.loc hl) (.inl (xe.fnx hi)) (bP hc) d1 d2
  ·cases hr
 ·rename_i d hd;split at hr
  ·cases hr;show DS X _ _ (.nx (trR z dx _));rw [bJ];exact zR xe.ndX (xe.at hi) (xe.loc hl) (rk hy hvis (s9 hd) d1 d2) rfl (.inl (xe.fnx hi))
  ·cases hr
 ·cases hr
theorem y3 (R:Row P wd K mg base G) (C:Calls P wd K mg base G kc cl) (hk:kc+2<=k) (xf:XF P wd K mg base X sc N k) (ih:yV G cl X sc N z dx n) {st:Stmt} {s:CS'} (h:cS1 (n+1) sc N st=some (er1 s)) {o:Oc} (hr:aa G cl s ρ=some o):S1 X z dx st ρ o:=by
 have xe:=xf.xe;have A:=y4 (cl:=cl) R C hk n;have getE:∀{e:Expr} {ce:CE},cE n sc N e=some ce->OkE G cl X e ce:=fun he=>(A.e X sc N N.length xe _ _ he).2.2;unfold cS1 at h;split at h
 ·
  obtain rfl:=bE (EL h) rfl;rw [aa] at hr;cases hr;exact xx
 ·
  rename_i o _;split at h
  ·obtain rfl:=bE (EL h) rfl;rw [aa] at hr;cases hr;exact xy
  ·
   rename_i e;cases hq:cE n sc N e with
   |none=>rw [hq] at h;cases h
   |some x=>
    rw [hq] at h;obtain rfl:=bE (EL h) rfl;have oe:=getE hq;rcases va hr with ⟨i,c,rfl,hi,rfl⟩|⟨r,hv,rfl⟩
    ·exact oe.ro i rfl _ c _ (bP hi)
    ·obtain ⟨w1,w2,w3⟩:=oe.w (ρ':=trR z dx (af (fvU x) ρ)) bz hv;cases r with
     |ok d=>exact aS (zQ (w1 d rfl))
     |fr c=>exact aS (um (w2 c rfl))
     |xc d=>exact trivial
 ·
  rename_i ts e pos;have gen:∀{tg e:Expr},lI n sc N tg e=some (er1 s)->S1 X z dx (.Assign [tg] e pos) ρ o:=fun {tg e} h=>by
   unfold lI at h;split at h
   ·rename_i t ce h1 h2;split at h
    ·rename_i hc;simp only [Bool.and_eq_true] at hc;rcases z8 (EL h) with rfl|⟨j,i,rfl,rfl,rfl⟩
     ·exact y6 xe ⟨n,h1⟩ (getE h2) hc.1 hc.2 hr
     ·exact AG xe h1 (getE h2).vr hr
    ·cases h
   ·cases h
  unfold zd at h;split at h
  ·rename_i tg;unfold vz at h;split at h
   ·split at h
    ·
     rename_i x px y py a b hp;obtain ⟨rfl,k2,p2,rfl⟩:=yd hp;split at h
     ·rename_i i j ca cb h1 h2 h3 h4;split at h
      ·rename_i hc;obtain rfl:=bE (EL h) rfl;have oa:=getE h3;have ob:=getE h4;rw [aa] at hr;split at hr
       ·rename_i u hu;split at hr
        ·rename_i v hv;split at hr
         ·rename_i hij;cases hr;simp only [Bool.and_eq_true,beq_iff_eq,Bool.not_eq_true'] at hc;obtain ⟨⟨⟨⟨⟨⟨o1,o2⟩,lx⟩,ly⟩,hl⟩,hf⟩,hca⟩:=hc;have na:=(A.e X sc N N.length xe _ _ h3).1;have nb:=(A.e X sc N N.length xe _ _ h4).1;have hxy:x≠y:=fun q=>hij.1 (by rw [q,h2] at h1;exact (EL h1).symm);have lx':X.env.scope.names.lookup x=some .local:=by rw [xe.sc_];exact lx
          have ly':X.env.scope.names.lookup y=some .local:=by rw [xe.sc_];exact ly
          have hw:∀kt pt k2 pt2,swappedStores [.Tuple [.Name x px,.Name y py] kt pt] (.Tuple [a,b] k2 pt2) X.env=pure (some [x,y]):=by
           intro kt pt k2 pt2;have k1:X.env.kindOf x=some .local:=lx';have k2:X.env.kindOf y=some .local:=ly';have ed:([x,y]:List Str).eraseDups=[x,y]:=by
            simp [List.eraseDups_cons,Ne.symm hxy]
           have e1:(px.line==px.line)=true:=beq_self_eq_true _;have e2:(py.line==px.line)=true:=by rw [hl];exact beq_self_eq_true _
           unfold swappedStores;dsimp only;rw [if_neg (by rw [xf.blk];simp)];rw [if_neg (by
            intro q;simp only [List.any_cons,List.any_nil,Bool.or_false] at q;rcases Bool.or_eq_true_iff.mp q with q|q
            ·cases a<;>first|(cases q;done)|(cases na;done)
            ·cases b<;>first|(cases q;done)|(cases nb;done))]
           simp only [List.filterMap_cons,List.filterMap_nil,List.head?_cons,Option.map_some,Option.getD_some,(show ∀(x:Str) (p:Pos),Expr.pos (.Name x p)=p from fun _ _=>rfl),k1,k2,e1,e2,beq_self_eq_true,Bool.and_true,if_true,ed];rw [if_neg (by simp),if_neg (by rw [hf];decide),if_neg (by rw [hca];decide)]
          have da:DA X (trR z dx (af (uniq (fvE ca++fvE cb)) ρ)) [a,b] [u,v]:=fe (oa.v bz hu) (fe (ob.v bz hv) mh (bq (aA nb))) (bq (aA na));show DS X _ _ (.nx (trR z dx _));rw [bJ,bJ];cases hn:ah u&&ah v with
          |true=>
           simp only [Bool.and_eq_true] at hn;have da':DA X (trR z dx ρ) [a,b] [u,v]:=fe (bu hn.1 (oa.v bz hu)) (fe (bu hn.2 (ob.v bz hv)) mh (bq (aA nb))) (bq (aA na));exact rJ xe.calm xe.ndX (xe.at h1) (xe.at h2) hij.1 lx' ly' da' (hw _ _ _ _)
          |false=>exact aS (rJ xe.calm xe.ndX (xe.at h1) (xe.at h2) hij.1 lx' ly' da (hw _ _ _ _))
         ·cases hr
        ·cases hr
       ·cases hr
      ·cases h
     ·cases h
    ·exact gen h
   ·rename_i b kx _;split at h
    ·
     rename_i x _ hp;obtain rfl:=gW hp;split at h
     ·rename_i i ck ce h1 h2 h3;split at h
      ·rename_i hc;simp only [Bool.and_eq_true,Bool.not_eq_true'] at hc;obtain ⟨⟨o1,hv⟩,hcm⟩:=hc;obtain rfl:=bE (EL h) rfl;obtain ⟨d1,d2,_⟩:=eA o1;have ok':=getE h2;have oe:=getE h3;rw [aa] at hr;split at hr
       ·rename_i v hve;split at hr
        ·rename_i kd hkd;split at hr
         ·rename_i es hs;split at hr
          ·rename_i l hp;split at hr
           ·rename_i hz;cases hr;have dk:=ok'.v (ρ':=trR z dx (af (uniq (fvE ck++fvE ce)) ρ)) bz hkd;have de:=oe.v (ρ':=trR z dx (af (uniq (fvE ck++fvE ce)) ρ)) bz hve;have hu:X.A.units+9<cLine:=by have:=xe.units;omega
            show DS X _ _ (.nx (trR z dx _));rw [bJ,fm];rw [←eC hp] at dk;have nk:ah (CT.PK.d (.t l))=true:=by rw [eC hp];exact sN hp
            cases hn:ah v with
            |true=>
             rw [hn] at hs;exact om hu (xe.at h1) (xe.vis hv) (bP hs) (bu nk dk) (bu hn de) hz.1 hz.2 (cq hcm) d1 d2
            |false=>
             rw [hn] at hs;exact aS (om hu (xe.at h1) (xe.vis hv) (bP hs) dk de hz.1 hz.2 (cq hcm) d1 d2)
           ·cases hr
          ·cases hr
         ·rename_i xs hs;split at hr
          ·rename_i j;split at hr
           ·rename_i hz;cases hr;have dk:=ok'.v (ρ':=trR z dx (af (uniq (fvE ck++fvE ce)) ρ)) bz hkd;have de:=oe.v (ρ':=trR z dx (af (uniq (fvE ck++fvE ce)) ρ)) bz hve;show DS X _ _ (.nx (trR z dx _));rw [bJ];cases hn:ah v with
            |true=>
             rw [hn] at hs;exact oj (xe.at h1) (xe.vis hv) (bP hs) (bu rfl dk) (bu hn de) hz (cq hcm) d1 d2
            |false=>
             rw [hn] at hs;exact aS (oj (xe.at h1) (xe.vis hv) (bP hs) dk de hz (cq hcm) d1 d2)
           ·cases hr
          ·cases hr
         ·cases hr
        ·cases hr
       ·cases hr
      ·cases h
     ·cases h
    ·cases h
   ·rename_i b f _;split at h
    ·
     rename_i x _ hp;obtain rfl:=gW hp;split at h
     ·rename_i ce h1 h3;split at h
      ·rename_i hc;simp only [Bool.and_eq_true,Bool.not_eq_true'] at hc;obtain ⟨⟨o1,hv⟩,hcm⟩:=hc;obtain rfl:=bE (EL h) rfl;obtain ⟨d1,d2,_⟩:=eA o1;have oe:=getE h3;rw [aa] at hr;split at hr
       ·rename_i d hd;split at hr
        ·rename_i C0 a0 b0 fs h0;split at hr
         ·rename_i hf;cases hr;have de:=oe.v (ρ':=trR z dx (af (fvU ce) ρ)) bz hd;have hK:=xe.K_;subst hK;obtain ⟨c1,c2⟩:=R.fok C0 f hf.2;show DS X _ _ (.nx (trR z dx _));rw [bJ];have t0:∀{ρ0:Rho},ρ0[0]?=some (.new C0 a0 b0 fs)->(trR z dx ρ0)[0]?=some (.new C0 z dx fs):=fun h=>by rw [List.getElem?_map,h];rfl
          cases hn:ah d with
          |true=>exact rH (i:=0) (xe.at h1) (xe.vis hv) (t0 h0) c1 c2 hf.1 (bu hn de) (cq hcm) d1 d2
          |false=>exact aS (rH (i:=0) (xe.at h1) (xe.vis hv) (t0 (kO h0)) c1 c2 hf.1 de (cq hcm) d1 d2)
         ·cases hr
        ·cases hr
       ·cases hr
      ·cases h
     ·cases h
    ·cases h
   ·exact gen h
  ·cases h
 ·
  unfold cExp at h;split at h
  ·
   obtain rfl:=bE (EL h) rfl;rw [aa] at hr;cases hr;exact PS.weak Bd fun E σ H ⟨H₀,S₀,S,f,k⟩=>k σ H S f
  ·
   rename_i x xp m ap args cp;split at h
   ·rename_i hm;subst hm;split at h
    ·rename_i i a h1;split at h
     ·rename_i hc;simp only [Bool.and_eq_true] at hc;obtain ⟨⟨o1,hv⟩,hl⟩:=hc;cases hq:cE n sc N a with
      |none=>rw [hq] at h;cases h
      |some x'=>
       rw [hq] at h;obtain rfl:=bE (EL h) rfl;obtain ⟨d1,d2,_⟩:=eA o1;have oe:=getE hq;have na:=(A.e X sc N N.length xe _ _ hq).1;have s0:=bq (es:=[]) (env:=X.env) (aA na);rw [aa] at hr;split at hr
       ·rename_i v hve;split at hr
        ·rename_i xs hs;split at hr
         ·rename_i hz;cases hr;have de:=oe.v (ρ':=trR z dx (af (fvU x') ρ)) bz hve;show DS X _ _ (.nx (trR z dx _));rw [bJ];have few:((backTo cp (starEach [a] X.env)).all (fun x=>!x.1)&&(backToKw cp (keywordEach [] X.env)).all (fun x=>x.1.isSome)&&decide (([a]:List Expr).length+([]:List Keyword).length+(if ([]:List Keyword).isEmpty then 0 else 1)<30))=true:=by
           rw [hI (fun e he=>by rw [Et.mp he];exact na)];rfl
          cases hn:ah v with
          |true=>
           rw [hn] at hs;exact kL (xe.at h1) (xe.vis hv) (bP hs) (bu hn de) hz d1 d2 rfl rfl few hl s0 rfl
          |false=>
           rw [hn] at hs;exact aS (kL (xe.at h1) (xe.vis hv) (bP hs) de hz d1 d2 rfl rfl few hl s0 rfl)
         ·cases hr
        ·cases hr
       ·cases hr
     ·cases h
    ·cases h
   ·split at h
    ·rename_i hm;subst hm;split at h
     ·rename_i i h1;split at h
      ·rename_i hc;simp only [Bool.and_eq_true] at hc;obtain ⟨⟨o1,hv⟩,hl⟩:=hc;obtain rfl:=bE (EL h) rfl;obtain ⟨d1,d2,_⟩:=eA o1;rw [aa] at hr;cases hr
      ·cases h
     ·cases h
    ·cases hq:cE n sc N (.Call (.Attribute (.Name x xp) m ap) args [] cp) with
     |none=>rw [hq] at h;cases h
     |some ce=>
      rw [hq] at h;obtain rfl:=bE (EL h) rfl;exact rQ (getE hq) rfl hr
  ·
   rename_i e _ _ _ _;split at h
   ·rename_i hc;have hc:b6 e=false:=by simpa using hc
    cases hq:cE n sc N e with
    |none=>rw [hq] at h;cases h
    |some ce=>
     rw [hq] at h;obtain rfl:=bE (EL h) rfl;exact rQ (getE hq) hc hr
   ·cases h
 ·
  rename_i c a b _;split at h
  ·rename_i x y zz h1 h2 h3;obtain ⟨y',zz',rfl,rfl,rfl⟩:=B9 (EL h);have oc:=getE h1;rw [aa] at hr;split at hr
   ·rename_i hq;exact S1.if xe.nox (fG (oc.t bz hq)) (fun _=>ih.b a y' h2 _ _ hr) fun z=>nomatch z
   ·rename_i hq;exact S1.if xe.nox (fG (oc.t bz hq)) (fun z=>nomatch z) fun _=>ih.b b zz' h3 _ _ hr
   ·cases hr
  ·cases h
 ·
  rename_i tg it b els _;split at h
  ·rename_i hit0;obtain ⟨hit,hel⟩:=EJ.mp hit0;obtain rfl:=List.isEmpty_iff.mp hel;split at h
   ·rename_i t x y h1 h2 h3;obtain ⟨y',rfl,rfl⟩:=z9 (EL h);have oi:=getE h2;rw [aa] at hr;split at hr
    ·rename_i its hi;have lt:=nE (N:=N) (fun x i h=>xe.lt h) h1;obtain ⟨f1,f2⟩:=rT (z:=z) (dx:=dx) (fun ρ d ρ1 hb=>((jL xe n).1 tg t h1).2 ρ d ρ1 hb lt) (fun ρ o h=>ih.b b y' h3 ρ o h) its _ o hr;have di:=oi.i (ρ':=trR z dx (af (fvU x) ρ)) (tg:=tg) bz hit hi;refine S1.give (L:=fvU x) ?_;cases o with
     |nx ρ'=>exact mq xf.pass xe.calm di (f1 fun _ _ z=>nomatch z) (fh hit _)
     |rt d=>exact mq xf.pass xe.calm di (f1 fun _ _ z=>nomatch z) (fh hit _)
     |fr c=>exact mq xf.pass xe.calm di (f1 fun _ _ z=>nomatch z) (fh hit _)
     |xc ρe d=>exact trivial
    ·cases hr
   ·cases h
  ·cases h
 ·
  rename_i c b els _;split at h
  ·rename_i x y h1 h2
   by_cases hel:els.isEmpty=true
   case neg=>rw [if_neg hel] at h;cases h
   rw [if_pos hel] at h;obtain rfl:=List.isEmpty_iff.mp hel;obtain ⟨y',rfl,rfl⟩:=z_ (EL h);have oc:=getE h1;rw [aa] at hr;obtain ⟨n1,w1⟩:=tE (z:=z) (dx:=dx) (fun ρ q hq=>fG (oc.t bz hq)) (fun ρ o h=>ih.b b y' h2 ρ o h) _ ρ o hr;have:=uq (pos:=‹Pos›) xf.pass w1;cases o with
   |nx ρ'=>exact this
   |rt d=>exact this
   |fr c=>exact this
   |xc ρe d=>exact absurd rfl (n1 ρe d)
  ·cases h
 ·
  split at h
  ·
   rename_i x args hp;obtain ⟨p1,p2,rfl⟩:=yJ hp;split at h
   ·rename_i hc;simp only [Bool.and_eq_true] at hc;obtain ⟨⟨o1,hg⟩,_⟩:=hc;cases hq:cA n sc N args with
    |none=>rw [hq] at h;cases h
    |some ces=>
     rw [hq] at h;obtain rfl:=bE (EL h) rfl;obtain ⟨ss,oa⟩:=A.a X sc N N.length xe args ces hq;obtain ⟨d1,d2,_⟩:=eA o1;rw [aa] at hr;split at hr
     ·rename_i ds hd;split at hr
      ·rename_i C0 fs hx;split at hr
       ·rename_i hl;cases hr;trivial
       ·cases hr
      ·cases hr
     ·cases hr
   ·cases h
  ·cases h
 ·cases h
end
set_option autoImplicit true
set_option relaxedAutoImplicit true
section
variable {ca:Bool} {P:Program} {wd:World} {K:Frag} {mg:Str->Option Value} {base:Heap} {G:Prg} {cl:Str->List D->Option Rs} {k kc n:Nat} {X:Cx} {sc:Scope} {N:List Str} {w:Nat} {ce:CE} {z dx:Addr} {ρ:Rho} {pos:Pos}
theorem Wk.Di:∀{ρ:Rho} {i:Nat},Wk ρ (ρ.set i .any):=fun {ρ i}=>⟨by simp,fun j x h=>by
 by_cases hj:i=j
 ·subst hj;have hi:i<ρ.length:=by have:=(Eu.mp h).1;simpa using this
  rw [Ew hi] at h;exact .inl (EL h).symm
 ·rw [Ex hj] at h;exact .inr h⟩
theorem SS.fgt:∀{L:List Nat} {ρ:Rho},SS X z dx sts (gM L ρ) o->SS X z dx sts ρ o
 |[],_,h=>h
 |i::L,ρ,h=>by
  have h':=SS.fgt (L:=L) (ρ:=ρ.set i .any) h;have w:Wk (trR z dx ρ) (trR z dx (ρ.set i .any)):=by rw [bJ];exact Wk.Di
  cases o with
  |nx ρ'=>exact jV w h'
  |rt d=>exact jV w h'
  |fr c=>exact jV w h'
  |xc ρ' d=>exact trivial
theorem yK (h:run G cl (.fgt L::r) ρ=some o):run G cl r (gM L ρ)=some o:=by
 unfold run at h;have e:aa G cl (.fgt L) ρ=some (.nx (gM L ρ)):=by rw [aa]
 rw [e] at h;exact h
theorem rN (h:l=erL b):(∃L r,b=.fgt L::r∧l=erL r)∨(b=[]∧l=[])∨∃s r,b=s::r∧l=er1 s::erL r:=by
 cases b with
 |nil=>exact .inr (.inl ⟨rfl,by rw [h];rfl⟩)
 |cons s r=>
  cases s with
  |fgt L=>exact .inl ⟨L,r,rfl,by rw [h,erL]⟩
  |_=>exact .inr (.inr ⟨_,r,rfl,by rw [h,erL];intro L z;cases z⟩)
theorem jO (R:Row P wd K mg base G) (C:Calls P wd K mg base G kc cl) (hk:kc+2<=k) (xf:XF P wd K mg base X sc N k):∀n,yV G cl X sc N z dx n:=by
 intro n
 induction n with
 |zero=>exact ⟨fun st s h=>(by unfold cS1 at h;cases h),fun sts b h=>(by unfold cS at h;cases h)⟩
 |succ n ih=>
  refine ⟨fun st s h ρ o hr=>y3 R C hk xf ih h hr,fun sts b=>?_⟩
  induction b generalizing sts with
  |nil=>
   intro h ρ o hr;unfold run at hr;cases hr;unfold cS at h;split at h
   ·exact xB
   ·split at h
    ·cases h
    ·cases h
  |cons s0 r0 ihb=>
   intro h ρ o hr;rcases rN (b:=s0::r0) rfl with ⟨L,r,eb,el⟩|⟨eb,el⟩|⟨s,r,eb,el⟩
   ·cases eb;rw [el] at h;exact SS.fgt (ihb sts h _ _ (yK hr))
   ·cases eb
   ·cases eb;rw [el] at h;unfold cS at h;split at h
    ·cases h
    ·split at h
     ·rename_i s0' r0' h1 h2;cases h;exact CL xf.xe.nox (fun ρ o h=>ih.s _ _ h1 ρ o h) (fun ρ o h=>ih.b _ _ h2 ρ o h) hr
     ·cases h
end
theorem qG {CX:CXT} {P:Program} {wd:World} {K:Frag} {mg:Str->Option Value} {base:Heap} {N ps:List Str} {qual:Str} {st:Stmt} {f:Addr} {cd:Value} {A:Around} {outer:List PySem.Env} {s:Shared} {H:Hp} {E:XK} {k:Nat}
  (S:bC N ps (aj st)) (hr:aJ k (A.deeper (envOfC qual (aj st) s.heap.objs.size f cd))):XF P wd K mg base (dN CX P wd K mg base N qual (aj st) f cd A outer s H E).nox (aj st) N k where
 xe:={p_:=rfl,w_:=rfl,K_:=rfl,mg_:=rfl,je:=rfl,sc_:=rfl,N_:=rfl,nd:=S.nd,lJ:=fun _=>rfl,lS:=fun _=>hr,units:=hr.units,nox:=fun _ _ z=>z,fn:=fun _ _ _ _=>rfl}
 pass:=PassesOwn.never
 hst:=rfl
 hfr:=rfl
 blk:=by
  show (if (aj st).kind.isAnnotationScope then _ else (aj st).kind)=_;rw [S.kind];rfl
section
variable {P:Program} {wd:World} {K:Frag} {mg:Str->Option Value} {base:Heap} {G:Prg}
theorem mT {z dx:Addr} {ds:List D} {n:Nat}:trR z dx (ds.map .val++List.replicate n .nil)=ds.map .val++List.replicate n .nil:=by
 unfold trR;rw [List.map_append,List.map_map,List.map_replicate]
 congr 1
theorem kQ {key:Str} {C:Addr} {d:Def} {N ps:List Str} {n:Nat} (df:G.defs key=some (some C,d)) (h1:d.slots=N.length) (h2:d.aw=ps.length) (ds:List D) (r:Rs) (h:kal G (n+1) key ds=some r):
  ds.length+1=ps.length∧((∃ρ' a b fs,run G (kal G n) d.body (.new C 0 0 []::(ds.map .val++List.replicate (N.length - (ds.length+1)) .nil))=some (.nx ρ')∧ρ'[0]?=some (.new C a b fs)∧r=.ok (.ins C fs))∨
   ∃ρ' x,run G (kal G n) d.body (.new C 0 0 []::(ds.map .val++List.replicate (N.length - (ds.length+1)) .nil))=some (.xc ρ' x)∧r=.xc x):=by
 unfold kal at h;rw [df] at h;unfold dE at h;dsimp only at h;split at h
 ·rename_i hl;rw [h1] at h;refine ⟨by rw [←h2];exact hl.1,?_⟩;split at h
  ·rename_i ρ' q;split at h
   ·rename_i C' a b fs h0;split at h
    ·rename_i hC;subst hC;cases h;exact .inl ⟨ρ',a,b,fs,q,h0,rfl⟩
    ·cases h
   ·cases h
  ·rename_i ρ' x' q;cases h;exact .inr ⟨ρ',x',q,rfl⟩
  ·cases h
 ·cases h
theorem tS (R:Row P wd K mg base G):∀n,Calls P wd K mg base G (3*n+3) (kal G n):=by
 intro n
 induction n with
 |zero=>
  refine ⟨fun key d f fd ps L=>?_,fun key d f fd ps L=>?_,fun key C d f fd ps L=>?_,fun key C d f fd ps L ds r h=>?_⟩
  ·have no:∀vs H Q E,¬spR K (prR (kal G 0) key) vs H Q E:=fun vs H Q E ⟨S,ds,r,_,_,p,_⟩=>by
    cases r with
    |ok d=>obtain ⟨r,h,_⟩:=p;unfold kal at h;cases h
    |xc d=>have h:kal G 0 key ds=some (.xc d):=p;unfold kal at h;cases h
   exact ⟨fun vs H Q E h=>(no _ _ _ _ h).elim,fun A outer s H args us vs Q E hr he hb hv hs=>(no _ _ _ _ hs).elim⟩
  ·have no:∀vs H Q E,¬ko K (prF (kal G 0) key) vs H Q E:=fun vs H Q E ⟨S,ds,c,_,_,p,_⟩=>by
    have h:kal G 0 key ds=some (.fr c):=p;unfold kal at h;cases h
   exact ⟨fun vs H Q E h=>(no _ _ _ _ h).elim,fun A outer s H args us vs Q E hr he hb hv hs=>(no _ _ _ _ hs).elim⟩
  ·have no:∀vs H Q E,¬qA K C (prI (kal G 0) C key) vs H Q E:=fun vs H Q E ⟨S,x,dx,us,ds,r,_,_,_,_,_,p,_⟩=>by
    cases r with
    |ok fs=>have h:kal G 0 key ds=some (.ok (.ins C fs)):=p;unfold kal at h;cases h
    |xc d=>have h:kal G 0 key ds=some (.xc d):=p;unfold kal at h;cases h
   exact ⟨fun vs H Q E h=>(no _ _ _ _ h).elim,fun A outer s H args us vs Q E hr he hb hv hs=>(no _ _ _ _ hs).elim⟩
  ·unfold kal at h;cases h
 |succ n ih=>
  have hk:3*(n+1)+3=(3*n+5)+1:=by omega
  refine ⟨fun key d f fd ps L=>?_,fun key d f fd ps L=>?_,fun key C d f fd ps L=>?_,fun key C d f fd ps L ds r h=>?_⟩
  ·obtain ⟨x,qual,st,N,F,S,hc,h1,h2⟩:=L.ex;rw [hk];have shape:∀ds r,kal G (n+1) key ds=some r->ds.length=ps.length∧∃o,run G (kal G n) d.body (aO N ds)=some o∧r=(match o with|.nx _=>.ok .non|.rt x=>.ok x|.fr c=>.fr c|.xc _ x=>.xc x):=fun ds r h=>by
    unfold kal at h;rw [L.df] at h;unfold dE at h;dsimp only at h;split at h
    ·rename_i hl;rw [h1] at h;refine ⟨by rw [←h2];exact hl.1,?_⟩;split at h
     ·rename_i ρ' q;cases h;exact ⟨_,q,rfl⟩
     ·rename_i x' q;cases h;exact ⟨_,q,rfl⟩
     ·rename_i c q;cases h;exact ⟨_,q,rfl⟩
     ·rename_i ρ' x' q;cases h;exact ⟨_,q,rfl⟩
     ·cases h
    ·cases h
   refine Ds F S (fun ds r p=>?_) (fun cdv A outer s H E ds d' hr p=>?_)
   ·cases r with
    |ok d'=>obtain ⟨r,h,_⟩:=p;exact (shape ds r h).1
    |xc d'=>exact (shape ds _ p).1
   ·obtain ⟨r,h,hv⟩:=p;obtain ⟨_,o,ho,e⟩:=shape ds r h;have B:=(jO (z:=0) (dx:=0) R ih (by omega) (qG (CX:=CXA P wd) (P:=P) (wd:=wd) (K:=K) (mg:=mg) (base:=base) (outer:=outer) (H:=H) (E:=E) S hr) 60).b _ _ hc _ o ho;have e0:trR 0 0 (aO N ds)=aO N ds:=mT;cases o with
    |nx ρ'=>subst e;cases hv;refine ⟨.nx (trR 0 0 ρ'),rfl,?_⟩;have B':DSs _ _ _ _:=B;rw [e0] at B';exact B'
    |rt x'=>subst e;cases hv;refine ⟨.rt _,rfl,?_⟩;have B':DSs _ _ _ _:=B;rw [e0] at B';exact B'
    |fr c=>subst e;cases hv;refine ⟨.rfx c,rfl,?_⟩;have B':DSs _ _ _ _:=B;rw [e0] at B';exact B'
    |xc ρ' x'=>subst e;cases hv
  ·obtain ⟨x,qual,st,N,F,S,hc,h1,h2⟩:=L.ex;rw [hk];have shape:∀ds c,kal G (n+1) key ds=some (.fr c)->ds.length=ps.length∧run G (kal G n) d.body (aO N ds)=some (.fr c):=fun ds r h=>by
    unfold kal at h;rw [L.df] at h;unfold dE at h;dsimp only at h;split at h
    ·rename_i hl;rw [h1] at h;refine ⟨by rw [←h2];exact hl.1,?_⟩;split at h
     ·cases h
     ·cases h
     ·rename_i c q;cases h;exact q
     ·cases h
     ·cases h
    ·cases h
   refine Ca F S (fun ds c p=>(shape ds c p).1) (fun cdv A outer s H E ds c hr p=>?_);have B:=(jO (z:=0) (dx:=0) R ih (by omega) (qG (CX:=CX0) (P:=P) (wd:=wd) (K:=K) (mg:=mg) (base:=base) (outer:=outer) (H:=H) (E:=E) S hr) 60).b _ _ hc _ _ (shape ds c p).2;have e0:trR 0 0 (aO N ds)=aO N ds:=mT;have B':DSs _ _ _ _:=B;rw [e0] at B';exact B'
  ·obtain ⟨x,qual,st,N,F,S,hc,h1,h2⟩:=L.ex;rw [hk];have shape:=kQ (C:=C) (n:=n) L.df h1 h2;have e0:∀z dx:Addr,∀ds:List D,trR z dx (.new C 0 0 []::(ds.map .val++List.replicate (N.length - (ds.length+1)) .nil))=.new C z dx []::(aO N (.non::ds)).tail:=fun z dx ds=>by
    show Sl.new C z dx []::trR z dx (ds.map .val++List.replicate (N.length - (ds.length+1)) .nil)=_;rw [mT];rfl
   refine Cb F S (fun ds r p=>?_) (fun cdv A outer s H E ds fs z dx hr p=>?_)
   ·cases r with
    |ok fs=>exact (shape ds _ p).1
    |xc d'=>exact (shape ds _ p).1
   ·obtain ⟨_,h⟩:=shape ds _ p;rcases h with ⟨ρ',a,b,fs',ho,h0,e⟩|⟨ρ',x',ho,e⟩
    ·cases e;have B:=(jO (z:=z) (dx:=dx) R ih (by omega) (qG (CX:=CXA P wd) (P:=P) (wd:=wd) (K:=K) (mg:=mg) (base:=base) (outer:=outer) (H:=H) (E:=E) S hr) 60).b _ _ hc _ _ ho;have B':DSs _ _ _ _:=B;rw [e0] at B';exact ⟨_,by rw [List.getElem?_map,h0];rfl,B'⟩
    ·cases e
  ·obtain ⟨x,qual,st,N,F,S,hc,h1,h2⟩:=L.ex;obtain ⟨_,h⟩:=kQ (C:=C) (n:=n) L.df h1 h2 ds r h;rcases h with ⟨ρ',a,b,fs',ho,h0,e⟩|⟨ρ',x',ho,e⟩
   ·exact .inl ⟨fs',e⟩
   ·exact .inr ⟨x',e⟩
end
set_option autoImplicit true
set_option relaxedAutoImplicit true
noncomputable def asc {α β:Type} [DecidableEq α]:List (α×β)->α->Option β
 |[],_=>none
 |(a,b)::l,x=>if a=x then some b else asc l x
theorem e_ {α β:Type} [DecidableEq α] {l:List (α×β)} {x:α} {y:β} (h:asc l x=some y):(x,y)∈l:=by
 induction l with
 |nil=>cases h
 |cons p l ih=>
  obtain ⟨a,b⟩:=p;unfold asc at h;split at h
  ·rename_i e;cases h;rw [e];exact Eo
  ·exact En _ (ih h)
noncomputable def fQ (n c:String):Bool:=n==c||(n=="bool"&&c=="int")
noncomputable def jF:List String:=["NoneType","bool","int","str","tuple","list","dict"]
noncomputable def jE:List String:=["int","bool","list","tuple","str","dict"]
structure Src where
 gl:List (Str×D):=[]
 fn:List Str:=[]
 ini:List (Str×(Addr×Str)):=[]
 exc:List (Str×(Addr×List Str)):=[]
 mth:List ((Addr×Str)×Str):=[]
 fok:List (Addr×Str):=[]
 xok:List (Addr×Str):=[]
 uD:List ((Addr×Addr)×Bool):=[]
 Em:List ((Addr×Addr)×Bool):=[]
 Ek:List (Addr×Bool):=[]
 sub:List ((Addr×Addr)×Bool):=[]
 defs:List (Str×(Option Addr×Def)):=[]
noncomputable def Src.kit (s:Src):Tag->Tag->Option Bool
 |.ty n,.ty c=>if n∈jF∧c∈jE then some (fQ n c) else none
 |.cl C,.cl E=>asc s.uD (C,E)
 |_,_=>none
noncomputable def Src.prg (s:Src):Prg where
 glob:=asc s.gl
 fn:=fun x=>if x∈s.fn then some x else none
 ini:=asc s.ini
 exc:=asc s.exc
 mth:=fun C m=>asc s.mth (C,m)
 fok:=fun C f=>decide ((C,f)∈s.fok)
 xok:=fun C f=>decide ((C,f)∈s.xok)
 kit:=s.kit
 sub:=fun C E=>asc s.sub (C,E)
 defs:=asc s.defs
noncomputable def De (mg:Str->Option Value) (x:Str):D->Prop
 |.ty n=>mg x=none∧bootBuiltins x=some (.type n)
 |.cl C=>mg x=some (.ref C)
 |.int i=>∃t,mg x=some (.int i t)
 |_=>False
noncomputable def jR (K:Frag) (C:Addr):Bool:=plainGet K C Str.empty&&hasDictIn K C&&plainOver K C&&findIn K (.ref C) "__setattr__"==some (some (.builtin "object.__setattr__"))&&findIn K (.ref C) "__class__"==some (some (.builtin "object.__class__"))&&
 specialIn K (.builtin "object.__class__") "__get__"==some (some (.builtin "getset_descriptor.__get__"))&&takesIn K (.builtin "object.__class__")==some true&&mroIn K C (.type "object")==some true
theorem bO {K:Frag} {C:Addr} (h:jR K C=true):Isi K C:=by
 unfold jR at h;simp only [Bool.and_eq_true,beq_iff_eq] at h;obtain ⟨⟨⟨⟨⟨⟨⟨h1,h2⟩,h3⟩,h4⟩,h5⟩,h6⟩,h7⟩,h8⟩:=h;exact ⟨⟨h1,h2,h3,h4⟩,h5,h6,h7,h8⟩
noncomputable def BJ (K:Frag):Bool:=jF.all fun n=>jE.all fun c=>kitOne K (.type n) (.type c)==some (fQ n c)
noncomputable def pA:List Str:=["len","sum","all","any","abs","int","tuple","list","dict","min","max","isinstance","range","zip","enumerate"]
theorem zc (h:bnC x=some b):x∈pA:=by
 unfold bnC at h
 repeat (rcases mJ h with ⟨hx,hb⟩|h;(subst hx;decide))
 cases h
noncomputable def GF (K:Frag) (q:Str) (st:Stmt):Prop:=∃f,nsIn K mainGlobals q=some (some (.ref f))∧∃fd,Fun K q q st f fd
noncomputable def MF (K:Frag) (C:Addr) (m q:Str) (st:Stmt):Prop:=∃f,findIn K (.ref C) m=some (some (.ref f))∧isFn K (.ref f)=true∧∃fd,Fun K m q st f fd
theorem Cf {K:Frag} {q:Str} {st:Stmt} {f:Addr} {oc:Value} {od an:Option Addr} {osl:Array (Option Value)} {kV doc pm cdv ct:Value} (a:nsIn K mainGlobals q=some (some (.ref f))) (l:K.lookup f=some ⟨oc,od,.func (fnOf q q (cM st) (aY st) (aj st) .none kV doc pm an cdv ct),osl⟩) (c:codeIn K cdv q=true) (k:keepIn K (.ref f)=true):GF K q st:=⟨f,a,_,rV l c k⟩
theorem Cq {K:Frag} {C:Addr} {m q:Str} {st:Stmt} {f:Addr} {oc:Value} {od an:Option Addr} {osl:Array (Option Value)} {kV doc pm cdv ct:Value} (a:findIn K (.ref C) m=some (some (.ref f))) (i:isFn K (.ref f)=true) (l:K.lookup f=some ⟨oc,od,.func (fnOf m q (cM st) (aY st) (aj st) .none kV doc pm an cdv ct),osl⟩) (c:codeIn K cdv q=true) (k:keepIn K (.ref f)=true):MF K C m q st:=⟨f,a,i,_,rV l c k⟩
structure DT (G:Prg) (key:Str) (C:Option Addr) (d:Def) (x q:Str) (st:Stmt) (ps:List Str):Prop where
 N:∃N,bC N ps (aj st)∧cS 60 (aj st) N (aY st)=some (erL d.body)∧d.slots=N.length
 bd:∀(kV doc pm:Value) (an:Option Addr) (cdv ct:Value) (us:List Value),us.length=ps.length->bindArgs (fnOf x q (cM st) (aY st) (aj st) .none kV doc pm an cdv ct) ⟨us,[]⟩=pure (ps.zip us)
 df:G.defs key=some (C,d)
 aw:d.aw=ps.length
 ini:d.init=C.isSome
noncomputable def nmN (st:Stmt) (ps:List Str):List Str:=ps++(((aj st).names.filter fun p=>p.2==.local||p.2==.cell).map (·.1)).filter fun x=>!ps.contains x
theorem DT.of {G:Prg} {key:Str} {C:Option Addr} {d:Def} {x q:Str} {st:Stmt} {ps:List Str} (S:bC (nmN st ps) ps (aj st)) (h2:cS 60 (aj st) (nmN st ps) (aY st)=some (erL d.body)) (h3:d.slots=(nmN st ps).length)
  (bd:∀(kV doc pm:Value) (an:Option Addr) (cdv ct:Value) (us:List Value),us.length=ps.length->bindArgs (fnOf x q (cM st) (aY st) (aj st) .none kV doc pm an cdv ct) ⟨us,[]⟩=pure (ps.zip us)) (df:G.defs key=some (C,d)) (aw:d.aw=ps.length) (ini:d.init=C.isSome):DT G key C d x q st ps:=⟨⟨_,S,h2,h3⟩,bd,df,aw,ini⟩
theorem DT.lk {K:Frag} {G:Prg} {key x q:Str} {C:Option Addr} {d:Def} {st:Stmt} {ps:List Str} {f:Addr} {fd:FuncData} (t:DT G key C d x q st ps) (F:Fun K x q st f fd):Lk K G key C d f fd ps:=by
 obtain ⟨N,h1,h2,h3⟩:=t.N;exact ⟨t.df,F.binds t.bd,F.kp,⟨x,q,st,N,F,h1,h2,h3,t.aw⟩,t.ini⟩
theorem lenZ {P:List Value->Prop} (h:P []):∀us:List Value,us.length=0->P us
 |[],_=>h
theorem pZ {P:List Value->Prop} {n:Nat} (h:∀a us,us.length=n->P (a::us)):∀us:List Value,us.length=n+1->P us
 |a::us,e=>h a us (Nat.succ.inj e)
theorem Ay {P:List Value->Prop} (h:∀a0,P [a0]):∀us:List Value,us.length=1->P us:=
 pZ fun a=>lenZ (P:=fun us=>P (a::us)) (h a)
theorem Az {P:List Value->Prop} (h:∀a0 a1,P [a0,a1]):∀us:List Value,us.length=2->P us:=
 pZ fun a=>Ay (P:=fun us=>P (a::us)) (h a)
theorem AA {P:List Value->Prop} (h:∀a0 a1 a2,P [a0,a1,a2]):∀us:List Value,us.length=3->P us:=
 pZ fun a=>Az (P:=fun us=>P (a::us)) (h a)
theorem DL {P:List Value->Prop} (h:∀a0 a1 a2 a3,P [a0,a1,a2,a3]):∀us:List Value,us.length=4->P us:=
 pZ fun a=>AA (P:=fun us=>P (a::us)) (h a)
section
variable {K:Frag} {h:Heap} {mg:Str->Option Value} {G:Prg} {q m key:Str} {st:Stmt} {d:Def} {ps:List Str} {C:Addr}
theorem GF.row (X:K.In h) (GG:h.Ns mainGlobals mg) (t:DT G q none d q q st ps) (e:GF K q st):∃d f fd ps,mg q=some (.ref f)∧Lk K G q none d f fd ps:=by
 obtain ⟨f,a,fd,F⟩:=e;exact ⟨d,f,fd,ps,mg_of X GG a,t.lk F⟩
theorem MF.row (o:jR K C=true) (t:DT G key none d m key st ps) (e:MF K C m key st):∃d f fd ps,Meth K C m f∧Cls K C∧Lk K G key none d f fd ps:=by
 obtain ⟨f,a,i,fd,F⟩:=e;exact ⟨d,f,fd,ps,⟨a,i,F.kp⟩,(bO o).cl,t.lk F⟩
theorem MF.ini (X:K.In h) (GG:h.Ns mainGlobals mg) (b:nsIn K mainGlobals q=some (some (.ref C))) (mk:makesIn K C=true) (kc:keepIn K (.ref C)=true) (t:DT G key (some C) d "__init__" key st ps) (e:MF K C "__init__" key st):∃d f fd ps,mg q=some (.ref C)∧Mk K C f∧Lk K G key (some C) d f fd ps:=by
 obtain ⟨f,a,i,fd,F⟩:=e;exact ⟨d,f,fd,ps,mg_of X GG b,⟨mk,a,i,kc⟩,t.lk F⟩
end
section
variable {P:Program} {w:World} {K:Frag} {mg:Str->Option Value} {base:Heap} {s:Src}
theorem Bt (hblt:∀x∈pA,mg x=none) (hgl:∀p∈s.gl,De mg p.1 p.2) (hty:BJ K=true)
  (hcl:∀p∈s.uD,kitOne K (.ref p.1.1) (.ref p.1.2)=some p.2∧Isi K p.1.1)
  (hfn:∀x∈s.fn,∃d f fd ps,mg x=some (.ref f)∧Lk K s.prg x none d f fd ps)
  (hini:∀p∈s.ini,∃d f fd ps,mg p.1=some (.ref p.2.1)∧Mk K p.2.1 f∧Lk K s.prg p.2.2 (some p.2.1) d f fd ps)
  (hmth:∀p∈s.mth,∃d f fd ps,Meth K p.1.1 p.1.2 f∧Cls K p.1.1∧Lk K s.prg p.2 none d f fd ps)
  (hfok:∀p∈s.fok,Cls K p.1∧cF K p.1 p.2):Row P w K mg base s.prg where
 blt:=fun x b h=>hblt x (zc h)
 glob:=fun X hK hmg x d h ok g ρ pos=>by
  have:=hgl _ (e_ h);rw [←hmg] at this;unfold cD at ok;simp only [Bool.and_eq_true,Bool.not_eq_true'] at ok;obtain ⟨⟨o1,o2⟩,o3⟩:=ok;have o3':x≠"__name__":=fun z=>by rw [z] at o3;revert o3;decide
  cases d with
  |ty n=>exact B7 g this.1 this.2 o3' o1
  |cl C=>exact B6 g this o1
  |int i=>obtain ⟨t,ht⟩:=this;exact ua g ht o1
  |_=>exact this.elim
 Cg:=fun x C h=>hgl _ (e_ h)
 kit:=fun t u q h=>by
  change s.kit t u=some q at h;cases t with
  |ty n=>
   cases u with
   |ty c=>
    unfold Src.kit at h;dsimp only at h;split at h
    ·rename_i hm;cases h;have:=EA.mp (EA.mp hty n hm.1) c hm.2;exact ⟨beq_iff_eq.mp this,fun _ z=>(nomatch z),fun _ z=>(nomatch z)⟩
    ·cases h
   |cl C=>cases h
   |xc C=>cases h
  |cl C=>
   cases u with
   |ty c=>cases h
   |cl E=>have:=hcl _ (e_ h);exact ⟨this.1,fun _ z=>by cases z;exact this.2,fun _ z=>(nomatch z)⟩
   |xc E=>cases h
  |xc C=>cases h
 fn:=fun x key h=>by
  change (if x∈s.fn then some x else none)=some key at h;split at h
  ·rename_i hm;cases h;exact hfn x hm
  ·cases h
 ini:=fun x C key h=>hini _ (e_ h)
 mth:=fun C m key h=>hmth _ (e_ h)
 fok:=fun C f h=>hfok _ (of_decide_eq_true h)
end
theorem iY {K:Frag} {H:Hp} {S:CT.Ad}:∀ns:List Int,ae K H S (ns.map .int) (ns.map V.int)
 |[]=>.nil
 |n::ns=>.cons (.int n) (iY ns)
noncomputable def mN (G:Prg) (n:Nat) (ds:List D) (d:D):Prop:=prR (kal G n) "law" ds (.ok d)
theorem Av {K:Frag} {G:Prg} {n:Nat} {H:Hp} {a:Addr} {ns:List Int} (hG:kal G n "law" [.lst (ns.map .int)]=some (.ok (.bl true))) (h:SqL K H a (ns.map V.int)):spD K (mN G n) [.ref a] H (fun v _=>v=.bl true) fun _ _ _=>False:=by
 refine ⟨no,[.lst (ns.map .int)],.bl true,fun _ z=>z.elim,.cons ?_ .nil,⟨_,hG,rfl⟩,fun v H' _ r=>r.blV⟩;rcases h with h|h
 ·exact .lst h (fun z=>z) (iY ns)
 ·exact .lstK h (iY ns)
theorem As {P:Program} {w:World} {K:Frag} {h:Heap} {mg:Str->Option Value} {G:Prg} {n:Nat} {st:Stmt} {d:Def} {x:Str} {fa:Addr} (X:K.In h) (GG:h.Ns mainGlobals mg) (hfa:mg "law"=some (.ref fa)) (R:∀base,Row P w K mg base G) (t:DT G "law" none d "law" "law" st [x]) (e:GF K "law" st):
  ∃fd:FuncData,(∀(s:Shared) (v:Value),BindsTo s fd ⟨[v],[]⟩ [(x,v)])∧∀base:Heap,K.In base->base.Ns mainGlobals mg->aE P w K mg base CX0 (3*n+3) fa fd [x] (spD K (mN G n)):=by
 obtain ⟨f,a,fd,F⟩:=e;have e1:=hfa.symm.trans (mg_of X GG a);cases e1;refine ⟨fd,?_,fun base _ _=>CT.aE.okD ((tS (R base) n).fn _ _ _ _ _ (t.lk F))⟩;intro s v;obtain ⟨oc,od,kV,doc,pm,an,cdv,ct,osl,rfl,lk,hcd⟩:=F.ex;exact .of_eq (t.bd kV doc pm an cdv ct [v] rfl)
end IN
set_option autoImplicit true
set_option relaxedAutoImplicit true
open PySem IN CT
noncomputable def P.iT:IN.Def:={slots:=1,aw:=1,body:=[
(.ret (.and (.blt .isin [(.var 0),(.gl "int")]) (.nt (.blt .isin [(.var 0),(.gl "bool")]))) [0])]}
noncomputable def P.product:IN.Def:={slots:=3,aw:=1,body:=[
(.asg (.nm 1) (.lit (.int 1)) []),
(.fgt [2]),
(.for (.nm 2) (.var 0) [0] [(.asg (.nm 1) (.bin .mul (.var 1) (.var 2)) [1,2]),(.fgt [2])]),
(.ret (.var 1) [1])]}
noncomputable def P.fy:IN.Def:={slots:=1,aw:=1,body:=[
(.ife (.nt (.blt .isin [(.var 0),(.tup [(.gl "list"),(.gl "tuple")])])) [0] [(.ret (.lit (.bl false)) [])] []),
(.ife (.nt (.blt .all [(.comp 1 [] (.nm 0) (.var 0) (.lit (.bl true)) (.emit (.and (.fn "is_whole" [(.var 0)]) (.cmp .ge (.var 0) (.gl "LEAST_ROUND")))))])) [0] [(.ret (.lit (.bl false)) [])] []),
(.ret (.cmp .le (.fn "product" [(.var 0)]) (.gl "MOST_MEMBERS")) [0])]}
noncomputable def P.fw:IN.Def:={slots:=1,aw:=1,body:=[
(.ret (.blt .len [(.mth (.var 0) "members" [])]) [0])]}
noncomputable def P.cT:IN.Def:={slots:=2,aw:=2,init:=true,body:=[
(.ife (.nt (.fn "are_rounds" [(.var 1)])) [1] [(.rse "NoRounds" [] [])] []),
(.gN "rounds" (.blt .tuple [(.var 1)]) [1])]}
noncomputable def P.cZ:IN.Def:={slots:=3,aw:=1,body:=[
(.asg (.nm 1) (.lst [(.tup [])]) []),
(.fgt [2]),
(.for (.nm 2) (.fld (.var 0) "rounds") [0] [(.asg (.nm 1) (.comp 2 [2] (.nm 0) (.var 1) (.lit (.bl true)) (.loop (.nm 1) (.blt .range [(.var 2)]) (.lit (.bl true)) (.emit (.bin .add (.var 0) (.tup [(.var 1)]))))) [2,1]),(.fgt [2])]),
(.ret (.var 1) [1])]}
noncomputable def P.dQ:IN.Def:={slots:=2,aw:=2,body:=[
(.ife (.or (.nt (.blt .isin [(.var 1),(.gl "tuple")])) (.cmp .ne (.blt .len [(.var 1)]) (.blt .len [(.fld (.var 0) "rounds")]))) [1,0] [(.ret (.lit (.bl false)) [])] []),
(.ret (.blt .all [(.comp 2 [] (.tp [(.nm 0),(.nm 1)]) (.blt .zip [(.var 1),(.fld (.var 0) "rounds")]) (.lit (.bl true)) (.emit (.and (.fn "is_whole" [(.var 0)]) (.chn (.lit (.int 0)) (.var 0) (.var 1)))))]) [1,0])]}
noncomputable def P.cY:IN.Def:={slots:=1,aw:=1,body:=[
(.ret (.lit (.bl true)) [])]}
noncomputable def P.bU:IN.Def:={slots:=3,aw:=3,body:=[
(.ret (.blt .tuple [(.comp 3 [] (.tp [(.nm 0),(.nm 1),(.nm 2)]) (.blt .zip [(.var 1),(.var 2),(.fld (.var 0) "rounds")]) (.lit (.bl true)) (.emit (.bin .mod (.bin .add (.var 0) (.var 1)) (.var 2))))]) [1,2,0])]}
noncomputable def P.fT:IN.Def:={slots:=1,aw:=1,body:=[
(.ife (.or (.nt (.blt .isin [(.var 0),(.gl "Group")])) (.or (.nt (.mth (.var 0) "is_even" [])) (.cmp .gt (.mth (.var 0) "size" []) (.gl "MOST_LOWER")))) [0] [(.rse "NoLower" [] [])] [])]}
noncomputable def P.fV:IN.Def:={slots:=1,aw:=1,body:=[
(.ife (.or (.nt (.blt .isin [(.var 0),(.gl "Rounds")])) (.cmp .gt (.mth (.var 0) "size" []) (.gl "MOST_UPPER"))) [0] [(.rse "NoUpper" [] [])] [])]}
noncomputable def P.iX:IN.Def:={slots:=2,aw:=1,body:=[
(.asg (.nm 1) (.mth (.var 0) "members" []) [0]),
(.ret (.comp 2 [1] (.nm 0) (.var 1) (.lit (.bl true)) (.loop (.nm 1) (.var 2) (.lit (.bl true)) (.emit (.tup [(.var 0),(.var 1)])))) [1])]}
noncomputable def P.dj:IN.Def:={slots:=7,aw:=3,body:=[
(.asg (.nm 3) .fF []),
(.fgt [4,5,6]),
(.for (.tp [(.nm 4),(.nm 5)]) (.fn "pairs_of" [(.var 1)]) [1] [(.asg (.nm 6) (.mth (.var 2) "get" [(.tup [(.var 4),(.var 5)])]) [2,4,5]),(.ife (.nt (.mth (.var 0) "has" [(.var 6)])) [0,6] [(.rse "NoCarry" [(.var 4),(.var 5)] [4,5])] []),(.put 3 (.tup [(.var 4),(.var 5)]) (.var 6) [4,5,6]),(.fgt [4,5,6])]),
(.ret (.var 3) [3])]}
noncomputable def P.c4:IN.Def:={slots:=4,aw:=4,init:=true,body:=[
(.exp (.fn "need_lower" [(.var 1)]) [1]),
(.exp (.fn "need_upper" [(.var 2)]) [2]),
(.gN "lower" (.var 1) [1]),
(.gN "upper" (.var 2) [2]),
(.gN "kept" (.fn "picked_carries" [(.var 1),(.var 2),(.var 3)]) [1,2,3])]}
noncomputable def P.eY:IN.Def:={slots:=3,aw:=3,body:=[
(.ret (.ix (.fld (.var 0) "kept") (.tup [(.var 1),(.var 2)])) [0,1,2])]}
noncomputable def P.dG:IN.Def:={slots:=1,aw:=1,body:=[
(.ret (.blt .dict [(.fld (.var 0) "kept")]) [0])]}
noncomputable def P.gx:IN.Def:={slots:=4,aw:=1,body:=[
(.asg (.nm 1) (.mth (.var 0) "carries" []) [0]),
(.fgt [2,3]),
(.for (.tp [(.nm 2),(.nm 3)]) (.fn "pairs_of" [(.fld (.var 0) "upper")]) [0] [(.ife (.cmp .ne (.ix (.var 1) (.tup [(.var 2),(.var 3)])) (.ix (.var 1) (.tup [(.var 3),(.var 2)]))) [1,3,2] [(.ret (.tup [(.var 2),(.var 3)]) [2,3])] []),(.fgt [2,3])]),
(.ret (.lit .non) [])]}
noncomputable def L.cell:IN.Def:={slots:=4,aw:=2,body:=[
(.asg (.nm 2) (.lit (.int 0)) []),
(.ife (.cmp .gt (.blt .len [(.var 0)]) (.lit (.int 0))) [0] [(.asg (.nm 2) (.ix (.var 0) (.bin .mod (.var 1) (.blt .len [(.var 0)]))) [1,0])] []),
(.ife (.cmp .eq (.bin .mod (.blt .sum [(.var 0)]) (.lit (.int 2))) (.lit (.int 1))) [0] [(.ret (.var 2) [2])] []),
(.asg (.nm 3) (.bin .mod (.bin .mul (.bin .add (.bin .add (.bin .mod (.var 2) (.lit (.int 1000000007))) (.bin .mul (.lit (.int 7919)) (.var 1))) (.lit (.int 11))) (.lit (.int 48271))) (.lit (.int 2147483647))) [2,1]),
(.ret (.bin .add (.bin .mul (.bin .mod (.bin .add (.bin .mul (.var 3) (.lit (.int 69621))) (.bin .mul (.lit (.int 17)) (.var 1))) (.lit (.int 2147483629))) (.lit (.int 2147483647))) (.bin .mod (.bin .mul (.var 3) (.lit (.int 16807))) (.lit (.int 2147483647)))) [1,3])]}
noncomputable def L.rounds:IN.Def:={slots:=6,aw:=3,body:=[
(.asg (.nm 3) (.lst []) []),
(.asg (.nm 4) (.var 1) [1]),
(.fgt [5]),
(.for (.nm 5) (.blt .range [(.lit (.int 3))]) [] [(.ife (.and (.cmp .gt (.var 4) (.lit (.int 1))) (.cmp .gt (.bin .mod (.var 0) (.lit (.int 5))) (.lit (.int 0)))) [4,0] [(.app 3 (.bin .add (.lit (.int 2)) (.bin .mod (.bin .fdiv (.var 0) (.lit (.int 5))) (.bin .sub (.blt .min [(.var 4),(.var 2)]) (.lit (.int 1))))) [0,4,2]),(.asg (.nm 4) (.bin .fdiv (.var 4) (.ix (.var 3) (.neg (.lit (.int 1))))) [4,3])] []),(.asg (.nm 0) (.bin .fdiv (.var 0) (.lit (.int 101))) [0]),(.fgt [5])]),
(.ret (.blt .tuple [(.var 3)]) [3])]}
noncomputable def L.members:IN.Def:={slots:=6,aw:=1,body:=[
(.asg (.nm 1) (.lst [(.tup [])]) []),
(.fgt [2,3,4,5]),
(.for (.nm 2) (.var 0) [0] [(.asg (.nm 3) (.lst []) []),(.fgt [4,5]),(.for (.nm 4) (.var 1) [1] [(.fgt [5]),(.for (.nm 5) (.blt .range [(.var 2)]) [2] [(.app 3 (.bin .add (.var 4) (.tup [(.var 5)])) [4,5]),(.fgt [5])]),(.fgt [4,5])]),(.mov 1 3),(.fgt [2,3,4,5])]),
(.ret (.var 1) [1])]}
noncomputable def L.added:IN.Def:={slots:=3,aw:=3,body:=[
(.ret (.blt .tuple [(.comp 1 [0,1,2] (.nm 0) (.blt .range [(.blt .len [(.var 0)])]) (.lit (.bl true)) (.emit (.bin .mod (.bin .add (.ix (.var 2) (.var 0)) (.ix (.var 3) (.var 0))) (.ix (.var 1) (.var 0)))))]) [1,2,0])]}
noncomputable def L.times:IN.Def:={slots:=3,aw:=3,body:=[
(.ret (.blt .tuple [(.comp 1 [1,0,2] (.nm 0) (.blt .range [(.blt .len [(.var 0)])]) (.lit (.bl true)) (.emit (.bin .mod (.bin .mul (.var 1) (.ix (.var 3) (.var 0))) (.ix (.var 2) (.var 0)))))]) [1,2,0])]}
noncomputable def L.element:IN.Def:={slots:=4,aw:=2,body:=[
(.asg (.nm 2) (.lst []) []),
(.fgt [3]),
(.for (.nm 3) (.var 0) [0] [(.app 2 (.bin .mod (.var 1) (.var 3)) [1,3]),(.asg (.nm 1) (.bin .fdiv (.var 1) (.var 3)) [1,3]),(.fgt [3])]),
(.ret (.blt .tuple [(.var 2)]) [2])]}
noncomputable def L.table:IN.Def:={slots:=11,aw:=3,body:=[
(.asg (.nm 3) (.fn "_law_members" [(.var 1)]) [1]),
(.asg (.nm 4) .fF []),
(.fgt [5]),
(.for (.tp [(.nm 5),(.nm 6)]) (.blt .enum [(.var 3)]) [3] [(.put 4 (.var 6) (.fn "_law_element" [(.var 0),(.bin .fdiv (.ix (.var 2) (.lit (.int 1))) (.bin .add (.bin .mul (.lit (.int 7)) (.var 5)) (.lit (.int 1))))]) [6,0,2,5]),(.fgt [5])]),
(.asg (.nm 7) .fF []),
(.fgt [8,9,10]),
(.for (.nm 6) (.var 3) [3] [(.fgt [8,9,10]),(.for (.nm 8) (.var 3) [3] [(.asg (.nm 9) (.fn "_law_added" [(.var 0),(.ix (.var 4) (.var 6)),(.ix (.var 4) (.var 8))]) [0,6,4,8]),(.asg (.nm 9) (.fn "_law_added" [(.var 0),(.var 9),(.fn "_law_times" [(.var 0),(.neg (.lit (.int 1))),(.ix (.var 4) (.fn "_law_added" [(.var 1),(.var 6),(.var 8)]))])]) [9,0,4,1,6,8]),(.fgt [10]),(.for (.nm 10) (.blt .range [(.blt .len [(.var 1)])]) [1] [(.ife (.cmp .ge (.bin .add (.ix (.var 6) (.var 10)) (.ix (.var 8) (.var 10))) (.ix (.var 1) (.var 10))) [6,8,1,10] [(.asg (.nm 9) (.fn "_law_added" [(.var 0),(.var 9),(.fn "_law_element" [(.var 0),(.bin .fdiv (.ix (.var 2) (.lit (.int 0))) (.bin .add (.bin .mul (.lit (.int 5)) (.var 10)) (.lit (.int 1))))])]) [9,0,2,10])] []),(.fgt [10])]),(.put 7 (.tup [(.var 6),(.var 8)]) (.var 9) [6,8,9]),(.fgt [8,9,10])]),(.fgt [8,9,10])]),
(.ret (.var 7) [7])]}
set_option autoImplicit true
set_option relaxedAutoImplicit true
open PySem IN CT
noncomputable def P.bt:IN.Def:={slots:=11,aw:=1,body:=[
(.asg (.nm 1) (.fld (.var 0) "lower") [0]),
(.asg (.nm 2) (.mth (.var 0) "carries" []) [0]),
(.asg (.nm 3) (.mth (.fld (.var 0) "upper") "members" []) [0]),
(.asg (.nm 4) (.fn "pairs_of" [(.fld (.var 0) "upper")]) [0]),
(.asg (.nm 7) (.bN 2 [0] (.tp [(.nm 0),(.nm 1)]) (.var 4) (.tup [(.var 0),(.var 1)]) (.mth (.fld (.var 2) "upper") "sum_of" [(.var 0),(.var 1)])) [0,4]),
(.fgt [5,6,8,9,10]),
(.for (.tp [(.nm 5),(.nm 6)]) (.var 4) [4] [(.fgt [8,9,10]),(.for (.nm 8) (.var 3) [3] [(.asg (.nm 9) (.mth (.var 1) "sum_of" [(.ix (.var 2) (.tup [(.var 5),(.var 6)])),(.ix (.var 2) (.tup [(.ix (.var 7) (.tup [(.var 5),(.var 6)])),(.var 8)]))]) [1,2,7,5,6,8]),(.asg (.nm 10) (.mth (.var 1) "sum_of" [(.ix (.var 2) (.tup [(.var 6),(.var 8)])),(.ix (.var 2) (.tup [(.var 5),(.ix (.var 7) (.tup [(.var 6),(.var 8)]))]))]) [1,2,5,7,6,8]),(.ife (.cmp .ne (.var 9) (.var 10)) [9,10] [(.ret (.tup [(.var 5),(.var 6),(.var 8)]) [5,6,8])] []),(.fgt [8,9,10])]),(.fgt [5,6,8,9,10])]),
(.ret (.lit .non) [])]}
set_option autoImplicit true
set_option relaxedAutoImplicit true
open PySem IN CT
noncomputable def P.g0:IN.Def:={slots:=2,aw:=2,body:=[
(.ret (.and (.mth (.fld (.var 0) "lower") "like" [(.fld (.var 1) "lower")]) (.mth (.fld (.var 0) "upper") "like" [(.fld (.var 1) "upper")])) [0,1])]}
noncomputable def P.alike:IN.Def:={slots:=2,aw:=2,body:=[
(.ret (.and (.fn "over_like" [(.var 0),(.var 1)]) (.cmp .eq (.mth (.var 0) "carries" []) (.mth (.var 1) "carries" []))) [0,1])]}
noncomputable def P.cH:IN.Def:={slots:=2,aw:=2,body:=[
(.ret (.and (.blt .isin [(.var 1),(.gl "Rounds")]) (.cmp .eq (.fld (.var 0) "rounds") (.fld (.var 1) "rounds"))) [0,1])]}
set_option autoImplicit true
set_option relaxedAutoImplicit true
open PySem IN CT
noncomputable def P.fU:IN.Def:={slots:=2,aw:=1,body:=[
(.asg (.nm 1) (.fn "break_of_three" [(.var 0)]) [0]),
(.ife (.mV (.var 1)) [1] [(.rse "NoTower" [(.var 1)] [1])] [])]}
noncomputable def P.eV:IN.Def:={slots:=2,aw:=1,body:=[
(.asg (.nm 1) (.mth (.var 0) "members" []) [0]),
(.ret (.bN 1 [0,1] (.nm 0) (.var 1) (.var 0) (.bN 1 [0,1] (.nm 0) (.var 2) (.var 0) (.mth (.var 2) "sum_of" [(.var 1),(.var 0)]))) [0,1])]}
noncomputable def P.c7:IN.Def:={slots:=2,aw:=2,init:=true,body:=[
(.exp (.fn "need_three" [(.var 1)]) [1]),
(.gN "table" (.var 1) [1]),
(.gN "below" (.fn "sums_within" [(.fld (.var 1) "lower")]) [1])]}
noncomputable def P.gh:IN.Def:={slots:=2,aw:=1,body:=[
(.asg (.nm 1) (.mth (.fld (.fld (.var 0) "table") "upper") "members" []) [0]),
(.ret (.comp 2 [1] (.nm 0) (.mth (.fld (.fld (.var 0) "table") "lower") "members" []) (.lit (.bl true)) (.loop (.nm 1) (.var 2) (.lit (.bl true)) (.emit (.tup [(.var 0),(.var 1)])))) [1,0])]}
noncomputable def P.ku:IN.Def:={slots:=2,aw:=2,body:=[
(.ife (.or (.nt (.blt .isin [(.var 1),(.gl "tuple")])) (.cmp .ne (.blt .len [(.var 1)]) (.lit (.int 2)))) [1] [(.ret (.lit (.bl false)) [])] []),
(.ret (.and (.mth (.fld (.fld (.var 0) "table") "lower") "has" [(.ix (.var 1) (.lit (.int 0)))]) (.mth (.fld (.fld (.var 0) "table") "upper") "has" [(.ix (.var 1) (.lit (.int 1)))])) [0,1])]}
noncomputable def P.fx:IN.Def:={slots:=2,aw:=2,body:=[
(.ret (.and (.blt .isin [(.var 1),(.gl "Tower")]) (.fn "alike" [(.fld (.var 0) "table"),(.fld (.var 1) "table")])) [0,1])]}
noncomputable def P.gg:IN.Def:={slots:=1,aw:=1,body:=[
(.ret (.isN (.fn "break_of_two" [(.fld (.var 0) "table")])) [0])]}
noncomputable def P.gk:IN.Def:={slots:=8,aw:=3,body:=[
(.asg (.tp [(.nm 3),(.nm 4)]) (.var 1) [1]),
(.asg (.tp [(.nm 5),(.nm 6)]) (.var 2) [2]),
(.asg (.nm 7) (.ix (.ix (.fld (.var 0) "below") (.ix (.ix (.fld (.var 0) "below") (.var 3)) (.var 5))) (.mth (.fld (.var 0) "table") "carry_of" [(.var 4),(.var 6)])) [3,5,0,4,6]),
(.ret (.tup [(.var 7),(.mth (.fld (.fld (.var 0) "table") "upper") "sum_of" [(.var 4),(.var 6)])]) [7,0,4,6])]}
noncomputable def L.high:IN.Def:={slots:=7,aw:=2,body:=[
(.asg (.nm 2) .fF []),
(.for (.nm 3) (.tup [(.lit (.int 0)),(.lit (.int 1))]) [] [(.for (.nm 4) (.tup [(.lit (.int 0)),(.lit (.int 1))]) [] [(.put 2 (.tup [(.tup [(.var 3)]),(.tup [(.var 4)])]) (.tup [(.bin .mod (.bin .add (.bin .mul (.bin .mul (.bin .mod (.var 0) (.lit (.int 2))) (.var 3)) (.var 4)) (.bin .fdiv (.var 0) (.lit (.int 2)))) (.lit (.int 2)))]) [3,4,0])])]),
(.asg (.nm 5) (.fn "Tower" [(.fn "Table" [(.fn "Rounds" [(.lst [(.lit (.int 2))])]),(.fn "Rounds" [(.lst [(.lit (.int 2))])]),(.var 2)])]) [2]),
(.asg (.nm 6) .fF []),
(.for (.nm 3) (.fn "_law_members" [(.tup [(.lit (.int 2))])]) [] [(.for (.nm 4) (.fn "_law_members" [(.tup [(.lit (.int 2))])]) [] [(.put 6 (.tup [(.var 3),(.var 4)]) (.tup [(.tup [(.bin .mod (.var 1) (.lit (.int 2)))]),(.tup [(.bin .mod (.bin .fdiv (.var 1) (.lit (.int 2))) (.lit (.int 2)))])]) [3,4,1])])]),
(.ret (.fn "Tower" [(.fn "Table" [(.var 5),(.fn "Rounds" [(.lst [(.lit (.int 2))])]),(.var 6)])]) [5,6])]}
noncomputable def L.truth:IN.Def:={slots:=2,aw:=2,body:=[
(.ret (.and (.blt .isin [(.var 0),(.gl "bool")]) (.cmp .eq (.var 0) (.var 1))) [0,1])]}
noncomputable def L.cN:IN.Def:={slots:=14,aw:=1,body:=[
(.asg (.nm 1) (.fn "_law_rounds" [(.fn "_law_cell" [(.var 0),(.lit (.int 0))]),(.lit (.int 16)),(.lit (.int 16))]) [0]),
(.asg (.nm 2) (.var 1) [1]),
(.asg (.nm 3) (.fn "_law_cell" [(.var 0),(.lit (.int 1))]) [0]),
(.ife (.cmp .eq (.bin .mod (.var 3) (.lit (.int 3))) (.lit (.int 1))) [3] [(.asg (.nm 2) (.bin .add (.sl (.var 1) (.lit (.int 1)) .nop) (.sl (.var 1) .nop (.lit (.int 1)))) [1])] []),
(.ife (.cmp .eq (.bin .mod (.var 3) (.lit (.int 3))) (.lit (.int 2))) [3] [(.asg (.nm 2) (.fn "_law_rounds" [(.fn "_law_cell" [(.var 0),(.lit (.int 2))]),(.lit (.int 16)),(.lit (.int 16))]) [0])] []),
(.ife (.nt (.fn "_law_truth" [(.mth (.fn "Rounds" [(.var 1)]) "like" [(.fn "Rounds" [(.blt .list [(.var 2)])])]),(.cmp .eq (.var 1) (.var 2))])) [1,2] [(.ret (.lit (.bl false)) [])] []),
(.asg (.nm 4) (.fn "_law_rounds" [(.fn "_law_cell" [(.var 0),(.lit (.int 3))]),(.lit (.int 4)),(.lit (.int 4))]) [0]),
(.asg (.nm 5) (.var 4) [4]),
(.ife (.cmp .eq (.bin .mod (.bin .fdiv (.var 3) (.lit (.int 3))) (.lit (.int 3))) (.lit (.int 1))) [3] [(.asg (.nm 5) (.fn "_law_rounds" [(.fn "_law_cell" [(.var 0),(.lit (.int 4))]),(.lit (.int 4)),(.lit (.int 4))]) [0])] []),
(.asg (.nm 6) (.lst [(.fn "_law_cell" [(.var 0),(.lit (.int 5))]),(.fn "_law_cell" [(.var 0),(.lit (.int 6))])]) [0]),
(.asg (.nm 7) (.blt .list [(.var 6)]) [6]),
(.ife (.cmp .eq (.bin .mod (.bin .fdiv (.var 3) (.lit (.int 9))) (.lit (.int 3))) (.lit (.int 1))) [3] [(.put 7 (.bin .mod (.bin .fdiv (.var 3) (.lit (.int 27))) (.lit (.int 2))) (.fn "_law_cell" [(.var 0),(.lit (.int 7))]) [3,0])] []),
(.asg (.nm 8) (.fn "_law_table" [(.var 1),(.var 4),(.var 6)]) [1,4,6]),
(.asg (.nm 9) (.fn "_law_table" [(.var 2),(.var 5),(.var 7)]) [2,5,7]),
(.asg (.nm 10) (.lst [(.fn "Tower" [(.fn "Table" [(.fn "Rounds" [(.var 1)]),(.fn "Rounds" [(.var 4)]),(.var 8)])]),(.fn "Tower" [(.fn "Table" [(.fn "Rounds" [(.var 2)]),(.fn "Rounds" [(.var 5)]),(.var 9)])])]) [1,4,8,2,5,9]),
(.asg (.nm 11) (.and (.cmp .eq (.var 1) (.var 2)) (.and (.cmp .eq (.var 4) (.var 5)) (.cmp .eq (.var 8) (.var 9)))) [1,2,4,5,8,9]),
(.ife (.or (.nt (.fn "_law_truth" [(.mth (.ix (.var 10) (.lit (.int 0))) "like" [(.ix (.var 10) (.lit (.int 1)))]),(.var 11)])) (.nt (.fn "_law_truth" [(.mth (.ix (.var 10) (.lit (.int 1))) "like" [(.ix (.var 10) (.lit (.int 0)))]),(.var 11)]))) [10,11] [(.ret (.lit (.bl false)) [])] []),
(.ife (.or (.nt (.fn "_law_truth" [(.mth (.ix (.var 10) (.lit (.int 0))) "like" [(.fn "Rounds" [(.var 1)])]),(.lit (.bl false))])) (.nt (.fn "_law_truth" [(.mth (.fn "Rounds" [(.var 4)]) "like" [(.ix (.var 10) (.lit (.int 0)))]),(.lit (.bl false))]))) [1,4,10] [(.ret (.lit (.bl false)) [])] []),
(.ife (.nt (.fn "_law_truth" [(.mth (.ix (.var 10) (.lit (.int 1))) "like" [(.ix (.var 10) (.lit (.int 1)))]),(.lit (.bl true))])) [10] [(.ret (.lit (.bl false)) [])] []),
(.asg (.nm 12) (.fn "_law_cell" [(.var 0),(.lit (.int 8))]) [0]),
(.asg (.nm 13) (.lst [(.fn "_law_high" [(.bin .mod (.var 12) (.lit (.int 4))),(.bin .mod (.bin .fdiv (.var 12) (.lit (.int 64))) (.lit (.int 8)))]),(.fn "_law_high" [(.bin .mod (.ix (.lst [(.var 12),(.bin .fdiv (.var 12) (.lit (.int 4)))]) (.bin .mod (.bin .fdiv (.var 12) (.lit (.int 16))) (.lit (.int 2)))) (.lit (.int 4))),(.bin .mod (.bin .fdiv (.var 12) (.lit (.int 64))) (.lit (.int 8)))])]) [12]),
(.asg (.nm 11) (.or (.cmp .eq (.bin .mod (.bin .fdiv (.var 12) (.lit (.int 16))) (.lit (.int 2))) (.lit (.int 0))) (.cmp .eq (.bin .mod (.var 12) (.lit (.int 4))) (.bin .mod (.bin .fdiv (.var 12) (.lit (.int 4))) (.lit (.int 4))))) [12]),
(.ret (.and (.fn "_law_truth" [(.mth (.ix (.var 13) (.lit (.int 0))) "like" [(.ix (.var 13) (.lit (.int 1)))]),(.var 11)]) (.fn "_law_truth" [(.mth (.ix (.var 13) (.lit (.int 1))) "like" [(.ix (.var 13) (.lit (.int 0)))]),(.var 11)])) [13,11])]}
set_option autoImplicit true
set_option relaxedAutoImplicit true
namespace PL
open PySem PySem.Spec L2 CT IN
open PyProof.Rows hiding St
local macro_rules|`(tactic|simp? [$ls,*])=>do
 let m<-("af aC List.modify_zero_cons List.modify_succ_cons aQ List.getElem?_cons_zero List.getElem?_cons_succ List.length_cons List.length_nil Nat.reduceAdd Nat.reduceLT if_true List.set_cons_succ List.set_cons_zero Rs.val Ow.D kp ak aP".splitOn " ").toArray.mapM fun s=>`(Lean.Parser.Tactic.simpLemma|$(Lean.mkIdent s.toName):ident)
 let a:=(ls.getElems.map fun x=>(.mk x.raw:Lean.TSyntax `Lean.Parser.Tactic.simpLemma))++m
 `(tactic|simp only [$a,*])
section
variable {G:Prg} {cl:Str->List D->Option Rs} {ρ ρ':Rho} {s:CS'} {r:List CS'} {o:Option Oc} {n:Nat} {k:Str} {d:Def} {ds:List D} {x:D}
theorem st (h1:IN.aa G cl s ρ=some (.nx ρ')) (h2:IN.run G cl r ρ'=o):IN.run G cl (s::r) ρ=o:=by rw [IN.run,h1];exact h2
theorem bf (h1:IN.aa G cl s ρ=some (.rt x)):IN.run G cl (s::r) ρ=some (.rt x):=by rw [IN.run,h1]
theorem f6 (h1:IN.aa G cl s ρ=some (.fr c)):IN.run G cl (s::r) ρ=some (.fr c):=by rw [IN.run,h1]
theorem aI:IN.run G cl [] ρ=some (.nx ρ):=by rw [IN.run]
theorem aV (hd:G.defs k=some (none,d)) (hl:ds.length=d.aw∧d.init=false) (h0:ds.map .val++List.replicate (d.slots - ds.length) .nil=ρ0) (h:IN.run G (kal G n) d.body ρ0=some (.rt x)):kal G (n+1) k ds=some (.ok x):=by
 rw [kal,hd];dsimp only;rw [dE,if_pos hl,h0,h]
theorem mK (hd:G.defs k=some (none,d)) (hl:ds.length=d.aw∧d.init=false) (h0:ds.map .val++List.replicate (d.slots - ds.length) .nil=ρ0) (h:IN.run G (kal G n) d.body ρ0=some (.nx ρ)):kal G (n+1) k ds=some (.ok .non):=by
 rw [kal,hd];dsimp only;rw [dE,if_pos hl,h0,h]
theorem ei (hd:G.defs k=some (none,d)) (hl:ds.length=d.aw∧d.init=false) (h0:ds.map .val++List.replicate (d.slots - ds.length) .nil=ρ0) (h:IN.run G (kal G n) d.body ρ0=some (.fr c)):kal G (n+1) k ds=some (.fr c):=by
 rw [kal,hd];dsimp only;rw [dE,if_pos hl,h0,h]
theorem jY (hd:G.defs k=some (some C,d)) (hl:ds.length+1=d.aw∧d.init=true) (h0:ds.map .val++List.replicate (d.slots - (ds.length+1)) .nil=ρ0) (h:IN.run G (kal G n) d.body (.new C 0 0 []::ρ0)=some (.nx (.new C a b fs::ρ))):kal G (n+1) k ds=some (.ok (.ins C fs)):=by
 rw [kal,hd];dsimp only;rw [dE,if_pos hl,h0,h];dsimp only [List.getElem?_cons_zero];rw [if_pos rfl]
variable {α β:Type} {t:Tg} {b:List CS'} {g:α->D} {it:CE} {L:List Nat}
theorem ux (R:List α->Rho) (all:List α) (h:∀(done:List α) (a:α) (rest:List α),all=done++a::rest->∃ρ1,ak t (g a) (R done)=some ρ1∧bb ρ1=some (.nx (R (done++[a])))):
  forL t bb (all.map g) (R [])=some (.nx (R all)):=by
 have go:∀(l done:List α),all=done++l->forL t bb (l.map g) (R done)=some (.nx (R (done++l))):=by
  intro l
  induction l with
  |nil=>intro done _;rw [List.append_nil];rfl
  |cons a l ih=>
   intro done e;obtain ⟨ρ1,h1,h2⟩:=h done a l e;rw [List.map_cons,forL,h1];dsimp only;rw [h2];dsimp only;rw [ih (done++[a]) (by rw [e,EB];rfl),EB];rfl
 exact go all [] rfl
theorem eK (R:List α->Rho) (all:List α) (hi:evI G cl it (af L ρ)=some (all.map g)) (h0:af L ρ=R [])
  (h:∀(done:List α) (a:α) (rest:List α),all=done++a::rest->∃ρ1,ak t (g a) (R done)=some ρ1∧IN.run G cl b ρ1=some (.nx (R (done++[a])))):IN.aa G cl (.for t it L b) ρ=some (.nx (R all)):=by
 rw [IN.aa,hi];dsimp only;rw [h0];exact ux R all h
theorem fD:∀{l:List α},(∀a∈l,f (g a)=some (u a))->iN f (l.map g)=some (l.flatMap u)
 |[],_=>rfl
 |a::l,h=>by
  rw [List.map_cons,iN,h a Eo];dsimp only;rw [fD fun b hb=>h b (En _ hb)];rfl
theorem iA {u:α->D} {l:List α}:(l.flatMap fun a=>[u a])=l.map u:=by
 induction l with
 |nil=>rfl
 |cons a l ih=>rw [List.flatMap_cons,ih];rfl
theorem jk {w:Nat} {cap:List Nat} {it e:CE} {l:List α} {u:α->D} (hi:evI G cl it ρ=some (l.map g)) (hw:((tks t).all fun k=>k<w)=true) (hz:l.length<=sizeLine)
  (h:∀a∈l,∃ρ1,ak t (g a) (cz w cap ρ)=some ρ1∧ev G cl e ρ1=some (u a)):ev G cl (.comp w cap t it (.lit (.bl true)) (.emit e)) ρ=some (.lst (l.map u)):=by
 rw [ev,hi];dsimp only;rw [if_pos hw];rw [fD (g:=g) (u:=fun a=>[u a]) (l:=l),iA]
 ·dsimp only;rw [if_pos (by rw [Ez];exact hz)]
 ·intro a ha;obtain ⟨ρ1,h1,h2⟩:=h a ha;rw [h1];dsimp only;rw [evT];dsimp only;rw [evB,h2]
theorem rL {w:Nat} {cap:List Nat} {it it2 e:CE} {t2:Tg} {l:List α} {m:α->List β} {g2:β->D} {u:α->β->D} (hi:evI G cl it ρ=some (l.map g)) (hw:((tks t).all fun k=>k<w)=true) (hz:(l.flatMap fun a=>(m a).map (u a)).length<=sizeLine)
  (h:∀a∈l,∃ρ1,ak t (g a) (cz w cap ρ)=some ρ1∧evI G cl it2 ρ1=some ((m a).map g2)∧((tks t2).all fun k=>k<w&&isNil ρ1[k]?)=true∧∀b∈m a,∃ρ2,ak t2 (g2 b) ρ1=some ρ2∧ev G cl e ρ2=some (u a b)):
  ev G cl (.comp w cap t it (.lit (.bl true)) (.loop t2 it2 (.lit (.bl true)) (.emit e))) ρ=some (.lst (l.flatMap fun a=>(m a).map (u a))):=by
 rw [ev,hi];dsimp only;rw [if_pos hw];rw [fD (g:=g) (u:=fun a=>(m a).map (u a)) (l:=l)]
 ·dsimp only;rw [if_pos hz]
 ·intro a ha;obtain ⟨ρ1,h1,h2,h3,h4⟩:=h a ha;rw [h1];dsimp only;rw [evT];dsimp only;rw [evB,h2];dsimp only;rw [if_pos h3,fD (g:=g2) (u:=fun b=>[u a b]) (l:=m a),iA];intro b hb;obtain ⟨ρ2,z1,z2⟩:=h4 b hb;rw [z1];dsimp only;rw [evT];dsimp only;rw [evB,z2]
end
theorem pQ:bM G (.int i) (.ty c)=G.kit (.ty "int") (.ty c):=rfl
theorem pO:bM G (.bl i) (.ty c)=G.kit (.ty "bool") (.ty c):=rfl
theorem pS:bM G .non (.ty c)=G.kit (.ty "NoneType") (.ty c):=rfl
theorem pU:bM G (.str x) (.ty c)=G.kit (.ty "str") (.ty c):=rfl
theorem lN:bM G (.tup xs) (.ty c)=G.kit (.ty "tuple") (.ty c):=rfl
theorem pR:bM G (.lst xs) (.ty c)=G.kit (.ty "list") (.ty c):=rfl
theorem pT:bM G (.pdc xs) (.ty c)=G.kit (.ty "dict") (.ty c):=rfl
theorem pP:bM G (.ins C fs) (.cl E)=G.kit (.cl C) (.cl E):=rfl
theorem pV:bM G (.exc C fs) (.cl E)=G.kit (.xc C) (.cl E):=rfl
theorem mI:bM G (.exc C fs) (.ty c)=G.kit (.xc C) (.ty c):=rfl
theorem mH:bM G (.ins C fs) (.ty c)=G.kit (.cl C) (.ty c):=rfl
theorem Bs (h: -(2^62)<=j∧j<2^62):fZ j=true:=by unfold fZ;rw [EH (by omega),EH (by omega)];rfl
theorem lV (h: -(2^62)<=j∧j<2^62):gv .range [.int j]=some ((aq j).map D.int):=if_pos (Bs h)
theorem lW {n:Nat} (h:n<=1000000):gv .range [.int (n:Int)]=some ((aq n).map D.int):=lV (by omega)
theorem eL:br (.lst xs)=some xs:=rfl
theorem eM:br (.tup xs)=some xs:=rfl
theorem gO:itD (.lst xs)=some xs:=rfl
theorem pW:itD (.tup xs)=some xs:=rfl
theorem uB:itD (.pdc es)=some (es.map fun p=>PK.d p.1):=rfl
theorem ic:ixD (.lst xs) (.int i)=atI xs i:=rfl
theorem ju:ixD (.tup xs) (.int i)=atI xs i:=rfl
theorem vS (h:b_ kd=some (.t l)) (hd:(PK.t l).dp<=8):ixD (.pdc es) kd=look es (.t l):=by
 cases kd<;>first|(cases h;done)|(show (match b_ _ with|some (PK.t l)=>_|_=>none)=_;rw [h];show (if (PK.t l).dp<=8 then look es (.t l) else none)=_;rw [if_pos hd])
theorem dX (h:j.natAbs<2^64):bH i j=true:=by unfold bH;rw [EH h];simp
theorem ij (h:i.natAbs<2^64):bH i j=true:=by unfold bH;rw [EH h];simp
theorem iB:∀ns:List Int,intsOf (ns.map .int)=some ns
 |[]=>rfl
 |n::ns=>by rw [List.map_cons,intsOf,iB ns]
theorem eO:∀ns:List Bool,boolsOf (ns.map .bl)=some ns
 |[]=>rfl
 |n::ns=>by rw [List.map_cons,boolsOf,eO ns]
theorem fY:∀ns:List Int,fX (ns.map .int)=some (ns.map .i)
 |[]=>rfl
 |n::ns=>by rw [List.map_cons,fX,b_];dsimp only;rw [fY ns];rfl
noncomputable def prod:List Int->Int:=List.foldl (·*·) 1
theorem eJ (l:List Int) (a:Int):prod (l++[a])=prod l*a:=by
 show List.foldl (·*·) 1 (l++[a])=_;rw [List.foldl_append];rfl
noncomputable def Sm (ns:List Int):Prop:=∀n∈ns, -(2^64)<n∧n<2^64
noncomputable def Big (ns:List Int):Prop:=∀n∈ns,2<=n∧n<2^64
theorem Big.sm (b:Big ns):Sm ns:=fun n h=>⟨by have:=(b n h).1;omega,(b n h).2⟩
noncomputable abbrev rf (ns:List Int):List (Str×D):=[(("rounds":Str),tupI ns)]
noncomputable def grp (C:Addr) (ns:List Int):D:=.ins C (rf ns)
structure Good (ns:List Int):Prop where
 ge:∀n∈ns,2<=n
 le:prod ns<=144
 lt:∀n∈ns,n<=144
 len:ns.length<=7
theorem Good.big (g:Good ns):Big ns:=fun n h=>⟨g.ge n h,by have:=g.lt n h;omega⟩
theorem Good.fR (g:Good ns):ns.length<=1000:=EE g.len (by decide)
noncomputable def hasB (ns ks:List Int):Bool:=(ks.zip ns).all fun p=>decide (0<=p.1)&&decide (p.1<p.2)
noncomputable def at0 (ns:List Int) (k:Int):Int:=ns.getD (k%(ns.length:Int)).toNat 0
noncomputable def mixed (c k:Int):Int:=
 ((c%1000000007+7919*k+11)*48271%2147483647*69621+17*k)%2147483629*2147483647+(c%1000000007+7919*k+11)*48271%2147483647*16807%2147483647
noncomputable def cell (ns:List Int) (k:Int):Int:=if ns.sum%2=1 then at0 ns k else mixed (at0 ns k) k
theorem y7 (h:0<ns.length):atI (lM ns) (k%(ns.length:Int))=some (.int (at0 ns k)):=by
 have h1:0<=k%(ns.length:Int):=Int.emod_nonneg _ (by omega);have h2:k%(ns.length:Int)<ns.length:=Int.emod_lt_of_pos _ (by omega);have e:k%(ns.length:Int)=(((k%(ns.length:Int)).toNat:Nat):Int):=by omega
 rw [e];refine nU ?_;have h3:(k%(ns.length:Int)).toNat<ns.length:=by omega
 simp [lM,at0,h3]
theorem iC:∀ks:List Int,b7 (ks.map .int)=true
 |[]=>rfl
 |k::ks=>by show (true&&b7 (ks.map .int))=true;rw [iC ks];rfl
theorem fO (ks:List Int):bc (tupI ks)=true:=iC ks
theorem jg:∀ks:List Int,PyData.depthAll (dS (ks.map .int))=0
 |[]=>rfl
 |k::ks=>by
  show max (PyData.depth (.int k)) (PyData.depthAll (dS (ks.map .int)))=0;rw [jg ks];rfl
theorem fE (ks:List Int):(toPy (tupI ks)).depth=1:=by
 show PyData.depthAll (dS (ks.map .int))+1=1;rw [jg]
noncomputable def step (found:List (List Int)) (n:Int):List (List Int):=found.flatMap fun b=>(aq n).map fun k=>b++[k]
noncomputable def mem (ns:List Int):List (List Int):=ns.foldl step [[]]
theorem fS (l:List Int) (a:Int):mem (l++[a])=step (mem l) a:=by
 show List.foldl step [[]] (l++[a])=_;rw [List.foldl_append];rfl
theorem oH:∀{b:List Int},b∈mem l->b.length=l.length:=by
 have go:∀(l:List Int) (acc:List (List Int)) (n:Nat),(∀b∈acc,b.length=n)->∀b∈l.foldl step acc,b.length=n+l.length:=by
  intro l
  induction l with
  |nil=>intro acc n h b hb;exact h b hb
  |cons a l ih=>
   intro acc n h b hb;rw [List.length_cons,←Nat.add_assoc,Nat.add_right_comm];refine ih (step acc a) (n+1) (fun c hc=>?_) b hb;obtain ⟨b',hb',hc'⟩:=List.mem_flatMap.mp hc;obtain ⟨k,_,rfl⟩:=Es.mp hc';rw [Ey,h b' hb'];rfl
 intro b hb;have:=go l [[]] 0 (fun b hb=>by rw [Et.mp hb];rfl) b hb;omega
theorem lg (b:List Int) (k:Int):D.tup (lM b++[.int k])=tupI (b++[k]):=by simp [tupI,lM]
noncomputable def Fit (ns:List Int):Prop:=∀l,l<+:ns->(mem l).length<=1000
noncomputable def ag (ns x y:List Int):List Int:=(x.zip (y.zip ns)).map fun p=>(p.1+p.2.1)%p.2.2
noncomputable def bB (ns:List Int) (m:Int) (x:List Int):List Int:=(x.zip ns).map fun p=>m*p.1%p.2
structure El (ns ks:List Int):Prop where
 len:ks.length=ns.length
 has:hasB ns ks=true
theorem kP:hasB (n::ns) (k::ks)=((decide (0<=k)&&decide (k<n))&&hasB ns ks):=by simp [hasB]
theorem El.nil:El [] []:=⟨rfl,rfl⟩
theorem El.cons (h1:0<=k) (h2:k<n) (e:El ns ks):El (n::ns) (k::ks):=⟨by simp [e.len],by rw [kP,e.has];simp [h1,h2]⟩
theorem El.inv (e:El (n::ns) ks):∃k r,ks=k::r∧0<=k∧k<n∧El ns r:=by
 cases ks with
 |nil=>have:=e.len;simp at this
 |cons k r=>
  have h:=e.has;rw [kP] at h;simp only [Bool.and_eq_true,decide_eq_true_eq] at h;exact ⟨k,r,rfl,h.1.1,h.1.2,⟨by have:=e.len;simpa using this,h.2⟩⟩
noncomputable def Ge2 (ns:List Int):Prop:=∀n∈ns,2<=n
theorem Ge2.tail (g:Ge2 (n::ns)):Ge2 ns:=fun k hk=>g k (En _ hk)
theorem Ge2.head (g:Ge2 (n::ns)):2<=n:=g n Eo
theorem bF:ag (n::ns) (a::x) (b::y)=(a+b)%n::ag ns x y:=rfl
theorem b9:bB (n::ns) m (a::x)=m*a%n::bB ns m x:=rfl
theorem fi {a n:Int} (h:2<=n):0<=a%n∧a%n<n:=⟨Int.emod_nonneg _ (by omega),Int.emod_lt_of_pos _ (by omega)⟩
theorem El.add:∀{ns x y:List Int},Ge2 ns->El ns x->El ns y->El ns (ag ns x y)
 |[],x,y,_,h1,h2=>by
  have e:x=[]:=Ev.mp h1.len;subst e;exact El.nil
 |n::ns,x,y,g,h1,h2=>by
  obtain ⟨a,x',rfl,_,_,hx⟩:=h1.inv;obtain ⟨b,y',rfl,_,_,hy⟩:=h2.inv;rw [bF];exact El.cons (fi g.head).1 (fi g.head).2 (El.add g.tail hx hy)
theorem El.mul {m:Int}:∀{ns x:List Int},Ge2 ns->El ns x->El ns (bB ns m x)
 |[],x,_,h1=>by
  have e:x=[]:=Ev.mp h1.len;subst e;exact El.nil
 |n::ns,x,g,h1=>by
  obtain ⟨a,x',rfl,_,_,hx⟩:=h1.inv;rw [b9];exact El.cons (fi g.head).1 (fi g.head).2 (El.mul g.tail hx)
theorem mR:∀{ns x:List Int},El ns x->bB ns 1 x=x
 |[],x,h1=>by
  have e:x=[]:=Ev.mp h1.len;subst e;rfl
 |n::ns,x,h1=>by
  obtain ⟨a,x',rfl,h2,h3,hx⟩:=h1.inv;rw [b9,mR hx,Int.one_mul,Int.emod_eq_of_lt h2 h3]
theorem k_:∀{ns x:List Int},El ns x->bB ns 0 x=List.replicate ns.length 0
 |[],x,h1=>by
  have e:x=[]:=Ev.mp h1.len;subst e;rfl
 |n::ns,x,h1=>by
  obtain ⟨a,x',rfl,h2,h3,hx⟩:=h1.inv;rw [b9,k_ hx,Int.zero_mul,Int.zero_emod];rfl
theorem add_mul:∀{ns x:List Int},El ns x->ag ns (bB ns a x) (bB ns b x)=bB ns (a+b) x
 |[],x,h1=>by
  have e:x=[]:=Ev.mp h1.len;subst e;rfl
 |n::ns,x,h1=>by
  obtain ⟨k,x',rfl,h2,h3,hx⟩:=h1.inv;rw [b9,b9,b9,bF,add_mul hx,Int.add_mul,←Int.add_emod]
theorem El.zero:∀{ns:List Int},Ge2 ns->El ns (List.replicate ns.length 0)
 |[],_=>El.nil
 |n::ns,g=>by
  show El (n::ns) (0::List.replicate ns.length 0);exact El.cons (Int.le_refl 0) (by have:=g.head;omega) (El.zero g.tail)
theorem ll:∀{x y ns:List Int},a_ (x.map .int) (y.map .int) (ns.map .int)=(x.zip (y.zip ns)).map fun p=>D.tup [.int p.1,.int p.2.1,.int p.2.2]
 |[],_,_=>by simp [a_]
 |_::_,[],_=>by simp [a_]
 |_::_,_::_,[]=>by simp [a_]
 |a::x,b::y,n::ns=>by simp [a_,ll]
theorem uN {x y ns:List Int} {p:Int×Int×Int} (h:p∈x.zip (y.zip ns)):p.2.2∈ns:=(List.of_mem_zip (List.of_mem_zip h).2).2
theorem Good.g2 (g:Good ns):Ge2 ns:=g.ge
noncomputable def mn (l gr:Int):Int:=if gr<l then gr else l
noncomputable def bR (gr c l:Int):Int:=2+c / 5%(mn l gr - 1)
structure MS where
 c:Int
 l:Int
 f:List Int
noncomputable def dB (gr:Int) (s:MS):MS:=if 1<s.l∧0<s.c%5 then ⟨s.c / 101,s.l / bR gr s.c s.l,s.f++[bR gr s.c s.l]⟩ else ⟨s.c / 101,s.l,s.f⟩
noncomputable def b8 (gr c most:Int) (ks:List Int):MS:=ks.foldl (fun s _=>dB gr s) ⟨c,most,[]⟩
noncomputable def many (gr c most:Int):List Int:=(b8 gr c most (aq 3)).f
theorem sj (gr c most:Int) (ks:List Int) (k:Int):b8 gr c most (ks++[k])=dB gr (b8 gr c most ks):=by
 show List.foldl _ _ (ks++[k])=_;rw [List.foldl_append];rfl
theorem oJ (h:1<l) (hg:2<=gr):2<=bR gr c l∧bR gr c l<=l:=by
 have h0:2<=mn l gr∧mn l gr<=l:=by unfold mn;split<;>omega
 have h1:0<=c / 5%(mn l gr - 1):=Int.emod_nonneg _ (by omega);have h2:c / 5%(mn l gr - 1)<mn l gr - 1:=Int.emod_lt_of_pos _ (by omega);unfold bR;omega
structure MOk (most:Int) (n:Nat) (s:MS):Prop where
 l1:1<=s.l
 l2:s.l<=144
 ge:∀k∈s.f,2<=k∧k<=144
 pr:prod s.f*s.l<=most
 p1:1<=prod s.f
 len:s.f.length<=n
theorem MOk.step (hg:2<=gr) (h:MOk most n s):MOk most (n+1) (dB gr s):=by
 unfold dB;split
 ·rename_i hc;obtain ⟨m1,m2⟩:=oJ (c:=s.c) hc.1 hg;have hd:bR gr s.c s.l*(s.l / bR gr s.c s.l)<=s.l:=Int.mul_ediv_self_le (by omega);refine ⟨?_,?_,fun j hj=>?_,?_,?_,?_⟩
  ·exact Int.le_ediv_of_mul_le (by omega) (by omega)
  ·exact Int.le_trans (Int.ediv_le_self _ (by have:=h.l1;omega)) h.l2
  ·rcases Ep.mp hj with z|z
   ·exact h.ge j z
   ·rw [Et.mp z];exact ⟨m1,Int.le_trans m2 h.l2⟩
  ·show prod (s.f++[_])*(s.l / bR gr s.c s.l)<=most;rw [eJ,Int.mul_assoc];exact Int.le_trans (Int.mul_le_mul_of_nonneg_left hd (by have:=h.p1;omega)) h.pr
  ·show 1<=prod (s.f++[_]);rw [eJ];have:=Int.mul_le_mul h.p1 (show (1:Int)<=bR gr s.c s.l by omega) (by decide) (by have:=h.p1;omega);simpa using this
  ·show (s.f++[_]).length<=n+1;have:=h.len
   simp;omega
 ·exact ⟨h.l1,h.l2,h.ge,h.pr,h.p1,Nat.le_succ_of_le h.len⟩
theorem j7 (hg:2<=gr) (h1:1<=most) (h2:most<=144) (ks:List Int):MOk most ks.length (b8 gr c most ks):=by
 have go:∀(ks:List Int) (n:Nat) (s:MS),MOk most n s->MOk most (n+ks.length) (ks.foldl (fun s _=>dB gr s) s):=by
  intro ks
  induction ks with
  |nil=>intro n s h;exact h
  |cons k ks ih=>
   intro n s h;have:=ih (n+1) (dB gr s) (h.step hg);rw [List.length_cons,show n+(ks.length+1)=n+1+ks.length by omega];exact this
 have:=go ks 0 ⟨c,most,[]⟩ ⟨h1,h2,(fun k hk=>by cases hk),(by show prod []*most<=most;simp [prod]),(by show (1:Int)<=prod [];decide),EG _⟩;rw [Nat.zero_add] at this;exact this
theorem k6 (hg:2<=gr) (h1:1<=most) (h2:most<=144):Good (many gr c most):=by
 have h:=j7 (c:=c) hg h1 h2 (aq 3);refine ⟨fun n hn=>(h.ge n hn).1,?_,fun n hn=>(h.ge n hn).2,?_⟩
 ·have:=h.pr;have l1:=h.l1;have p1:=h.p1;have h3:prod (b8 gr c most (aq 3)).f*1<=prod (b8 gr c most (aq 3)).f*(b8 gr c most (aq 3)).l:=Int.mul_le_mul_of_nonneg_left l1 (by omega);rw [Int.mul_one] at h3;exact Int.le_trans h3 (Int.le_trans this h2)
 ·have:=h.len;rw [show (aq 3).length=3 from rfl] at this;exact EE this (by decide)
noncomputable def gd (l:List Int) (k:Int):Int:=l.getD k.toNat 0
theorem eH {l:List Int} {k:Int} (h:0<=k) (h2:k<(l.length:Int)):atI (l.map D.int) k=some (.int (gd l k)):=by
 obtain ⟨j,rfl⟩:=Int.eq_ofNat_of_zero_le h;have h3:j<l.length:=by omega
 refine nU ?_;simp [gd,h3]
theorem gS {β:Type} (f:Int->β) (n:Nat):(aq n).map f=(List.range n).map fun k:Nat=>f k:=by simp [aq,Function.comp_def]
theorem mE (h:0<=k) (h2:k<(l.length:Int)):gd l k∈l:=by
 have h3:k.toNat<l.length:=by omega
 simp [gd,h3]
theorem El.small (g:Good ns):El ns x->∀k∈x, -(2^64)<k∧k<2^64:=by
 have go:∀{ns x:List Int},(∀n∈ns,n<=144)->El ns x->∀k∈x, -(2^64)<k∧k<2^64:=by
  intro ns
  induction ns with
  |nil=>intro x _ h k hk;rw [Ev.mp h.len] at hk;cases hk
  |cons n ns ih=>
   intro x hn h k hk;obtain ⟨a,r,rfl,h2,h3,hr⟩:=h.inv;rcases Er.mp hk with e|hk
   ·rw [e];have:=hn n Eo;omega
   ·exact ih (fun m hm=>hn m (En _ hm)) hr k hk
 exact go g.lt
noncomputable def est (s:Int×List Int) (n:Int):Int×List Int:=(s.1 / n,s.2++[s.1%n])
noncomputable def eP (c:Int) (ns:List Int):Int×List Int:=ns.foldl est (c,[])
noncomputable def elI (ns:List Int) (c:Int):List Int:=(eP c ns).2
theorem rO (c:Int) (ns:List Int) (n:Int):eP c (ns++[n])=est (eP c ns) n:=by
 show List.foldl _ _ (ns++[n])=_;rw [List.foldl_append];rfl
theorem mw:∀{ns:List Int} {c:Int},Ge2 ns->El ns (elI ns c):=by
 have go:∀(ns:List Int) (c:Int) (f:List Int),(ns.foldl est (c,f)).2=f++(ns.foldl est (c,[])).2:=by
  intro ns
  induction ns with
  |nil=>intro c f;simp
  |cons n ns ih=>
   intro c f;show (ns.foldl est (c / n,f++[c%n])).2=f++(ns.foldl est (c / n,[]++[c%n])).2;rw [ih,ih (c / n) ([]++[c%n]),EB];rfl
 intro ns
 induction ns with
 |nil=>intro c _;exact El.nil
 |cons n ns ih=>
  intro c g;have e:elI (n::ns) c=c%n::elI ns (c / n):=by
   show (ns.foldl est (c / n,[]++[c%n])).2=_;rw [go];rfl
  rw [e];exact El.cons (fi g.head).1 (fi g.head).2 (ih g.tail)
theorem nQ (h1:x.length=ns.length) (h2:y.length=ns.length):ag ns x y=(aq ns.length).map fun k=>(gd x k+gd y k)%gd ns k:=by
 rw [gS];refine List.ext_getElem (by simp [ag,h1,h2]) fun i g1 g2=>?_;have hi:i<ns.length:=by simpa using g2
 simp [ag,gd,hi,h1,h2]
theorem xX (h1:x.length=ns.length):bB ns n x=(aq ns.length).map fun k=>n*gd x k%gd ns k:=by
 rw [gS];refine List.ext_getElem (by simp [bB,h1]) fun i g1 g2=>?_;have hi:i<ns.length:=by simpa using g2
 simp [bB,gd,hi,h1]
theorem uw (c:Int) (ns:List Int):(eP c ns).2.length=ns.length:=by
 have go:∀(ns:List Int) (s:Int×List Int),(ns.foldl est s).2.length=s.2.length+ns.length:=by
  intro ns
  induction ns with
  |nil=>intro s;rfl
  |cons n ns ih=>intro s;rw [List.foldl_cons,ih];simp [est];omega
 rw [eP,go];simp
theorem i7 (l:List (List Int)) (a:Int):(step l a).length=l.length*(aq a).length:=by
 induction l with
 |nil=>simp [step]
 |cons x l ih=>
  have e:step (x::l) a=((aq a).map fun k=>x++[k])++step l a:=by simp [step]
  rw [e,Ey,ih,Ez,List.length_cons,Nat.succ_mul,Nat.add_comm]
theorem lb {α:Type} (c:Nat):∀l:List α,(l.map fun _=>c).sum=l.length*c
 |[]=>by simp
 |_::l=>by rw [List.map_cons,List.sum_cons,lb c l,List.length_cons,Nat.succ_mul,Nat.add_comm]
noncomputable def prs (l:List (List Int)):List (List Int×List Int):=l.flatMap fun x=>l.map fun y=>(x,y)
noncomputable def prD (p:List Int×List Int):D:=.tup [tupI p.1,tupI p.2]
noncomputable def pkT (x:List Int):PK:=.t (x.map .i)
noncomputable def pkP (p:List Int×List Int):PK:=.t [pkT p.1,pkT p.2]
noncomputable def ups:List (List Int):=[[],[2],[3],[4],[5],[6],[7],[8],[9],[2,2],[2,3],[2,4],[3,2],[3,3],[4,2],[2,2,2]]
theorem prod_cons (n:Int) (ns:List Int):prod (n::ns)=n*prod ns:=by
 have go:∀(ns:List Int) (a:Int),List.foldl (·*·) a ns=a*List.foldl (·*·) 1 ns:=by
  intro ns
  induction ns with
  |nil=>intro a;simp
  |cons m ns ih=>intro a;rw [List.foldl_cons,ih,List.foldl_cons,ih (1*m),Int.one_mul,Int.mul_assoc]
 show List.foldl (·*·) (1*n) ns=_;rw [go,Int.one_mul];rfl
theorem eD:∀{ns:List Int},(∀n∈ns,2<=n)->1<=prod ns
 |[],_=>by show (1:Int)<=1;decide
 |n::ns,h=>by
  rw [prod_cons];have h1:=h n Eo;have h2:=eD (ns:=ns) fun m hm=>h m (En _ hm);have:=Int.mul_le_mul h1 h2 (by decide) (by omega);omega
theorem tq (g:∀n∈ns,2<=n) (h:prod ns<=9):ns∈ups:=by
 match ns,g,h with
 |[],_,_=>decide
 |[a],g,h=>
  have ha:=g a (by simp);rw [prod_cons,show prod []=1 from rfl] at h;have:a=2∨a=3∨a=4∨a=5∨a=6∨a=7∨a=8∨a=9:=by omega
  rcases this with rfl|rfl|rfl|rfl|rfl|rfl|rfl|rfl<;>decide
 |[a,b],g,h=>
  have ha:=g a (by simp);have hb:=g b (by simp);rw [prod_cons,prod_cons,show prod []=1 from rfl,Int.mul_one] at h;have h1:a*2<=a*b:=Int.mul_le_mul_of_nonneg_left hb (by omega);have h2:2*b<=a*b:=Int.mul_le_mul_of_nonneg_right ha (by omega);have a4:a=2∨a=3∨a=4:=by omega
  have b4:b=2∨b=3∨b=4:=by omega
  rcases a4 with rfl|rfl|rfl<;>rcases b4 with rfl|rfl|rfl<;>first|decide|(exfalso;omega)
 |a::b::c::r,g,h=>
  have ha:=g a (by simp);have hb:=g b (by simp);have hc:=g c (by simp);have hr:=eD (ns:=r) fun m hm=>g m (by simp [hm]);rw [prod_cons,prod_cons,prod_cons] at h;have e1:c*1<=c*prod r:=Int.mul_le_mul_of_nonneg_left hr (by omega);have e2:2*prod r<=c*prod r:=Int.mul_le_mul_of_nonneg_right hc (by omega);have f1:b*(c*prod r)≥2*(c*prod r):=Int.mul_le_mul_of_nonneg_right hb (by omega);have f2:b*2<=b*(c*prod r):=Int.mul_le_mul_of_nonneg_left (by omega) (by omega);have g1:a*(b*(c*prod r))≥2*(b*(c*prod r)):=Int.mul_le_mul_of_nonneg_right ha (by omega);have g2:a*4<=a*(b*(c*prod r)):=Int.mul_le_mul_of_nonneg_left (by omega) (by omega);have ha2:a=2:=by omega
  have hb2:b=2:=by omega
  have hc2:c=2:=by omega
  have hr1:prod r=1:=by omega
  cases r with
  |nil=>subst ha2 hb2 hc2;decide
  |cons m r=>
   exfalso;have hm:=g m (by simp);have hr2:=eD (ns:=r) fun z hz=>g z (by simp [hz]);rw [prod_cons] at hr1;have:m*1<=m*prod r:=Int.mul_le_mul_of_nonneg_left hr2 (by omega);omega
noncomputable def hashesOf (ns:List Int):List Int:=(prs (mem ns)).map fun p=>(pkP p).hs
theorem tm:ups.all (fun ns=>IN.apart (hashesOf ns))=true:=by decide+kernel
noncomputable def ab (t:List Int×List Int->List Int) (l:List (List Int×List Int)):List (PK×D):=l.map fun p=>(pkP p,tupI (t p))
theorem kg (h:pkT x=pkT y):x=y:=by
 unfold pkT at h;have h':x.map PK.i=y.map PK.i:=PK.t.inj h;have go:∀(x y:List Int),x.map PK.i=y.map PK.i->x=y:=by
  intro x
  induction x with
  |nil=>intro y e;cases y with
   |nil=>rfl
   |cons _ _=>cases e
  |cons a x ih=>intro y e;cases y with
   |nil=>cases e
   |cons b y=>
    rw [List.map_cons,List.map_cons] at e;injection e with e1 e2;rw [PK.i.inj e1,ih y e2]
 exact go x y h'
theorem oV (h:pkP p=pkP q):p=q:=by
 unfold pkP at h;have h':=PK.t.inj h;injection h' with h1 h2;injection h2 with h2 _;exact Prod.ext (kg h1) (kg h2)
theorem uG (h:p∈l):aZ (ab t l) (pkP p)=some (tupI (t p)):=by
 induction l with
 |nil=>cases h
 |cons q l ih=>
  unfold aZ ab at ih ⊢;rw [List.map_cons,List.find?_cons]
  by_cases e:pkP q=pkP p
  ·rw [EH e,oV e];rfl
  ·rw [EI e];rcases Er.mp h with z|z
   ·exact absurd (by rw [z]) e
   ·exact ih z
theorem se (h:p∉l):aZ (ab t l) (pkP p)=none:=by
 induction l with
 |nil=>rfl
 |cons q l ih=>
  unfold aZ ab at ih ⊢;rw [List.map_cons,List.find?_cons];have e:¬pkP q=pkP p:=fun z=>h (by rw [oV z];exact Eo);rw [EI e];exact ih fun z=>h (En _ z)
theorem i8 (h:p∉l):cW (ab t l) (pkP p) (tupI (t p))=ab t (l++[p]):=by
 unfold cW;rw [se h];simp [ab]
local macro_rules|`(tactic|walk_at "s")=>do
 let m<-("IN.run aa.eq_1 aa.eq_2 aa.eq_3 aa.eq_4 aa.eq_5 aa.eq_6 aa.eq_7 aa.eq_8 aa.eq_9 aa.eq_10 aa.eq_11 aa.eq_12 aa.eq_13 aa.eq_16 aa.eq_18 aa.eq_19 evV ev.eq_1 ev.eq_2 ev.eq_3 ev.eq_4 ev.eq_5 ev.eq_6 ev.eq_7 ev.eq_8 ev.eq_9 ev.eq_10 ev.eq_11 ev.eq_12 ev.eq_13 ev.eq_14 ev.eq_15 ev.eq_16 ev.eq_17 ev.eq_18 ev.eq_19 ev.eq_20 ev.eq_21 ev.eq_23 evA evT evI evB aQ af aC List.modify_zero_cons List.modify_succ_cons List.modify_nil kp ah aR fj ak aP gM List.set_cons_zero List.set_cons_succ List.set_nil List.getElem?_cons_zero List.getElem?_cons_succ List.length_cons List.length_nil Nat.reduceAdd Nat.reduceLT Nat.reduceSub Nat.reduceLeDiff Nat.zero_add Nat.zero_lt_succ if_true if_false Bool.not_true Bool.not_false Bool.true_and Bool.false_and Bool.and_true Bool.and_false Bool.true_or Bool.false_or Bool.or_true Bool.or_false and_self true_and and_true Bool.false_eq_true fz jS eL eM gO pW uB ic ju bA dA bo fnR aF Rs.val Ow.D cz bZ List.replicate List.cons_append List.nil_append List.map_cons List.map_nil slD asI pQ pO pS pU lN pR pT pP pV mI mH Option.map_some decide_true decide_false List.all_cons List.all_nil tks dO vd List.append_nil reduceCtorEq ite_self".splitOn " ").toArray.mapM fun s=>`(Lean.Parser.Tactic.simpLemma|$(Lean.mkIdent s.toName):ident)
 `(tactic|simp only [*,$m,*])
local macro_rules|`(tactic|walk_at "r")=>`(tactic|(walk_at "s";try rfl))
noncomputable def fQ (n c:String):Bool:=n==c||(n=="bool"&&c=="int")
noncomputable def jF:List String:=["NoneType","bool","int","str","tuple","list","dict"]
noncomputable def jE:List String:=["int","bool","list","tuple","str","dict"]
structure GA (G:Prg) (C:Addr):Prop where
 isw:G.defs "is_whole"=some (none,P.iT)
 Ab:G.fn "is_whole"=some ("is_whole":Str)
 prd:G.defs "product"=some (none,P.product)
 Du:G.fn "product"=some ("product":Str)
 are:G.defs "are_rounds"=some (none,P.fy)
 Dm:G.fn "are_rounds"=some ("are_rounds":Str)
 least:G.glob "LEAST_ROUND"=some (.int 2)
 most:G.glob "MOST_MEMBERS"=some (.int 144)
 Ej:G.glob "int"=some (.ty "int")
 wo:G.glob "bool"=some (.ty "bool")
 C8:G.glob "list"=some (.ty "list")
 BG:G.glob "tuple"=some (.ty "tuple")
 kit:∀n∈jF,∀c∈jE,G.kit (.ty n) (.ty c)=some (fQ n c)
 ini:G.defs "Rounds.__init__"=some (some C,P.cT)
 eQ:G.fn "Rounds"=none∧G.ini "Rounds"=some (C,("Rounds.__init__":Str))
 fok:G.fok C "rounds"=true
section
variable {G:Prg} {C:Addr} {n:Nat}
theorem vA (A:GA G C):kal G (n+1) "is_whole" [.int i]=some (.ok (.bl true)):=by
 refine aV A.isw ⟨rfl,rfl⟩ rfl (bf ?_);have h1:=A.kit "int" (by decide) "int" (by decide);have h2:=A.kit "int" (by decide) "bool" (by decide);have e1:fQ "int" "int"=true:=by decide
 have e2:fQ "int" "bool"=false:=by decide
 have:=A.Ej;have:=A.wo
 walk_at "s"
theorem qP (A:GA G C) (hs:itD t=some (ns.map .int)) (sm:Sm ns):kal G (n+1) "product" [t]=some (.ok (.int (prod ns))):=by
 refine aV A.prd ⟨rfl,rfl⟩ (ρ0:=[.val t,.nil,.nil]) rfl ?_;refine st (by walk_at "r") ?_;refine st (by walk_at "r") ?_;refine st (eK (g:=D.int) (fun done=>[.val t,.val (.int (prod done)),.any]) ns (by walk_at "s") rfl fun done a rest e=>?_) ?_
 ·refine ⟨_,by walk_at "r",?_⟩;have h:=dX (i:=prod done) (j:=a) (by have:=sm a (by rw [e];simp);omega);refine st (by walk_at "r") (st (by walk_at "r") ?_);rw [aI,eJ]
 ·exact bf (by walk_at "s")
theorem Sq.it (q:br t=some xs):itD t=some xs:=by
 cases t<;>first|(cases q;done)|exact q
theorem Ak (q:br t=some xs):bM G t (.tup [.ty "list",.ty "tuple"])=some true:=by
 cases t<;>first|(cases q;done)|rfl
theorem B1 (A:GA G C) (q:br t=some (ns.map .int)) (hl:ns.length<=1000) (b:Big ns):kal G (n+2) "are_rounds" [t]=some (.ok (.bl (decide (prod ns<=144)))):=by
 refine aV A.are ⟨rfl,rfl⟩ (ρ0:=[.val t]) rfl ?_;have h1:=Ak (G:=G) q;have h2:=A.C8;have h3:=A.BG;have h4:=A.Du;have h5:=A.most;have h6:=qP (n:=n) A (Sq.it q) b.sm;have hz:(2:Nat)<=sizeLine:=by decide
 refine st (ρ':=[.val t]) (by walk_at "s") ?_;have h7:ev G (kal G (n+1)) (.comp 1 [] (.nm 0) (.var 0) (.lit (.bl true)) (.emit (.and (.fn "is_whole" [(.var 0)]) (.cmp .ge (.var 0) (.gl "LEAST_ROUND"))))) [.val t]=some (.lst ((ns.map fun _=>true).map .bl)):=by
  rw [List.map_map];refine jk (g:=D.int) (by simp only [evI,aQ,List.getElem?_cons_zero];exact Sq.it q) rfl (EE hl (by decide)) fun a ha=>⟨_,rfl,?_⟩
  have e1:=A.Ab;have e2:=vA (i:=a) (n:=n) A;have e3:=A.least;have e4:decide (2<=a)=true:=EH (b a ha).1
  walk_at "s"
  rfl
 have h8:((ns.map fun _=>true).all id)=true:=by simp
 refine st (ρ':=[.val t]) (by
  have:=eO (ns.map fun _=>true)
  walk_at "s") ?_
 exact bf (by walk_at "s")
theorem fb (A:GA G C) (q:br t=some (ns.map .int)) (g:Good ns):kal G (n+3) "Rounds.__init__" [t]=some (.ok (grp C ns)):=by
 refine jY A.ini ⟨rfl,rfl⟩ (ρ0:=[.val t]) rfl (fs:=rf ns) (a:=0) (b:=0) (ρ:=[.val t]) ?_;have h1:=A.Dm;have h2:=B1 (n:=n) A q g.fR g.big;rw [EH g.le] at h2;refine st (ρ':=[.new C 0 0 [],.val t]) (by walk_at "s") ?_;have h3:=A.fok;have h4:aR (ns.map .int)=true:=cn ns;have h5:(0:Nat)<1000:=by decide
 refine st (by walk_at "r") aI
structure GB (G:Prg) (C:Addr):Prop where
 A:GA G C
 mem:G.defs "Rounds.members"=some (none,P.cZ)
 DU:G.mth C "members"=some ("Rounds.members":Str)
 has:G.defs "Rounds.has"=some (none,P.dQ)
 DR:G.mth C "has"=some ("Rounds.has":Str)
 evn:G.defs "Rounds.is_even"=some (none,P.cY)
 DQ:G.mth C "is_even"=some ("Rounds.is_even":Str)
 siz:G.defs "Group.size"=some (none,P.fw)
 DV:G.mth C "size"=some ("Group.size":Str)
theorem p0:(rf ns).lookup ("rounds":Str)=some (tupI ns):=rfl
theorem ze (B:GB G C):kal G (n+1) "Rounds.is_even" [grp C ns]=some (.ok (.bl true)):=aV B.evn ⟨rfl,rfl⟩ rfl (bf rfl)
theorem qO (B:GB G C) (g:Good ns) (ft:Fit ns):kal G (n+1) "Rounds.members" [grp C ns]=some (.fr (.l ((PL.mem ns).map tupI))):=by
 refine ei B.mem ⟨rfl,rfl⟩ (ρ0:=[.val (grp C ns),.nil,.nil]) rfl ?_;have hz:(0:Nat)<=sizeLine:=by decide
 have hz1:(1:Nat)<=sizeLine:=by decide
 refine st (ρ':=[.val (grp C ns),.owx (.l [.tup []]),.nil]) (by walk_at "r") (st (by walk_at "r") ?_);have h1:=B.A.fok;refine st (eK (g:=D.int) (fun done=>[.val (grp C ns),.owx (.l ((PL.mem done).map tupI)),.any]) ns (by unfold grp;simp only [evI,ev.eq_1,aQ,af,List.modify_zero_cons,aC,List.getElem?_cons_zero,bo,h1,if_true,p0,pW]) rfl fun done a rest e=>?_) ?_
 ·refine ⟨[.val (grp C ns),.owx (.l ((PL.mem done).map tupI)),.val (.int a)],rfl,?_⟩;have ha:a∈ns:=by rw [e];simp
  have hp:(done++[a])<+:ns:=⟨rest,by rw [e,EB];rfl⟩
  have h144:=g.lt a ha;have h2:=g.ge a ha;have key:ev G (kal G n) (.comp 2 [2] (.nm 0) (.var 1) (.lit (.bl true)) (.loop (.nm 1) (.blt .range [(.var 2)]) (.lit (.bl true)) (.emit (.bin .add (.var 0) (.tup [(.var 1)]))))) [.val (grp C ns),.val (.lst ((PL.mem done).map tupI)),.val (.int a)]=some (.lst ((PL.mem (done++[a])).map tupI)):=by
   rw [fS];have e2:((PL.step (PL.mem done) a).map tupI)=(PL.mem done).flatMap fun b=>(aq a).map fun k=>tupI (b++[k]):=by simp only [PL.step,List.map_flatMap,List.map_map];rfl
   rw [e2];have hr:=lV (j:=a) (by omega);refine rL (g:=tupI) (g2:=D.int) (u:=fun b k=>tupI (b++[k])) (m:=fun _=>aq a) (by simp only [evI,aQ,List.getElem?_cons_succ,List.getElem?_cons_zero,gO]) rfl ?_ fun b hb=>⟨_,rfl,?_,rfl,fun k hk=>⟨_,rfl,?_⟩⟩
   ·rw [←e2,Ez,←fS];exact EE (ft _ hp) (by decide)
   ·simp only [evI,evA,ev.eq_1,aQ,cz,bZ,List.replicate,List.cons_append,List.nil_append,List.map_cons,List.map_nil,List.set_cons_zero,List.getElem?_cons_succ,List.getElem?_cons_zero,hr]
   ·have hl:=PL.oH hb;have h2':done.length<=ns.length:=by rw [e];simp
    have h7:=g.len;have hz':b.length+1<=sizeLine:=EE (show b.length+1<=1000 by omega) (by decide);have e3:=lg b k;simp only [ev.eq_1,ev.eq_4,ev.eq_14,evA,aQ,cz,bZ,List.replicate,List.cons_append,List.nil_append,List.map_cons,List.map_nil,List.set_cons_zero,List.set_cons_succ,List.getElem?_cons_succ,List.getElem?_cons_zero,List.length_cons,List.length_nil,Nat.zero_add,hz1,if_true,fz,List.length_map,hz',e3]
  refine st (ρ':=[.val (grp C ns),.owx (.l ((PL.mem (done++[a])).map tupI)),.val (.int a)]) ?_ (st rfl aI);have e5:af [2,1] [.val (grp C ns),.owx (.l ((PL.mem done).map tupI)),.val (.int a)]=[.val (grp C ns),.val (.lst ((PL.mem done).map tupI)),.val (.int a)]:=rfl;simp only [aa.eq_1,e5,evV,key];simp only [List.length_cons,List.length_nil,Nat.reduceAdd,Nat.reduceLT,if_true];cases a8 (.l ((PL.mem (done++[a])).map tupI))<;>rfl
 ·exact f6 (by walk_at "s")
theorem ig (B:GB G C) (g:Good ns) (ft:Fit ns):aF G (kal G (n+1)) (grp C ns) "members" []=some (.fr (.l ((PL.mem ns).map tupI))):=by
 have h1:=B.DU;have h2:=qO (n:=n) B g ft;have h3:(rf ns).lookup ("members":Str)=none:=rfl;unfold grp at h2 ⊢;simp only [aF,h3,h1,h2]
theorem zf (B:GB G C) (g:Good ns) (ft:Fit ns):kal G (n+2) "Group.size" [grp C ns]=some (.ok (.int (PL.mem ns).length)):=by
 refine aV B.siz ⟨rfl,rfl⟩ (ρ0:=[.val (grp C ns)]) rfl (bf ?_);have h:=ig (n:=n) B g ft;simp only [aa.eq_11,evV,ev.eq_19,ev.eq_21,ev.eq_1,evA,aQ,af,aC,List.modify_zero_cons,List.getElem?_cons_zero,h,Rs.val,Ow.D,bA,eL,List.length_map]
theorem vt (ks ns:List Int):cg (ks.map .int) (ns.map .int)=(ks.zip ns).map fun p=>.tup [.int p.1,.int p.2]:=lu
theorem B2 (A:GA G C) (hd:G.defs "Rounds.has"=some (none,P.dQ)) (g:Good ns) (hl:ks.length=ns.length):kal G (n+2) "Rounds.has" [grp C ns,tupI ks]=some (.ok (.bl (hasB ns ks))):=by
 refine aV hd ⟨rfl,rfl⟩ (ρ0:=[.val (grp C ns),.val (tupI ks)]) rfl ?_;have h1:=A.fok;have h2:=A.BG;have h3:=A.kit "tuple" (by decide) "tuple" (by decide);have e3:fQ "tuple" "tuple"=true:=by decide
 have h4:=@p0 ns;have h5:decide ((ks.length:Int)=(ns.length:Int))=true:=by rw [hl];simp
 have hf:bo G (grp C ns) "rounds"=some (tupI ns):=by unfold grp;simp only [bo,h1,if_true,h4]
 refine st (ρ':=[.val (grp C ns),.val (tupI ks)]) (by
  simp only [aa.eq_13,evT,evA,ev.eq_1,ev.eq_3,ev.eq_18,ev.eq_19,af,aC,List.modify_zero_cons,List.modify_succ_cons,aQ,List.getElem?_cons_zero,List.getElem?_cons_succ,hf,h2,lN,h3,e3,bA,eM,Bool.not_true,jS,List.length_map,h5]
  rfl) ?_
 have e:hasB ns ks=((ks.zip ns).map fun p=>true&&(decide (0<=p.1)&&decide (p.1<p.2))).all id:=by simp [hasB,List.all_map,Function.comp_def]
 have key:ev G (kal G (n+1)) (.comp 2 [] (.tp [(.nm 0),(.nm 1)]) (.blt .zip [(.var 1),(.fld (.var 0) "rounds")]) (.lit (.bl true)) (.emit (.and (.fn "is_whole" [(.var 0)]) (.chn (.lit (.int 0)) (.var 0) (.var 1))))) [.val (grp C ns),.val (tupI ks)]=some (.lst (((ks.zip ns).map fun p=>true&&(decide (0<=p.1)&&decide (p.1<p.2))).map .bl)):=by
  rw [List.map_map];refine jk (g:=fun p:Int×Int=>.tup [.int p.1,.int p.2]) (by simp only [evI,evA,ev.eq_1,ev.eq_18,aQ,List.getElem?_cons_zero,List.getElem?_cons_succ,hf,gv,eM,vt]) rfl ?_ fun p hp=>⟨[.val (.int p.1),.val (.int p.2)],rfl,?_⟩
  ·rw [List.length_zip];have:=g.len;exact EE (show _<=1000 by omega) (by decide)
  ·have e1:=A.Ab;have e2:=vA (i:=p.1) (n:=n) A
   walk_at "r"
 have hb:=eO ((ks.zip ns).map fun p=>true&&(decide (0<=p.1)&&decide (p.1<p.2)));refine bf ?_;have e5:af [1,0] [.val (grp C ns),.val (tupI ks)]=[.val (grp C ns),.val (tupI ks)]:=rfl;simp only [aa.eq_11,evV,ev.eq_19,evA,e5,key,bA,eL,hb,e]
end
structure TB (G:Prg) (C CG CTb:Addr):Prop where
 B:GB G C
 cG:G.glob "Group"=some (.cl CG)
 cR:G.glob "Rounds"=some (.cl C)
 kG:G.kit (.cl C) (.cl CG)=some true
 kR:G.kit (.cl C) (.cl C)=some true
 ml:G.glob "MOST_LOWER"=some (.int 16)
 mu:G.glob "MOST_UPPER"=some (.int 9)
 nl:G.defs "need_lower"=some (none,P.fT)
 fnl:G.fn "need_lower"=some ("need_lower":Str)
 nu:G.defs "need_upper"=some (none,P.fV)
 fnu:G.fn "need_upper"=some ("need_upper":Str)
 pr:G.defs "pairs_of"=some (none,P.iX)
 fpr:G.fn "pairs_of"=some ("pairs_of":Str)
 pk:G.defs "picked_carries"=some (none,P.dj)
 fpk:G.fn "picked_carries"=some ("picked_carries":Str)
 ini:G.defs "Table.__init__"=some (some CTb,P.c4)
 eQ:G.fn "Table"=none∧G.ini "Table"=some (CTb,("Table.__init__":Str))
 flo:G.fok CTb "lower"=true
 fup:G.fok CTb "upper"=true
 fke:G.fok CTb "kept"=true
section
variable {G:Prg} {C CG CTb:Addr} {n:Nat}
theorem mQ (B:GB G C) (g:Good ns) (ft:Fit ns):aF G (kal G (n+2)) (grp C ns) "size" []=some (.ok (.int (PL.mem ns).length)):=by
 have h1:=B.DV;have h2:=zf (n:=n) B g ft;have h3:(rf ns).lookup ("size":Str)=none:=rfl;unfold grp at h2 ⊢;simp only [aF,h3,h1,h2]
theorem uO (B:GB G C):aF G (kal G (n+1)) (grp C ns) "is_even" []=some (.ok (.bl true)):=by
 have h1:=B.DQ;have h2:=ze (n:=n) (ns:=ns) B;have h3:(rf ns).lookup ("is_even":Str)=none:=rfl;unfold grp at h2 ⊢;simp only [aF,h3,h1,h2]
theorem xW (B:GB G C) (g:Good ns) (hl:ks.length=ns.length):aF G (kal G (n+2)) (grp C ns) "has" [tupI ks]=some (.ok (.bl (hasB ns ks))):=by
 have h1:=B.DR;have h2:=B2 (n:=n) B.A B.has g hl;have h3:(rf ns).lookup ("has":Str)=none:=rfl;unfold grp at h2 ⊢;simp only [aF,h3,h1,h2]
theorem vR:bM G (grp C ns) (.cl E)=G.kit (.cl C) (.cl E):=rfl
theorem wA (T:TB G C CG CTb) (g:Good ns) (ft:Fit ns) (h16:(PL.mem ns).length<=16):kal G (n+3) "need_lower" [grp C ns]=some (.ok .non):=by
 refine mK T.nl ⟨rfl,rfl⟩ (ρ0:=[.val (grp C ns)]) rfl (ρ:=[.val (grp C ns)]) ?_;have h1:=T.cG;have h2:=T.kG;have h3:=uO (n:=n+1) (ns:=ns) T.B;have h4:=mQ (n:=n) T.B g ft;have h5:=T.ml;have h6:decide ((16:Int)<((PL.mem ns).length:Int))=false:=EI (by omega);refine st (ρ':=[.val (grp C ns)]) ?_ aI;simp only [aa.eq_13,evT,evA,ev.eq_1,ev.eq_3,ev.eq_21,af,aC,List.modify_zero_cons,aQ,List.getElem?_cons_zero,h1,vR,h2,bA,Bool.not_true,h3,h4,h5,Rs.val,jS,h6,IN.run]
theorem wB (T:TB G C CG CTb) (g:Good ns) (ft:Fit ns) (h9:(PL.mem ns).length<=9):kal G (n+3) "need_upper" [grp C ns]=some (.ok .non):=by
 refine mK T.nu ⟨rfl,rfl⟩ (ρ0:=[.val (grp C ns)]) rfl (ρ:=[.val (grp C ns)]) ?_;have h1:=T.cR;have h2:=T.kR;have h4:=mQ (n:=n) T.B g ft;have h5:=T.mu;have h6:decide ((9:Int)<((PL.mem ns).length:Int))=false:=EI (by omega);refine st (ρ':=[.val (grp C ns)]) ?_ aI;simp only [aa.eq_13,evT,evA,ev.eq_1,ev.eq_3,ev.eq_21,af,aC,List.modify_zero_cons,aQ,List.getElem?_cons_zero,h1,vR,h2,bA,Bool.not_true,h4,h5,Rs.val,jS,h6,IN.run]
theorem il:(prs l).length=l.length*l.length:=by unfold prs;rw [List.length_flatMap];simp only [List.length_map];exact lb _ _
theorem nW (T:TB G C CG CTb) (g:Good ns) (ft:Fit ns) (h9:(PL.mem ns).length<=9):kal G (n+2) "pairs_of" [grp C ns]=some (.fr (.l ((prs (PL.mem ns)).map prD))):=by
 refine ei T.pr ⟨rfl,rfl⟩ (ρ0:=[.val (grp C ns),.nil]) rfl ?_;have h1:=ig (n:=n) T.B g ft;have h2:a8 (.l ((PL.mem ns).map tupI))=true:=by
  show aR ((PL.mem ns).map tupI)=true;generalize PL.mem ns=l
  induction l with
  |nil=>rfl
  |cons x l ih=>show (aR (x.map .int)&&aR (l.map tupI))=true;rw [cn,ih];rfl
 refine st (ρ':=[.val (grp C ns),.owx (.l ((PL.mem ns).map tupI))]) (by
  simp? [aa.eq_1,evV,evA,ev.eq_1,h1,h2]) ?_
 have hz2:(2:Nat)<=sizeLine:=by decide
 have key:ev G (kal G (n+1)) (.comp 2 [1] (.nm 0) (.var 1) (.lit (.bl true)) (.loop (.nm 1) (.var 2) (.lit (.bl true)) (.emit (.tup [(.var 0),(.var 1)])))) [.val (grp C ns),.val (.lst ((PL.mem ns).map tupI))]=some (.lst ((prs (PL.mem ns)).map prD)):=by
  have e2:(prs (PL.mem ns)).map prD=(PL.mem ns).flatMap fun x=>(PL.mem ns).map fun y=>prD (x,y):=by simp only [prs,List.map_flatMap,List.map_map];rfl
  rw [e2];refine rL (g:=tupI) (g2:=tupI) (u:=fun x y=>prD (x,y)) (m:=fun _=>PL.mem ns) (by simp only [evI,aQ,List.getElem?_cons_succ,List.getElem?_cons_zero,gO]) rfl ?_ fun b hb=>⟨[.val (tupI b),.nil,.val (.lst ((PL.mem ns).map tupI))],rfl,?_,rfl,fun k hk=>⟨[.val (tupI b),.val (tupI k),.val (.lst ((PL.mem ns).map tupI))],rfl,?_⟩⟩
  ·rw [←e2,Ez,il];have:=Nat.mul_le_mul h9 h9;exact EE this (by decide)
  ·simp only [evI,aQ,List.getElem?_cons_succ,List.getElem?_cons_zero,gO]
  ·simp only [ev.eq_14,evA,ev.eq_1,aQ,List.getElem?_cons_succ,List.getElem?_cons_zero,List.length_cons,List.length_nil,Nat.reduceAdd,hz2,if_true];rfl
 refine f6 ?_;have e5:af [1] [.val (grp C ns),.owx (.l ((PL.mem ns).map tupI))]=[.val (grp C ns),.val (.lst ((PL.mem ns).map tupI))]:=rfl;simp only [aa.eq_11,evV,e5,key]
noncomputable abbrev Pr:=List Int×List Int
theorem jD (p:Pr):b_ (prD p)=some (.t [pkT p.1,pkT p.2]):=by
 unfold prD pkT;simp only [b_,fX,fY]
theorem jC (p:Pr):(pkP p).dp<=8:=by
 have go:∀x:List Int,_root_.CT.PK.dpL (x.map _root_.CT.PK.i)=0:=by
  intro x
  induction x with
  |nil=>rfl
  |cons a x ih=>show max (_root_.CT.PK.dp (.i a)) (_root_.CT.PK.dpL (x.map .i))=0;rw [ih];rfl
 show _root_.CT.PK.dpL [pkT p.1,pkT p.2]+1<=8;show max (_root_.CT.PK.dp (pkT p.1)) (max (_root_.CT.PK.dp (pkT p.2)) 0)+1<=8;have e:∀x,_root_.CT.PK.dp (pkT x)=1:=fun x=>by show _root_.CT.PK.dpL (x.map .i)+1=1;rw [go]
 rw [e,e];decide
theorem Am:ixD (.pdc es) (prD p)=look es (pkP p):=vS (jD p) (jC p)
theorem xK:aF G cl (.pdc es) "get" [prD p]=some (.ok ((look es (pkP p)).getD .non)):=by
 have h:=jC p;unfold pkP at h ⊢;simp only [aF,if_true,jD,h]
noncomputable abbrev tf (C:Addr) (lo up:List Int) (t:Pr->List Int):List (Str×D):=[(("lower":Str),grp C lo),(("upper":Str),grp C up),(("kept":Str),.pdc (ab t (prs (PL.mem up))))]
noncomputable def tabI (CTb C:Addr) (lo up:List Int) (t:Pr->List Int):D:=.ins CTb (tf C lo up t)
theorem gX (h:l.Nodup):(prs l).Nodup:=by
 unfold prs;have:∀l':List (List Int),l'.Nodup->(l'.flatMap fun x=>l.map fun y=>(x,y)).Nodup:=by
  intro l'
  induction l' with
  |nil=>intro _;exact List.nodup_nil
  |cons a l' ih=>
   intro hn;rw [List.nodup_cons] at hn;rw [List.flatMap_cons];rw [List.nodup_append];refine ⟨?_,ih hn.2,?_⟩
   ·exact List.Pairwise.map _ (fun x y hxy=>fun z=>hxy (by injection z)) h
   ·intro x hx y hy e;obtain ⟨b,_,rfl⟩:=Es.mp hx;obtain ⟨c,hc,hy⟩:=List.mem_flatMap.mp hy;obtain ⟨d,_,rfl⟩:=Es.mp hy;have:a=c:=by injection e
    exact hn.1 (this▸hc)
 exact this l h
theorem sd {lo up:List Int} {t:Pr->List Int}:(tf C lo up t).lookup ("lower":Str)=some (grp C lo):=rfl
theorem vV {lo up:List Int} {t:Pr->List Int}:(tf C lo up t).lookup ("upper":Str)=some (grp C up):=rfl
theorem Cp {lo up:List Int} {t:Pr->List Int}:(tf C lo up t).lookup ("kept":Str)=some (.pdc (ab t (prs (PL.mem up)))):=rfl
theorem aN (ks:List Int):ah (tupI ks)=true:=cn ks
theorem gb (x y:List Int):D.tup [tupI x,tupI y]=prD (x,y):=rfl
structure LU (lo up:List Int):Prop where
 gl:Good lo
 gu:Good up
 fl:Fit lo
 fu:Fit up
 l16:(PL.mem lo).length<=16
 u9:(PL.mem up).length<=9
 nd:(PL.mem up).Nodup
 p9:prod up<=9
theorem tR {lo up:List Int} {es:List (_root_.CT.PK×D)} {t:Pr->List Int} (T:TB G C CG CTb) (U:LU lo up) (hes:∀p∈prs (PL.mem up),look es (pkP p)=some (tupI (t p))) (het:∀p∈prs (PL.mem up),El lo (t p)):
  kal G (n+3) "picked_carries" [grp C lo,grp C up,.pdc es]=some (.fr (.d (ab t (prs (PL.mem up))))):=by
 refine ei T.pk ⟨rfl,rfl⟩ (ρ0:=[.val (grp C lo),.val (grp C up),.val (.pdc es),.nil,.nil,.nil,.nil]) rfl ?_;have hz2:(2:Nat)<=sizeLine:=by decide
 refine st (ρ':=[.val (grp C lo),.val (grp C up),.val (.pdc es),.owx (.d []),.nil,.nil,.nil]) rfl ?_;refine st (ρ':=[.val (grp C lo),.val (grp C up),.val (.pdc es),.owx (.d []),.any,.any,.any]) rfl ?_;have h1:=T.fpr;have h2:=nW (n:=n) T U.gu U.fu U.u9;refine st (eK (g:=prD) (fun done=>[.val (grp C lo),.val (grp C up),.val (.pdc es),.owx (.d (ab t done)),.any,.any,.any]) (prs (PL.mem up)) (by simp only [evI,evA,ev.eq_1,af,aC,List.modify_zero_cons,List.modify_succ_cons,aQ,List.getElem?_cons_zero,List.getElem?_cons_succ,fnR,h1,h2,Rs.val,Ow.D,gO]) rfl fun done p rest e=>?_) ?_
 ·have hp:p∈prs (PL.mem up):=by rw [e];simp
  have hnd:=gX U.nd;have hn:p∉done:=by
   rw [e] at hnd;intro z;exact (List.nodup_append.mp hnd).2.2 p z p Eo rfl
  have g1:=xK (G:=G) (cl:=kal G (n+2)) (es:=es) (p:=p);rw [hes p hp] at g1;have g2:=xW (n:=n) (ks:=t p) T.B U.gl (het p hp).len;rw [(het p hp).has] at g2;have g3:bS (ab t done) (pkP p) (tupI (t p))=ab t (done++[p]):=by rw [fm];exact i8 hn
  have g4:=jD p;have g5:=jC p;have g6:(ab t done).length<sizeLine:=by
   unfold ab;rw [Ez];have l1:done.length<=(prs (PL.mem up)).length:=by rw [e];simp
   rw [il] at l1;have:=Nat.mul_le_mul U.u9 U.u9;exact ED (EE l1 this) (by decide)
  have g7:=aN (t p);obtain ⟨x,y⟩:=p;refine ⟨[.val (grp C lo),.val (grp C up),.val (.pdc es),.owx (.d (ab t done)),.val (tupI x),.val (tupI y),.any],rfl,?_⟩;refine st (ρ':=[.val (grp C lo),.val (grp C up),.val (.pdc es),.owx (.d (ab t done)),.val (tupI x),.val (tupI y),.val (tupI (t (x,y)))]) (by
   simp? [aa.eq_1,evV,evA,ev.eq_1,ev.eq_14,hz2,gb,g1,Option.getD_some,g7]) ?_
  refine st (ρ':=[.val (grp C lo),.val (grp C up),.val (.pdc es),.owx (.d (ab t done)),.val (tupI x),.val (tupI y),.val (tupI (t (x,y)))]) (by
   simp only [aa.eq_13,evT,evA,ev.eq_1,af,aC,List.modify_zero_cons,List.modify_succ_cons,aQ,List.getElem?_cons_zero,List.getElem?_cons_succ,g2,Bool.not_true,IN.run]) ?_
  have g8:(PK.t [pkT x,pkT y]).dp<=8:=g5;have g9:bS (ab t done) (PK.t [pkT x,pkT y]) (tupI (t (x,y)))=ab t (done++[(x,y)]):=g3;refine st (ρ':=[.val (grp C lo),.val (grp C up),.val (.pdc es),.owx (.d (ab t (done++[(x,y)]))),.val (tupI x),.val (tupI y),.val (tupI (t (x,y)))]) (by
   simp? [aa.eq_5,evA,ev.eq_1,ev.eq_14,hz2,gb,g7,g4,g8,g6,and_self,g9]) ?_
  exact st (by rfl) aI
 ·exact f6 (by rfl)
theorem nX {lo up:List Int} {es:List (_root_.CT.PK×D)} {t:Pr->List Int} (T:TB G C CG CTb) (U:LU lo up) (hes:∀p∈prs (PL.mem up),look es (pkP p)=some (tupI (t p))) (het:∀p∈prs (PL.mem up),El lo (t p)):
  kal G (n+4) "Table.__init__" [grp C lo,grp C up,.pdc es]=some (.ok (tabI CTb C lo up t)):=by
 refine jY T.ini ⟨rfl,rfl⟩ (ρ0:=[.val (grp C lo),.val (grp C up),.val (.pdc es)]) rfl (fs:=tf C lo up t) (a:=0) (b:=0) (ρ:=[.val (grp C lo),.val (grp C up),.val (.pdc es)]) ?_;have h1:=T.fnl;have h2:=wA (n:=n) T U.gl U.fl U.l16;have h3:=T.fnu;have h4:=wB (n:=n) T U.gu U.fu U.u9;have h5:=T.fpk;have h6:=tR (n:=n) T U hes het;have f1:=T.flo;have f2:=T.fup;have f3:=T.fke;have z0:(0:Nat)<1000:=by decide
 have z1:(1:Nat)<1000:=by decide
 have z2:(2:Nat)<1000:=by decide
 refine st (by walk_at "r") (st (by walk_at "r") (st (by walk_at "r") (st (by walk_at "r") (st (by walk_at "r") aI))))
end
theorem uu:eqD (tupI (a::x)) (tupI (b::y))=((a==b)&&eqD (tupI x) (tupI y)):=rfl
theorem fH:∀(a b:List Int),eqD (tupI a) (tupI b)=decide (a=b)
 |[],[]=>rfl
 |a::x,[]=>rfl
 |[],b::y=>rfl
 |a::x,b::y=>by
  rw [uu,fH x y]
  by_cases h:a=b
  ·subst h;simp
  ·simp [h]
theorem kM (a b:List Int):d9 (tupI a) (tupI b)=true:=by
 unfold d9;rw [fO,fO,fE,fE];rfl
theorem hX (a b:List Int):bg .eq (tupI a) (tupI b)=some (decide (a=b)):=by
 show (if d9 (tupI a) (tupI b) then some (eqD (tupI a) (tupI b)) else none)=_;rw [kM,fH];rfl
theorem wI (a b:List Int):bg .ne (tupI a) (tupI b)=some (!decide (a=b)):=by
 show (if d9 (tupI a) (tupI b) then some (!eqD (tupI a) (tupI b)) else none)=_;rw [kM,fH];rfl
theorem fK:∀(L:List Nat) (ds:List D),af L (ds.map Sl.val)=ds.map Sl.val
 |[],_=>rfl
 |i::L,ds=>by
  have e:(ds.map Sl.val).modify i aC=ds.map Sl.val:=by
   refine List.ext_getElem? fun j=>?_;rw [List.getElem?_modify,List.getElem?_map];cases ds[j]? with
   |none=>simp
   |some d=>simp only [Option.map_some];split<;>rfl
  rw [af,e,fK L ds]
section
variable {G:Prg} {C CG CTb:Addr} {n:Nat}
theorem qN (hd:G.defs "_law_cell"=some (none,L.cell)):kal G (n+1) "_law_cell" [.lst (ns.map .int),.int k]=some (.ok (.int (cell ns k))):=by
 refine aV hd ⟨rfl,rfl⟩ (ρ0:=[.val (.lst (ns.map .int)),.val (.int k),.nil,.nil]) rfl ?_;have hs:=iB ns;refine st (ρ':=[.val (.lst (ns.map .int)),.val (.int k),.val (.int 0),.nil]) rfl ?_;refine st (ρ':=[.val (.lst (ns.map .int)),.val (.int k),.val (.int (at0 ns k)),.nil]) (by
  by_cases hp:0<ns.length
  ·have h1:decide ((0:Int)<(ns.length:Int))=true:=EH (by omega);have h2:(0:Int)<(ns.length:Int):=by omega
   have h3:atI (ns.map D.int) (k%(ns.length:Int))=some (D.int (at0 ns k)):=y7 hp;have h4:(ns.map D.int).length=ns.length:=by simp
   walk_at "s"
  ·have h1:ns=[]:=Ev.mp (by omega);subst h1
   rfl) ?_
 by_cases h:ns.sum%2=1
 ·refine bf ?_;have h1:decide (ns.sum%2=1)=true:=EH h;have h2:(0:Int)<2:=by decide
  have e:cell ns k=at0 ns k:=by rw [cell,if_pos h]
  walk_at "s"
 ·have h1:decide (ns.sum%2=1)=false:=EI h;have h2:(0:Int)<2:=by decide
  refine st (ρ':=[.val (.lst (ns.map .int)),.val (.int k),.val (.int (at0 ns k)),.nil]) (by walk_at "s") ?_;have p1:(0:Int)<1000000007:=by decide
  have p2:(0:Int)<2147483647:=by decide
  have p3:(0:Int)<2147483629:=by decide
  have m1:∀i:Int,bH i 48271=true:=fun i=>dX (by decide);have m2:∀i:Int,bH 7919 i=true:=fun i=>ij (by decide);have m3:∀i:Int,bH i 69621=true:=fun i=>dX (by decide);have m4:∀i:Int,bH 17 i=true:=fun i=>ij (by decide);have m5:∀i:Int,bH i 2147483647=true:=fun i=>dX (by decide);have m6:∀i:Int,bH i 16807=true:=fun i=>dX (by decide);refine st (by walk_at "r") (bf ?_);rw [show cell ns k=mixed (at0 ns k) k from by rw [cell,if_neg h]]
  walk_at "r"
theorem xP:atI ((l++[a]).map D.int) (-1)=some (.int a):=by
 unfold atI ixN;rw [if_neg (by decide)];have hl:((l++[a]).map D.int).length=l.length+1:=by simp
 rw [hl,if_pos (by omega)];have e:(-1+((l.length+1:Nat):Int)).toNat=l.length:=by omega
 show ((l++[a]).map D.int)[(-1+((l.length+1:Nat):Int)).toNat]?=_;rw [e];simp
theorem l6 (hd:G.defs "_law_rounds"=some (none,L.rounds)) (h1:1<=most) (h2:most<=144) (hg:2<=gr):kal G (n+1) "_law_rounds" [.int c,.int most,.int gr]=some (.ok (tupI (many gr c most))):=by
 refine aV hd ⟨rfl,rfl⟩ (ρ0:=[.val (.int c),.val (.int most),.val (.int gr),.nil,.nil,.nil]) rfl ?_;refine st (ρ':=[.val (.int c),.val (.int most),.val (.int gr),.owx (.l []),.nil,.nil]) rfl ?_;refine st (ρ':=[.val (.int c),.val (.int most),.val (.int gr),.owx (.l []),.val (.int most),.nil]) rfl ?_;refine st (ρ':=[.val (.int c),.val (.int most),.val (.int gr),.owx (.l []),.val (.int most),.any]) rfl ?_;refine st (eK (g:=D.int) (fun done=>[.val (.int (b8 gr c most done).c),.val (.int most),.val (.int gr),.owx (.l ((b8 gr c most done).f.map D.int)),.val (.int (b8 gr c most done).l),.any]) (aq 3) rfl rfl fun done k rest e=>?_) ?_
 ·refine ⟨[.val (.int (b8 gr c most done).c),.val (.int most),.val (.int gr),.owx (.l ((b8 gr c most done).f.map D.int)),.val (.int (b8 gr c most done).l),.val (.int k)],rfl,?_⟩;rw [sj];have ok:=j7 (c:=c) hg h1 h2 done;generalize b8 gr c most done=s at ok ⊢;have p5:(0:Int)<5:=by decide
  have q5:(0:Int)<5∧(5:Int).toNat<1073741824:=by decide
  have q101:(0:Int)<101∧(101:Int).toNat<1073741824:=by decide
  by_cases hc:1<s.l∧0<s.c%5
  ·obtain ⟨m1,m2⟩:=oJ (c:=s.c) hc.1 hg;have e1:decide (1<s.l)=true:=EH hc.1;have e2:decide (0<s.c%5)=true:=EH hc.2;have e3:(if gr<s.l then gr else s.l)=mn s.l gr:=rfl;have e4:0<mn s.l gr - 1:=by unfold mn;split<;>omega
   have e5:2+s.c / 5%(mn s.l gr - 1)=bR gr s.c s.l:=rfl;have e6:(s.f.map D.int).length<sizeLine:=by
    rw [Ez];have:=ok.len;have:done.length<=3:=by have:=congrArg List.length e;rw [show (aq 3).length=3 from rfl,Ey] at this;omega
    exact ED (show s.f.length<=3 by omega) (by decide)
   have e7:s.f.map D.int++[D.int (bR gr s.c s.l)]=(s.f++[bR gr s.c s.l]).map D.int:=by simp
   have e8:=@xP s.f (bR gr s.c s.l);have e9:0<bR gr s.c s.l∧(bR gr s.c s.l).toNat<1073741824:=by have:=ok.l2;omega
   have em:dB gr s=⟨s.c / 101,s.l / bR gr s.c s.l,s.f++[bR gr s.c s.l]⟩:=by unfold dB;rw [if_pos hc]
   rw [em];refine st (ρ':=[.val (.int s.c),.val (.int most),.val (.int gr),.owx (.l ((s.f++[bR gr s.c s.l]).map D.int)),.val (.int (s.l / bR gr s.c s.l)),.val (.int k)]) (by walk_at "s") ?_;exact st (by walk_at "r") (st (by walk_at "r") aI)
  ·have em:dB gr s=⟨s.c / 101,s.l,s.f⟩:=by unfold dB;rw [if_neg hc]
   rw [em];refine st (ρ':=[.val (.int s.c),.val (.int most),.val (.int gr),.owx (.l (s.f.map D.int)),.val (.int s.l),.val (.int k)]) (by
    by_cases h1:1<s.l
    ·have e1:decide (1<s.l)=true:=EH h1;have e2:decide (0<s.c%5)=false:=EI fun z=>hc ⟨h1,z⟩
     walk_at "s"
    ·have e1:decide (1<s.l)=false:=EI h1
     walk_at "s") ?_
   exact st (by walk_at "r") (st (by walk_at "r") aI)
 ·exact bf (by walk_at "r")
theorem kF (hd:G.defs key=some (none,L.element)) (g:Good ns):kal G (n+1) key [tupI ns,.int c]=some (.ok (tupI (elI ns c))):=by
 refine aV hd ⟨rfl,rfl⟩ (ρ0:=[.val (tupI ns),.val (.int c),.nil,.nil]) rfl ?_;refine st (ρ':=[.val (tupI ns),.val (.int c),.owx (.l []),.nil]) rfl ?_;refine st (ρ':=[.val (tupI ns),.val (.int c),.owx (.l []),.any]) rfl ?_;refine st (eK (g:=D.int) (fun done=>[.val (tupI ns),.val (.int (eP c done).1),.owx (.l ((eP c done).2.map D.int)),.any]) ns rfl rfl fun done a rest e=>?_) ?_
 ·refine ⟨[.val (tupI ns),.val (.int (eP c done).1),.owx (.l ((eP c done).2.map D.int)),.val (.int a)],rfl,?_⟩;rw [rO];have hl:=uw c done;generalize eP c done=s at hl ⊢;have ha:a∈ns:=by rw [e];simp
  have h2:=g.ge a ha;have h3:=g.lt a ha;have p1:0<a:=by omega
  have p2:0<a∧a.toNat<1073741824:=by omega
  have e6:(s.2.map D.int).length<sizeLine:=by
   rw [Ez,hl];have:=g.len;have:done.length<=ns.length:=by rw [e];simp
   exact ED (show done.length<=7 by omega) (by decide)
  have e7:s.2.map D.int++[D.int (s.1%a)]=(s.2++[s.1%a]).map D.int:=by simp
  have em:est s a=(s.1 / a,s.2++[s.1%a]):=rfl;rw [em];exact st (by walk_at "r") (st (by walk_at "r") (st (by walk_at "r") aI))
 ·exact bf (by walk_at "r")
end
section
variable {G:Prg} {C CG CTb:Addr} {n:Nat}
theorem hW (hd:G.defs "_law_added"=some (none,L.added)) (g:Good ns) (hx:x.length=ns.length) (hy:y.length=ns.length):kal G (n+1) "_law_added" [tupI ns,tupI x,tupI y]=some (.ok (tupI (ag ns x y))):=by
 refine aV hd ⟨rfl,rfl⟩ (ρ0:=[.val (tupI ns),.val (tupI x),.val (tupI y)]) rfl (bf ?_);have hl:(ns.map D.int).length=ns.length:=by simp
 have hr:=lW (n:=ns.length) (by have:=g.len;omega);have key:ev G (kal G n) (.comp 1 [0,1,2] (.nm 0) (.blt .range [(.blt .len [(.var 0)])]) (.lit (.bl true)) (.emit (.bin .mod (.bin .add (.ix (.var 2) (.var 0)) (.ix (.var 3) (.var 0))) (.ix (.var 1) (.var 0))))) [.val (tupI ns),.val (tupI x),.val (tupI y)]=some (.lst ((ag ns x y).map .int)):=by
  rw [nQ hx hy,List.map_map];refine jk (g:=D.int) (by simp only [evI,evA,ev.eq_19,ev.eq_1,aQ,List.getElem?_cons_zero,bA,eM,hl,hr]) rfl ?_ fun k hk=>⟨[.val (.int k),.val (tupI ns),.val (tupI x),.val (tupI y)],rfl,?_⟩
  ·rw [kU];exact EE g.fR (by decide)
  ·have hk2:=dC hk;have i1:=eH (l:=ns) hk2.1 hk2.2;have i2:=eH (l:=x) hk2.1 (by omega);have i3:=eH (l:=y) hk2.1 (by omega);have i4:0<gd ns k:=by have:=g.ge _ (mE (l:=ns) hk2.1 hk2.2);omega
   walk_at "r"
 have e5:∀L,af L [.val (tupI ns),.val (tupI x),.val (tupI y)]=[.val (tupI ns),.val (tupI x),.val (tupI y)]:=fun L=>fK L [tupI ns,tupI x,tupI y];simp only [aa.eq_11,evV,ev.eq_19,evA,e5,key,bA,eL]
theorem wF (hd:G.defs "_law_times"=some (none,L.times)) (g:Good ns) (hx:El ns x):kal G (n+1) "_law_times" [tupI ns,.int m,tupI x]=some (.ok (tupI (bB ns m x))):=by
 refine aV hd ⟨rfl,rfl⟩ (ρ0:=[.val (tupI ns),.val (.int m),.val (tupI x)]) rfl (bf ?_);have hl:(ns.map D.int).length=ns.length:=by simp
 have hr:=lW (n:=ns.length) (by have:=g.len;omega);have key:ev G (kal G n) (.comp 1 [1,0,2] (.nm 0) (.blt .range [(.blt .len [(.var 0)])]) (.lit (.bl true)) (.emit (.bin .mod (.bin .mul (.var 1) (.ix (.var 3) (.var 0))) (.ix (.var 2) (.var 0))))) [.val (tupI ns),.val (.int m),.val (tupI x)]=some (.lst ((bB ns m x).map .int)):=by
  rw [xX hx.len,List.map_map];refine jk (g:=D.int) (by simp only [evI,evA,ev.eq_19,ev.eq_1,aQ,List.getElem?_cons_zero,bA,eM,hl,hr]) rfl ?_ fun k hk=>⟨[.val (.int k),.val (.int m),.val (tupI ns),.val (tupI x)],rfl,?_⟩
  ·rw [kU];exact EE g.fR (by decide)
  ·have hk2:=dC hk;have i1:=eH (l:=ns) hk2.1 hk2.2;have i2:=eH (l:=x) hk2.1 (by have:=hx.len;omega);have i4:0<gd ns k:=by have:=g.ge _ (mE (l:=ns) hk2.1 hk2.2);omega
   have i5:bH m (gd x k)=true:=dX (by have:=hx.small g _ (mE (l:=x) hk2.1 (by have:=hx.len;omega));omega)
   walk_at "r"
 have e5:∀L,af L [.val (tupI ns),.val (.int m),.val (tupI x)]=[.val (tupI ns),.val (.int m),.val (tupI x)]:=fun L=>fK L [tupI ns,.int m,tupI x];simp only [aa.eq_11,evV,ev.eq_19,evA,e5,key,bA,eL]
end
section
variable {G:Prg} {cl:Str->List D->Option Rs} {ρ ρ':Rho} {α β:Type} {t:Tg} {b:List CS'} {g:α->D} {it:CE} {L:List Nat}
theorem Ac (I:List α->Rho->Prop) (all:List α) (ρ0:Rho) (h0:I [] ρ0) (h:∀(done:List α) (a:α) (rest:List α) (ρ:Rho),all=done++a::rest->I done ρ->∃ρ1 ρ2,ak t (g a) ρ=some ρ1∧bb ρ1=some (.nx ρ2)∧I (done++[a]) ρ2):
  ∃ρ',forL t bb (all.map g) ρ0=some (.nx ρ')∧I all ρ':=by
 have go:∀(l done:List α) (ρ:Rho),all=done++l->I done ρ->∃ρ',forL t bb (l.map g) ρ=some (.nx ρ')∧I (done++l) ρ':=by
  intro l
  induction l with
  |nil=>intro done ρ _ hi;rw [List.append_nil];exact ⟨ρ,rfl,hi⟩
  |cons a l ih=>
   intro done ρ e hi;obtain ⟨ρ1,ρ2,h1,h2,h3⟩:=h done a l ρ e hi;obtain ⟨ρ',z1,z2⟩:=ih (done++[a]) ρ2 (by rw [e,EB];rfl) h3;refine ⟨ρ',?_,by rw [EB] at z2;exact z2⟩;rw [List.map_cons,forL,h1];dsimp only;rw [h2];exact z1
 exact go all [] ρ0 rfl h0
theorem jI (I:List α->Rho->Prop) (all:List α) (hi:evI G cl it (af L ρ)=some (all.map g)) (hr:af L ρ=ρ0) (h0:I [] ρ0)
  (h:∀(done:List α) (a:α) (rest:List α) (ρ:Rho),all=done++a::rest->I done ρ->∃ρ1 ρ2,ak t (g a) ρ=some ρ1∧IN.run G cl b ρ1=some (.nx ρ2)∧I (done++[a]) ρ2):∃ρ',IN.aa G cl (.for t it L b) ρ=some (.nx ρ')∧I all ρ':=by
 rw [IN.aa,hi];dsimp only;rw [hr];exact Ac I all ρ0 h0 h
theorem kN (R:Rho):∀(l:List α),(∀a∈l,∀o,q a=some o->∀ρ',o≠.nx ρ')->(∀a∈l,∃ρ1,ak t (g a) R=some ρ1∧bb ρ1=some ((q a).getD (.nx R)))->forL t bb (l.map g) R=some ((l.findSome? q).getD (.nx R))
 |[],_,_=>rfl
 |a::l,hq,h=>by
  obtain ⟨ρ1,h1,h2⟩:=h a Eo;rw [List.map_cons,forL,h1];dsimp only;rw [h2,List.findSome?_cons];cases e:q a with
  |none=>exact kN R l (fun b hb=>hq b (En _ hb)) fun b hb=>h b (En _ hb)
  |some o=>
   show (match (some o:Option Oc) with|some (.nx ρ2)=>forL t bb (l.map g) ρ2|o=>o)=_;have:=hq a Eo o e;cases o with
   |nx ρ'=>exact absurd rfl (this ρ')
   |_=>rfl
theorem Bp (R:Rho) (l:List α) (hi:evI G cl it (af L ρ)=some (l.map g)) (h0:af L ρ=R) (hq:∀a∈l,∀o,q a=some o->∀ρ',o≠.nx ρ') (h:∀a∈l,∃ρ1,ak t (g a) R=some ρ1∧IN.run G cl b ρ1=some ((q a).getD (.nx R))):
  IN.aa G cl (.for t it L b) ρ=some ((l.findSome? q).getD (.nx R)):=by
 rw [IN.aa,hi];dsimp only;rw [h0];exact kN R l hq h
end
theorem sf (es:List (_root_.CT.PK×D)) (k q:_root_.CT.PK) (v:D):look (bS es k v) q=if k=q then some v else look es q:=by
 have go1:∀es:List (_root_.CT.PK×D),look (es++[(k,v)]) q=match look es q with|some d=>some d|none=>if k=q then some v else none:=by
  intro es
  induction es with
  |nil=>
   show (if PK.beq k q then some v else none)=_
   by_cases h:k=q
   ·rw [if_pos (beq_iff.mpr h)];simp [look,h]
   ·rw [if_neg (fun z=>h (beq_iff.mp z))];simp [look,h]
  |cons p es ih=>
   obtain ⟨k',d⟩:=p;show (if PK.beq k' q then some d else look (es++[(k,v)]) q)=_;rw [ih];show _=(match (if PK.beq k' q then some d else look es q) with|some d=>some d|none=>_)
   split<;>rfl
 have go2:∀es:List (_root_.CT.PK×D),look (es.map fun p=>if PK.beq p.1 k then (p.1,v) else p) q=match look es q with|some d=>if k=q then some v else some d|none=>none:=by
  intro es
  induction es with
  |nil=>rfl
  |cons p es ih=>
   obtain ⟨k',d⟩:=p;rw [List.map_cons]
   by_cases h1:PK.beq k' k=true
   ·rw [if_pos (show PK.beq (k',d).1 k=true from h1)];show (if PK.beq k' q then some v else look _ q)=(match (if PK.beq k' q then some d else look es q) with|some d=>_|none=>none)
    by_cases h2:PK.beq k' q=true
    ·have hk:k=q:=by rw [←beq_iff.mp h1,beq_iff.mp h2]
     rw [if_pos h2,if_pos h2];show some v=if k=q then some v else some d
     rw [if_pos hk]
    ·rw [if_neg h2,if_neg h2,ih]
   ·rw [if_neg (show ¬PK.beq (k',d).1 k=true from h1)];show (if PK.beq k' q then some d else look _ q)=(match (if PK.beq k' q then some d else look es q) with|some d=>_|none=>none)
    by_cases h2:PK.beq k' q=true
    ·rw [if_pos h2,if_pos h2];show some d=if k=q then some v else some d
     rw [if_neg (fun z=>h1 (by rw [z];exact h2))]
    ·rw [if_neg h2,if_neg h2,ih]
 unfold bS;cases hl:look es k with
 |none=>
  dsimp only;rw [go1]
  by_cases h:k=q
  ·rw [←h,hl,if_pos rfl];try simp
  ·rw [if_neg h];cases look es q<;>simp [h]
 |some d=>
  dsimp only;rw [go2]
  by_cases h:k=q
  ·rw [←h,hl]
  ·rw [if_neg h];cases look es q<;>simp [h]
theorem vm (es:List (_root_.CT.PK×D)) (k:_root_.CT.PK) (v:D):(bS es k v).length<=es.length+1:=by
 unfold bS;split
 ·rw [Ez];omega
 ·rw [Ey];simp
section
variable {G:Prg} {C CG CTb:Addr} {n:Nat}
theorem pE (hd:G.defs "_law_members"=some (none,L.members)) (g:Good ns) (ft:Fit ns):kal G (n+1) "_law_members" [tupI ns]=some (.fr (.l ((PL.mem ns).map tupI))):=by
 refine ei hd ⟨rfl,rfl⟩ (ρ0:=[.val (tupI ns),.nil,.nil,.nil,.nil,.nil]) rfl ?_;refine st (ρ':=[.val (tupI ns),.owx (.l [.tup []]),.nil,.nil,.nil,.nil]) rfl ?_;refine st (ρ':=[.val (tupI ns),.owx (.l [.tup []]),.any,.any,.any,.any]) rfl ?_;refine st (eK (g:=D.int) (fun done=>[.val (tupI ns),.owx (.l ((PL.mem done).map tupI)),.any,.any,.any,.any]) ns rfl rfl fun done a rest e=>?_) ?_
 ·refine ⟨[.val (tupI ns),.owx (.l ((PL.mem done).map tupI)),.val (.int a),.any,.any,.any],rfl,?_⟩;have ha:a∈ns:=by rw [e];simp
  have hp:(done++[a])<+:ns:=⟨rest,by rw [e,EB];rfl⟩
  have hm:=ft _ hp;rw [fS] at hm;have g2:=g.ge a ha;have g3:=g.lt a ha;refine st (ρ':=[.val (tupI ns),.owx (.l ((PL.mem done).map tupI)),.val (.int a),.owx (.l []),.any,.any]) rfl ?_;refine st (ρ':=[.val (tupI ns),.owx (.l ((PL.mem done).map tupI)),.val (.int a),.owx (.l []),.any,.any]) rfl ?_;refine st (eK (g:=tupI) (fun pre=>[.val (tupI ns),.val (.lst ((PL.mem done).map tupI)),.val (.int a),.owx (.l ((PL.step pre a).map tupI)),.any,.any]) (PL.mem done) rfl rfl fun pre x rest2 e2=>?_) ?_
  ·refine ⟨[.val (tupI ns),.val (.lst ((PL.mem done).map tupI)),.val (.int a),.owx (.l ((PL.step pre a).map tupI)),.val (tupI x),.any],rfl,?_⟩;refine st (ρ':=[.val (tupI ns),.val (.lst ((PL.mem done).map tupI)),.val (.int a),.owx (.l ((PL.step pre a).map tupI)),.val (tupI x),.any]) rfl ?_;have hr:=lV (j:=a) (by omega);refine st (eK (g:=D.int) (fun ks=>[.val (tupI ns),.val (.lst ((PL.mem done).map tupI)),.val (.int a),.owx (.l ((PL.step pre a++ks.map fun k=>x++[k]).map tupI)),.val (tupI x),.any]) (aq a) (by simp only [evI,evA,ev.eq_1,af,aC,List.modify_zero_cons,List.modify_succ_cons,aQ,List.getElem?_cons_succ,List.getElem?_cons_zero,hr]) (by simp [af,aC]) fun ks k rest3 e3=>?_) ?_
   ·refine ⟨[.val (tupI ns),.val (.lst ((PL.mem done).map tupI)),.val (.int a),.owx (.l ((PL.step pre a++ks.map fun k=>x++[k]).map tupI)),.val (tupI x),.val (.int k)],rfl,?_⟩;have hx:x∈PL.mem done:=by rw [e2];simp
    have hxl:=PL.oH hx;have h2:done.length<=ns.length:=by rw [e];simp
    have h7:=g.len;have z1:x.length+1<=sizeLine:=EE (show x.length+1<=1000 by omega) (by decide);have z2:(1:Nat)<=sizeLine:=by decide
    have e4:=lg x k;have e5:=aN (x++[k]);have e6:(PL.step pre a++ks.map fun k=>x++[k]).length<sizeLine:=by
     have l2:(PL.mem done).length=pre.length+1+rest2.length:=by rw [e2,Ey,List.length_cons];omega
     have l3:ks.length+1<=(aq a).length:=by rw [e3,Ey,List.length_cons];omega
     have h3:(PL.step pre a++ks.map fun k=>x++[k]).length<=(PL.step (PL.mem done) a).length:=by
      rw [Ey,i7,i7,Ez,l2,Nat.add_mul,Nat.add_mul];have:=Nat.zero_le (rest2.length*(aq a).length);omega
     exact ED (EE h3 hm) (by decide)
    have e7:(PL.step pre a++ks.map fun k=>x++[k]).map tupI++[tupI (x++[k])]=(PL.step pre a++(ks++[k]).map fun k=>x++[k]).map tupI:=by simp
    refine st (ρ':=[.val (tupI ns),.val (.lst ((PL.mem done).map tupI)),.val (.int a),.owx (.l ((PL.step pre a++(ks++[k]).map fun k=>x++[k]).map tupI)),.val (tupI x),.val (.int k)]) (by
     simp? [aa.eq_7,ev.eq_1,ev.eq_4,ev.eq_14,evA,z2,fz,List.length_map,z1,e4,e5,e6,e7]) (st (by rfl) aI)
   ·refine st (by rfl) ?_;have e8:(PL.step pre a++(aq a).map fun k=>x++[k])=PL.step (pre++[x]) a:=by simp [PL.step]
    rw [e8];exact aI
  ·rw [fS];exact st (by rfl) (st (by rfl) aI)
 ·exact f6 (by rfl)
end
noncomputable def eW (t:Pr->List Int) (p:Pr) (v:List Int):Pr->List Int:=fun q=>if q=p then v else t q
theorem yR (h:p∉l):bS (ab t l) (pkP p) (tupI v)=ab (eW t p v) (l++[p]):=by
 have e:ab t l=ab (eW t p v) l:=by
  unfold ab;refine List.map_congr_left fun q hq=>?_;have:q≠p:=fun z=>h (z▸hq);simp [eW,this]
 have e2:tupI v=tupI (eW t p v p):=by simp [eW]
 rw [e,e2,fm];exact i8 h
theorem ie (h:p∈l):look (ab t l) (pkP p)=some (tupI (t p)):=by rw [dW];exact uG h
theorem dU (h:(x,y)∈l):ixD (.pdc (ab t l)) (.tup [tupI x,tupI y])=some (tupI (t (x,y))):=by
 rw [gb,Am,ie h]
theorem bW (hx:x∈l) (hy:y∈l):(x,y)∈prs l:=List.mem_flatMap.mpr ⟨x,hx,Es.mpr ⟨y,hy,rfl⟩⟩
theorem kh (h:p∈prs l):p.1∈l∧p.2∈l:=by
 obtain ⟨x,hx,h⟩:=List.mem_flatMap.mp h;obtain ⟨y,hy,rfl⟩:=Es.mp h;exact ⟨hx,hy⟩
section
variable {G:Prg} {C CG CTb:Addr} {n:Nat}
structure TC0 (G:Prg) (C CG CTb:Addr):Prop where
 T:TB G C CG CTb
 car:G.defs "Table.carries"=some (none,P.dG)
 uM:G.mth CTb "carries"=some ("Table.carries":Str)
theorem gy {lo up:List Int} {t:Pr->List Int} (K:TC0 G C CG CTb) (U:LU lo up):kal G (n+1) "Table.carries" [tabI CTb C lo up t]=some (.fr (.d (ab t (prs (PL.mem up))))):=by
 refine ei K.car ⟨rfl,rfl⟩ (ρ0:=[.val (tabI CTb C lo up t)]) rfl (f6 ?_);have h1:=K.T.fke;have hf:bo G (tabI CTb C lo up t) "kept"=some (.pdc (ab t (prs (PL.mem up)))):=by unfold tabI;simp only [bo,h1,if_true,Cp]
 have ha:apart ((ab t (prs (PL.mem up))).map fun q=>q.1.hs)=true:=by
  have:=EA.mp tm up (tq U.gu.ge U.p9);unfold hashesOf at this;unfold ab;rw [List.map_map];exact this
 simp only [aa.eq_11,evV,ev.eq_19,evA,ev.eq_18,ev.eq_1,af,aC,List.modify_zero_cons,aQ,List.getElem?_cons_zero,hf,ha,if_true]
end
theorem u0 (x:List Int):b_ (tupI x)=some (.t (x.map .i)):=by
 simp only [b_,fY]
theorem m7 (x:List Int):(PK.t (x.map .i)).dp<=8:=by
 have go:∀x:List Int,_root_.CT.PK.dpL (x.map _root_.CT.PK.i)=0:=by
  intro x
  induction x with
  |nil=>rfl
  |cons a x ih=>show max (_root_.CT.PK.dp (.i a)) (_root_.CT.PK.dpL (x.map .i))=0;rw [ih];rfl
 show _root_.CT.PK.dpL (x.map .i)+1<=8;rw [go];decide
theorem pY:ixD (.pdc es) (tupI x)=look es (pkT x):=vS (u0 x) (m7 x)
noncomputable def Lab (lo:List Int) (es:List (_root_.CT.PK×D)) (l:List (List Int)):Prop:=∀x∈l,∃e,look es (pkT x)=some (tupI e)∧El lo e
theorem Lab.put {lo:List Int} {es:List (_root_.CT.PK×D)} {l:List (List Int)} {x e:List Int} (h:Lab lo es l) (he:El lo e):Lab lo (bS es (pkT x) (tupI e)) (l++[x]):=fun y hy=>by
 rw [sf]
 by_cases q:pkT x=pkT y
 ·rw [if_pos q];exact ⟨e,rfl,he⟩
 ·rw [if_neg q];rcases Ep.mp hy with z|z
  ·exact h y z
  ·exact absurd (by rw [Et.mp z]) q
theorem ur {l:List (List Int)}:∀(k:Nat),a7 k (l.map tupI)=(l.zipIdx k).map fun p=>D.tup [.int (p.2:Int),tupI p.1]:=fun k=>gL l k
theorem mP:∀(ns:List Int) (acc:List (List Int)) (b:List Int),b∈ns.foldl PL.step acc↔∃a∈acc,∃e,El ns e∧b=a++e
 |[],acc,b=>by
  constructor
  ·intro h;exact ⟨b,h,[],El.nil,by simp⟩
  ·rintro ⟨a,ha,e,he,rfl⟩;have:e=[]:=Ev.mp he.len;subst this;simpa using ha
 |n::ns,acc,b=>by
  rw [List.foldl_cons,mP ns];constructor
  ·rintro ⟨a',ha',e,he,rfl⟩;obtain ⟨a,ha,h⟩:=List.mem_flatMap.mp ha';obtain ⟨k,hk,rfl⟩:=Es.mp h;have:=dC hk;exact ⟨a,ha,k::e,El.cons this.1 this.2 he,by simp⟩
  ·rintro ⟨a,ha,e,he,rfl⟩;obtain ⟨k,r,rfl,h1,h2,hr⟩:=he.inv;refine ⟨a++[k],List.mem_flatMap.mpr ⟨a,ha,Es.mpr ⟨k,?_,rfl⟩⟩,r,hr,by simp⟩;unfold aq;exact Es.mpr ⟨k.toNat,List.mem_range.mpr (by omega),by omega⟩
theorem mem_iff:b∈PL.mem ns↔El ns b:=by
 unfold PL.mem;rw [mP];constructor
 ·rintro ⟨a,ha,e,he,rfl⟩;rw [Et.mp ha];simpa using he
 ·intro h;exact ⟨[],by simp,b,h,by simp⟩
theorem jy:∀(ns:List Int) (acc:List (List Int)),(∀n∈ns,2<=n)->((ns.foldl PL.step acc).length:Int)=acc.length*prod ns
 |[],acc,_=>by show (acc.length:Int)=acc.length*1;omega
 |n::ns,acc,h=>by
  have hn:=h n Eo;rw [List.foldl_cons,jy ns _ fun m hm=>h m (En _ hm),i7,prod_cons];have e:((aq n).length:Int)=n:=by unfold aq;rw [Ez,List.length_range];omega
  rw [Int.natCast_mul,e,Int.mul_assoc]
theorem ek (h:∀n∈ns,2<=n):((PL.mem ns).length:Int)=prod ns:=by
 unfold PL.mem;rw [jy ns _ h];simp
theorem u5 (a b:List Int):prod (a++b)=prod a*prod b:=by
 induction a with
 |nil=>show prod b=1*prod b;omega
 |cons x a ih=>rw [List.cons_append,prod_cons,prod_cons,ih,Int.mul_assoc]
theorem rR (h:∀n∈ns,2<=n) (hp:prod ns<=144):Fit ns:=by
 rintro l ⟨r,e⟩;subst e;have h1:∀n∈l,2<=n:=fun n hn=>h n (Do _ hn);have h2:1<=prod r:=eD fun n hn=>h n (Db _ hn);have h3:=ek h1;rw [u5] at hp;have h4:=eD h1;have:prod l*1<=prod l*prod r:=Int.mul_le_mul_of_nonneg_left h2 (by omega);omega
theorem BM:ups.all (fun ns=>decide (PL.mem ns).Nodup)=true:=by decide+kernel
theorem vX {lo up:List Int} (gl:Good lo) (gu:Good up) (hl:prod lo<=16) (hu:prod up<=9):LU lo up where
 gl:=gl
 gu:=gu
 fl:=rR gl.ge gl.le
 fu:=rR gu.ge gu.le
 l16:=by have:=ek gl.ge;omega
 u9:=by have:=ek gu.ge;omega
 nd:=by simpa using EA.mp BM up (tq gu.ge hu)
 p9:=hu
theorem k7 (hg:2<=gr) (h1:1<=most) (h2:most<=144):prod (many gr c most)<=most:=by
 have h:=j7 (c:=c) hg h1 h2 (aq 3);have h3:prod (b8 gr c most (aq 3)).f*1<=prod (b8 gr c most (aq 3)).f*(b8 gr c most (aq 3)).l:=Int.mul_le_mul_of_nonneg_left h.l1 (by have:=h.p1;omega);rw [Int.mul_one] at h3;exact Int.le_trans h3 h.pr
theorem jN (g:Good up) (hx:x∈PL.mem up) (hy:y∈PL.mem up):ag up x y∈PL.mem up:=mem_iff.mpr (El.add g.g2 (mem_iff.mp hx) (mem_iff.mp hy))
theorem sQ {l pre rest pre2 rest2:List (List Int)} {x y:List Int} (e1:l=pre++x::rest) (e2:l=pre2++y::rest2):∃tail,prs l=((pre.flatMap fun a=>l.map fun b=>(a,b))++pre2.map fun b=>(x,b))++(x,y)::tail:=by
 refine ⟨(rest2.map fun b=>(x,b))++rest.flatMap fun a=>l.map fun b=>(a,b),?_⟩;have:prs l=(pre++x::rest).flatMap fun a=>l.map fun b=>(a,b):=by rw [←e1];rfl
 rw [this,List.flatMap_append,List.flatMap_cons];have e3:(l.map fun b=>(x,b))=(pre2.map fun b=>(x,b))++(x,y)::rest2.map fun b=>(x,b):=by rw [e2,List.map_append,List.map_cons]
 rw [e3];simp
theorem fJ (l:List (List Int)):a8 (.l (l.map tupI))=true:=by
 show aR (l.map tupI)=true
 induction l with
 |nil=>rfl
 |cons x l ih=>show (aR (x.map .int)&&aR (l.map tupI))=true;rw [cn,ih];rfl
section
variable {G:Prg} {C CG CTb:Addr} {n:Nat}
structure LW (G:Prg):Prop where
 cell:G.defs "_law_cell"=some (none,L.cell)
 vP:G.fn "_law_cell"=some ("_law_cell":Str)
 rounds:G.defs "_law_rounds"=some (none,L.rounds)
 xI:G.fn "_law_rounds"=some ("_law_rounds":Str)
 mem:G.defs "_law_members"=some (none,L.members)
 Dp:G.fn "_law_members"=some ("_law_members":Str)
 added:G.defs "_law_added"=some (none,L.added)
 Aa:G.fn "_law_added"=some ("_law_added":Str)
 times:G.defs "_law_times"=some (none,L.times)
 Ae:G.fn "_law_times"=some ("_law_times":Str)
 elm:G.defs "_law_element"=some (none,L.element)
 Dn:G.fn "_law_element"=some ("_law_element":Str)
end
section
variable {G:Prg} {C CG CTb:Addr} {n:Nat}
theorem ow:aC (.val d)=.val d:=rfl
end
section
variable {G:Prg} {C CG CTb:Addr} {n:Nat}
theorem d_ (t:Pr->List Int) (l:List Pr):a8 (.d (ab t l))=true:=by
 show (ab t l).all (fun p=>ah p.2)=true;unfold ab;rw [List.all_map,EA];exact fun p _=>aN _
theorem mS (p:Pr):ah (prD p)=true:=by
 show (ah (tupI p.1)&&(ah (tupI p.2)&&true))=true;rw [aN,aN];rfl
end
section
variable {G:Prg} {cl:Str->List D->Option Rs} {ρ ρ':Rho} {s:CS'} {r b:List CS'} {α:Type} {t:Tg} {g:α->D} {it:CE} {L:List Nat}
theorem oM:ah (.int i)=true:=rfl
theorem oK:ah (.bl i)=true:=rfl
theorem oN:ah .non=true:=rfl
theorem oO:ah (.str i)=true:=rfl
theorem dD:ah (grp C ns)=true:=by
 show (ah (tupI ns)&&true)=true;rw [show ah (tupI ns)=true from cn ns];rfl
theorem vG:bg .lt (.int i) (.int j)=some (decide (i<j)):=rfl
theorem vF:bg .le (.int i) (.int j)=some (decide (i<=j)):=rfl
theorem vE:bg .gt (.int i) (.int j)=some (decide (j<i)):=rfl
theorem vD:bg .ge (.int i) (.int j)=some (decide (j<=i)):=rfl
theorem vC:bg .eq (.int i) (.int j)=some (decide (i=j)):=rfl
theorem vH:bg .ne (.int i) (.int j)=some (!decide (i=j)):=rfl
noncomputable def nxt:Option Oc->(Rho->Option Oc)->Option Oc
 |some (.nx ρ),k=>k ρ
 |o,_=>o
theorem wj:IN.run G cl (s::r) ρ=nxt (IN.aa G cl s ρ) (IN.run G cl r):=by
 rw [IN.run];cases IN.aa G cl s ρ with
 |none=>rfl
 |some o=>cases o<;>rfl
theorem sv:nxt (some (.nx ρ)) k=k ρ:=rfl
theorem sy:nxt (some (.rt d)) k=some (.rt d):=rfl
theorem su:nxt (some (.fr c)) k=some (.fr c):=rfl
theorem sA:nxt (some (.xc ρ d)) k=some (.xc ρ d):=rfl
theorem jm (I:Rho->Prop):∀(l:List α) (ρ:Rho),I ρ->(∀a∈l,∀o,q a=some o->∀ρ',o≠.nx ρ')->
  (∀a∈l,∀ρ,I ρ->∃ρ1,ak t (g a) ρ=some ρ1∧((∃o,q a=some o∧bb ρ1=some o)∨(q a=none∧∃ρ2,I ρ2∧bb ρ1=some (.nx ρ2))))->∃ρ',I ρ'∧forL t bb (l.map g) ρ=some ((l.findSome? q).getD (.nx ρ'))
 |[],ρ,i,_,_=>⟨ρ,i,rfl⟩
 |a::l,ρ,i,hq,h=>by
  obtain ⟨ρ1,h1,h2⟩:=h a Eo ρ i;rw [List.map_cons,forL,h1,List.findSome?_cons];dsimp only;rcases h2 with ⟨o,e,hb⟩|⟨e,ρ2,i2,hb⟩
  ·rw [hb,e];refine ⟨ρ,i,?_⟩;have:=hq a Eo o e;cases o with
   |nx ρ'=>exact absurd rfl (this ρ')
   |_=>rfl
  ·rw [hb,e];exact jm I l ρ2 i2 (fun b hb=>hq b (En _ hb)) fun b hb=>h b (En _ hb)
theorem yI (I:Rho->Prop) (l:List α) (hi:evI G cl it (af L ρ)=some (l.map g)) (h0:I (af L ρ)) (hq:∀a∈l,∀o,q a=some o->∀ρ',o≠.nx ρ')
  (h:∀a∈l,∀ρ,I ρ->∃ρ1,ak t (g a) ρ=some ρ1∧((∃o,q a=some o∧IN.run G cl b ρ1=some o)∨(q a=none∧∃ρ2,I ρ2∧IN.run G cl b ρ1=some (.nx ρ2)))):
  ∃ρ',I ρ'∧IN.aa G cl (.for t it L b) ρ=some ((l.findSome? q).getD (.nx ρ')):=by
 obtain ⟨ρ',i,e⟩:=jm I l _ h0 hq h;exact ⟨ρ',i,by rw [IN.aa,hi];exact e⟩
theorem mj:∀(l done:List (List Int×List Int)),(done++l).Nodup->(done++l).length<=1000->(∀p∈l,f (prD p)=some (pkP p,tupI (u p)))->gH f (l.map prD) (ab u done)=some (ab u (done++l))
 |[],done,_,_,_=>by rw [List.append_nil];rfl
 |p::l,done,hn,hl,h=>by
  have hp:p∉done:=fun z=>(List.nodup_append.mp hn).2.2 _ z _ Eo rfl;rw [List.map_cons,gH,h p Eo];dsimp only;have hz:(ab u done).length<sizeLine:=by
   unfold ab;rw [Ez];rw [Ey] at hl;exact ED (show done.length<=1000 by omega) (by decide)
  rw [if_pos hz,fm,i8 hp,mj l (done++[p]) (by rw [EB];exact hn) (by rw [EB];exact hl) fun q hq=>h q (En _ hq),EB];rfl
theorem zV (hi:evI G cl it ρ=some (l.map prD)) (hw:((tks t).all fun k=>k<w)=true) (hnd:l.Nodup) (hz:l.length<=1000)
  (hb:∀p∈l,∃ρ1,ak t (prD p) (cz w cap ρ)=some ρ1∧ev G cl kx ρ1=some (prD p)∧ev G cl vx ρ1=some (tupI (u p))) (pk:∀p:List Int×List Int,b_ (prD p)=some (pkP p)) (dp:∀p:List Int×List Int,(pkP p).dp<=8):ev G cl (.bN w cap t it kx vx) ρ=some (.pdc (ab u l)):=by
 rw [ev,hi];dsimp only;rw [if_pos hw];have e0:ab u []=[]:=rfl;rw [←e0];rw [mj (u:=u) l [] hnd hz fun p hp=>?_]
 ·rfl
 ·obtain ⟨ρ1,h1,h2,h3⟩:=hb p hp;rw [h1];dsimp only;rw [h2,h3];unfold pK;have e:b_ (prD p)=some (.t [pkT p.1,pkT p.2]):=pk p;have e2:(PK.t [pkT p.1,pkT p.2]).dp<=8:=dp p;simp only [e,e2,if_true];rfl
end
local macro_rules|`(tactic|dsimp? [$ls,*])=>do
 let m<-("wj aI sv sy su sA aa.eq_1 aa.eq_2 aa.eq_3 aa.eq_4 aa.eq_5 aa.eq_6 aa.eq_7 aa.eq_8 aa.eq_9 aa.eq_10 aa.eq_11 aa.eq_12 aa.eq_13 aa.eq_16 aa.eq_18 aa.eq_19 evV ev.eq_1 ev.eq_2 ev.eq_3 ev.eq_4 ev.eq_5 ev.eq_6 ev.eq_7 ev.eq_8 ev.eq_9 ev.eq_10 ev.eq_11 ev.eq_12 ev.eq_13 ev.eq_14 ev.eq_15 ev.eq_16 ev.eq_17 ev.eq_18 ev.eq_19 ev.eq_20 ev.eq_21 ev.eq_23 evA evT evI evB aQ af aC List.modify_zero_cons List.modify_succ_cons List.modify_nil kp oM oK oN oO aN mS dD fJ d_ ak aP gM List.set_cons_zero List.set_cons_succ List.set_nil List.getElem?_cons_zero List.getElem?_cons_succ List.length_cons List.length_nil Nat.reduceAdd Nat.reduceLT Nat.reduceSub Nat.reduceLeDiff Nat.zero_add Nat.zero_lt_succ if_true if_false Bool.not_true Bool.not_false Bool.true_and Bool.false_and Bool.and_true Bool.and_false Bool.true_or Bool.false_or Bool.or_true Bool.or_false and_self true_and and_true Bool.false_eq_true fz vG vF vE vD vC vH eL eM gO pW uB ic ju bA fnR Rs.val Ow.D cz bZ List.replicate List.cons_append List.nil_append List.map_cons List.map_nil slD asI pQ pO pS pU lN pR pT pP pV mI mH Option.map_some decide_true decide_false List.all_cons List.all_nil tks dO vd List.append_nil reduceCtorEq ite_self".splitOn " ").toArray.mapM fun s=>`(Lean.Parser.Tactic.simpLemma|$(Lean.mkIdent s.toName):ident)
 let a:=(ls.getElems.map fun x=>(.mk x.raw:Lean.TSyntax `Lean.Parser.Tactic.simpLemma))++m
 `(tactic|simp only [$a,*])
section
variable {G:Prg} {C CG CTb:Addr} {n:Nat}
theorem y_ (h1:br x=some xs) (h2:br y=some ys) (h3:br z=some zs):gv .zip [x,y,z]=some (a_ xs ys zs):=by
 show (match br x,br y,br z with|some xs,some ys,some zs=>some (a_ xs ys zs)|_,_,_=>none)=_;rw [h1,h2,h3]
theorem wC (hd:G.defs "Rounds.sum_of"=some (none,P.bU)) (fok:G.fok C "rounds"=true) (g:Good ns):kal G (n+1) "Rounds.sum_of" [grp C ns,tupI x,tupI y]=some (.ok (tupI (ag ns x y))):=by
 refine aV hd ⟨rfl,rfl⟩ (ρ0:=[.val (grp C ns),.val (tupI x),.val (tupI y)]) rfl (bf ?_);have hf:bo G (grp C ns) "rounds"=some (tupI ns):=by unfold grp;simp only [bo,fok,if_true,p0]
 have hz:gv .zip [tupI x,tupI y,tupI ns]=some ((x.zip (y.zip ns)).map fun p=>D.tup [.int p.1,.int p.2.1,.int p.2.2]):=by rw [←ll];exact y_ rfl rfl rfl
 have key:ev G (kal G n) (.comp 3 [] (.tp [(.nm 0),(.nm 1),(.nm 2)]) (.blt .zip [(.var 1),(.var 2),(.fld (.var 0) "rounds")]) (.lit (.bl true)) (.emit (.bin .mod (.bin .add (.var 0) (.var 1)) (.var 2)))) [.val (grp C ns),.val (tupI x),.val (tupI y)]=some (.lst ((x.zip (y.zip ns)).map fun p=>D.int ((p.1+p.2.1)%p.2.2))):=by
  refine jk (g:=fun p:Int×Int×Int=>D.tup [.int p.1,.int p.2.1,.int p.2.2]) (by simp only [evI,evA,ev.eq_1,ev.eq_18,aQ,List.getElem?_cons_zero,List.getElem?_cons_succ,hf,hz]) rfl ?_ fun p hp=>⟨[.val (.int p.1),.val (.int p.2.1),.val (.int p.2.2)],rfl,?_⟩
  ·have:=g.fR;rw [List.length_zip,List.length_zip];exact EE (show min x.length (min y.length ns.length)<=1000 by omega) (by decide)
  ·have hp2:0<p.2.2:=by have:=g.ge _ (uN hp);omega
   simp only [ev.eq_4,ev.eq_1,aQ,List.getElem?_cons_zero,List.getElem?_cons_succ,fz,hp2,if_true]
 simp only [aa.eq_11,evV,ev.eq_19,evA,af,aC,List.modify_zero_cons,List.modify_succ_cons,key,bA,eL];unfold ag tupI;rw [List.map_map];rfl
theorem j8 (hd:G.defs "Rounds.sum_of"=some (none,P.bU)) (hm:G.mth C "sum_of"=some ("Rounds.sum_of":Str)) (fok:G.fok C "rounds"=true) (g:Good ns):aF G (kal G (n+1)) (grp C ns) "sum_of" [tupI x,tupI y]=some (.ok (tupI (ag ns x y))):=by
 have h2:=wC (n:=n) (x:=x) (y:=y) hd fok g;have h3:(rf ns).lookup ("sum_of":Str)=none:=rfl;unfold grp at h2 ⊢;simp only [aF,h3,hm,h2]
noncomputable def bk3 (lo up:List Int) (t:Pr->List Int) (p:Pr) (z:List Int):Bool:=!decide (ag lo (t p) (t (ag up p.1 p.2,z))=ag lo (t (p.2,z)) (t (p.1,ag up p.2 z)))
noncomputable abbrev Tr:=Pr×List Int
noncomputable def trD (w:Tr):D:=.tup [tupI w.1.1,tupI w.1.2,tupI w.2]
noncomputable def f3 (lo up:List Int) (t:Pr->List Int) (p:Pr) (z:List Int):Option Tr:=if bk3 lo up t p z then some (p,z) else none
noncomputable def br3 (lo up:List Int) (t:Pr->List Int):Option Tr:=(prs (PL.mem up)).findSome? fun p=>(PL.mem up).findSome? (f3 lo up t p)
noncomputable def o3 (w:Option Tr):Option Oc:=w.map fun w=>Oc.rt (trD w)
noncomputable def d3 (w:Option Tr):D:=match w with
 |some w=>trD w
 |none=>.non
theorem sC (h:o3 w=some o):∀ρ',o≠.nx ρ':=by
 cases w with
 |none=>cases h
 |some w=>cases h;exact fun ρ' z=>nomatch z
theorem ke {α:Type} (f:α->Option Tr):∀l:List α,(l.findSome? fun a=>o3 (f a))=o3 (l.findSome? f)
 |[]=>rfl
 |a::l=>by
  rw [List.findSome?_cons,List.findSome?_cons];cases f a with
  |none=>exact ke f l
  |some w=>rfl
structure TD (G:Prg) (C CG CTb:Addr):Prop extends TC0 G C CG CTb where
 b3:G.defs "break_of_three"=some (none,P.bt)
 sm:G.defs "Rounds.sum_of"=some (none,P.bU)
 msm:G.mth C "sum_of"=some ("Rounds.sum_of":Str)
theorem tQ {lo up:List Int} {t:Pr->List Int} (K:TD G C CG CTb) (U:LU lo up):kal G (n+3) "break_of_three" [tabI CTb C lo up t]=some (.ok (d3 (br3 lo up t))):=by
 refine aV K.b3 ⟨rfl,rfl⟩ (ρ0:=[.val (tabI CTb C lo up t),.nil,.nil,.nil,.nil,.nil,.nil,.nil,.nil,.nil,.nil]) rfl ?_;have hm:aF G (kal G (n+2)) (tabI CTb C lo up t) "carries" []=some (.fr (.d (ab t (prs (PL.mem up))))):=by
  have h1:=K.uM;have h2:=gy (n:=n+1) (t:=t) K.toTC0 U;have h3:(tf C lo up t).lookup ("carries":Str)=none:=rfl;unfold tabI at h2 ⊢;simp only [aF,h3,h1,h2]
 have hfl:bo G (tabI CTb C lo up t) "lower"=some (grp C lo):=by have f1:=K.T.flo;unfold tabI;simp only [bo,f1,if_true,sd]
 have hfu:bo G (tabI CTb C lo up t) "upper"=some (grp C up):=by have f1:=K.T.fup;unfold tabI;simp only [bo,f1,if_true,vV]
 have hmm:=ig (n:=n+1) K.T.B U.gu U.fu;have g1:=K.T.fpr;have g2:=nW (n:=n) K.T U.gu U.fu U.u9;have ng:=dD (C:=C) (ns:=lo);have fr1:a8 (.d (ab t (prs (PL.mem up))))=true:=d_ _ _;have fr2:a8 (.l ((PL.mem up).map tupI))=true:=fJ _;have fr3:a8 (.l ((prs (PL.mem up)).map prD))=true:=by
  show aR ((prs (PL.mem up)).map prD)=true;generalize prs (PL.mem up)=l
  induction l with
  |nil=>rfl
  |cons p l ih=>show (ah (prD p)&&aR (l.map prD))=true;rw [mS,ih];rfl
 have hz2:(2:Nat)<=sizeLine:=by decide
 have hz3:(3:Nat)<=sizeLine:=by decide
 have l81:(prs (PL.mem up)).length<=1000:=by rw [il];exact EE (Nat.mul_le_mul U.u9 U.u9) (by decide)
 have hsu:∀(x y:List Int),aF G (kal G (n+2)) (grp C up) "sum_of" [tupI x,tupI y]=some (.ok (tupI (ag up x y))):=fun x y=>j8 (n:=n+1) K.sm K.msm K.T.B.A.fok U.gu;have hsl:∀(x y:List Int),aF G (kal G (n+2)) (grp C lo) "sum_of" [tupI x,tupI y]=some (.ok (tupI (ag lo x y))):=fun x y=>j8 (n:=n+1) K.sm K.msm K.T.B.A.fok U.gl;generalize htb:tabI CTb C lo up t=tb at hm hfl hfu;have hdc:ev G (kal G (n+2)) (.bN 2 [0] (.tp [(.nm 0),(.nm 1)]) (.var 4) (.tup [(.var 0),(.var 1)]) (.mth (.fld (.var 2) "upper") "sum_of" [(.var 0),(.var 1)])) [.val tb,.val (grp C lo),.owx (.d (ab t (prs (PL.mem up)))),.owx (.l ((PL.mem up).map tupI)),.val (.lst ((prs (PL.mem up)).map prD)),.nil,.nil,.nil,.nil,.nil,.nil]=some (.pdc (ab (fun p=>ag up p.1 p.2) (prs (PL.mem up)))):=by
  refine zV rfl rfl (gX U.nd) l81 (fun p hp=>⟨[.val (tupI p.1),.val (tupI p.2),.val tb],rfl,?_,?_⟩) (fun p=>jD p) fun p=>jC p
  ·simp only [ev.eq_14,evA,ev.eq_1,aQ,List.getElem?_cons_zero,List.getElem?_cons_succ,List.length_cons,List.length_nil,Nat.reduceAdd,hz2,if_true,gb]
  ·simp only [ev.eq_21,evA,ev.eq_1,ev.eq_18,aQ,List.getElem?_cons_zero,List.getElem?_cons_succ,hfu,hsu,Rs.val]
 have fr4:a8 (.d (ab (fun p=>ag up p.1 p.2) (prs (PL.mem up))))=true:=d_ _ _;unfold P.bt;dsimp? [hfl,ng,hm,fr1,hfu,hmm,fr2,g1,g2,fr3,hdc,fr4];obtain ⟨ρ',i',key⟩:∃ρ',True∧IN.aa G (kal G (n+2)) (P.bt.body.getD 6 .pass) [.val tb,.val (grp C lo),.owx (.d (ab t (prs (PL.mem up)))),.owx (.l ((PL.mem up).map tupI)),.owx (.l ((prs (PL.mem up)).map prD)),.any,.any,.owx (.d (ab (fun p=>ag up p.1 p.2) (prs (PL.mem up)))),.any,.any,.any]=
   some (((prs (PL.mem up)).findSome? fun p=>o3 ((PL.mem up).findSome? (f3 lo up t p))).getD (.nx ρ')):=by
  have:=yI (G:=G) (cl:=kal G (n+2)) (t:=.tp [.nm 5,.nm 6]) (g:=prD) (it:=.var 4) (L:=[4]) (ρ:=[.val tb,.val (grp C lo),.owx (.d (ab t (prs (PL.mem up)))),.owx (.l ((PL.mem up).map tupI)),.owx (.l ((prs (PL.mem up)).map prD)),.any,.any,.owx (.d (ab (fun p=>ag up p.1 p.2) (prs (PL.mem up)))),.any,.any,.any])
   (b:=match P.bt.body.getD 6 .pass with|.for _ _ _ b=>b|_=>[]) (q:=fun p=>o3 ((PL.mem up).findSome? (f3 lo up t p))) (fun ρ=>∃s3,aC s3=.val (.lst ((PL.mem up).map tupI))∧ρ=[.val tb,.val (grp C lo),.owx (.d (ab t (prs (PL.mem up)))),s3,.val (.lst ((prs (PL.mem up)).map prD)),.any,.any,.owx (.d (ab (fun p=>ag up p.1 p.2) (prs (PL.mem up)))),.any,.any,.any])
   (prs (PL.mem up)) rfl ⟨_,rfl,rfl⟩ (fun p _ o h=>sC h) fun p hp ρ ⟨s3,q3,e⟩=>?_
  ·obtain ⟨ρ',_,e⟩:=this;exact ⟨ρ',trivial,e⟩
  ·subst e;obtain ⟨x,y⟩:=p;obtain ⟨hx,hy⟩:=kh hp;refine ⟨[.val tb,.val (grp C lo),.owx (.d (ab t (prs (PL.mem up)))),s3,.val (.lst ((prs (PL.mem up)).map prD)),.val (tupI x),.val (tupI y),.owx (.d (ab (fun p=>ag up p.1 p.2) (prs (PL.mem up)))),.any,.any,.any],rfl,?_⟩;have inner:IN.aa G (kal G (n+2)) (.for (.nm 8) (.var 3) [3] [(.asg (.nm 9) (.mth (.var 1) "sum_of" [(.ix (.var 2) (.tup [(.var 5),(.var 6)])),(.ix (.var 2) (.tup [(.ix (.var 7) (.tup [(.var 5),(.var 6)])),(.var 8)]))]) [1,2,7,5,6,8]),(.asg (.nm 10) (.mth (.var 1) "sum_of" [(.ix (.var 2) (.tup [(.var 6),(.var 8)])),(.ix (.var 2) (.tup [(.var 5),(.ix (.var 7) (.tup [(.var 6),(.var 8)]))]))]) [1,2,5,7,6,8]),(.ife (.cmp .ne (.var 9) (.var 10)) [9,10] [(.ret (.tup [(.var 5),(.var 6),(.var 8)]) [5,6,8])] []),(.fgt [8,9,10])])
     [.val tb,.val (grp C lo),.owx (.d (ab t (prs (PL.mem up)))),s3,.val (.lst ((prs (PL.mem up)).map prD)),.val (tupI x),.val (tupI y),.owx (.d (ab (fun p=>ag up p.1 p.2) (prs (PL.mem up)))),.any,.any,.any]=some (((PL.mem up).findSome? fun z=>o3 (f3 lo up t (x,y) z)).getD (.nx [.val tb,.val (grp C lo),.owx (.d (ab t (prs (PL.mem up)))),.val (.lst ((PL.mem up).map tupI)),.val (.lst ((prs (PL.mem up)).map prD)),.val (tupI x),.val (tupI y),.owx (.d (ab (fun p=>ag up p.1 p.2) (prs (PL.mem up)))),.any,.any,.any])):=by
    refine Bp (g:=tupI) _ (PL.mem up) ?_ ?_ (fun z _ o h=>sC h) fun z hz=>⟨[.val tb,.val (grp C lo),.owx (.d (ab t (prs (PL.mem up)))),.val (.lst ((PL.mem up).map tupI)),.val (.lst ((prs (PL.mem up)).map prD)),.val (tupI x),.val (tupI y),.owx (.d (ab (fun p=>ag up p.1 p.2) (prs (PL.mem up)))),.val (tupI z),.any,.any],rfl,?_⟩
    ·simp only [evI,af,List.modify_succ_cons,List.modify_zero_cons,q3,aQ,List.getElem?_cons_succ,List.getElem?_cons_zero,gO]
    ·simp only [af,List.modify_succ_cons,List.modify_zero_cons,q3]
    have a1:=jN U.gu hx hy;have a2:=jN U.gu hy hz;have i1:=dU (t:=t) (bW hx hy);have i2:=dU (t:=fun p=>ag up p.1 p.2) (bW hx hy);have i3:=dU (t:=t) (bW a1 hz);have i4:=dU (t:=t) (bW hy hz);have i5:=dU (t:=fun p=>ag up p.1 p.2) (bW hy hz);have i6:=dU (t:=t) (bW hx a2);have s1:=hsl (t (x,y)) (t (ag up x y,z));have s2:=hsl (t (y,z)) (t (x,ag up y z));have n1:=aN (ag lo (t (x,y)) (t (ag up x y,z)));have n2:=aN (ag lo (t (y,z)) (t (x,ag up y z)));have cm:=wI (ag lo (t (x,y)) (t (ag up x y,z))) (ag lo (t (y,z)) (t (x,ag up y z)));unfold f3 bk3;dsimp only;cases hb:decide (ag lo (t (x,y)) (t (ag up x y,z))=ag lo (t (y,z)) (t (x,ag up y z))) with
    |true=>
     rw [hb] at cm;dsimp? [i1,i2,i3,i4,i5,i6,s1,s2,n1,n2,cm,hz2,hz3];rfl
    |false=>
     rw [hb] at cm;dsimp? [i1,i2,i3,i4,i5,i6,s1,s2,n1,n2,cm,hz2,hz3];rfl
   rw [ke] at inner;show (∃o,o3 ((PL.mem up).findSome? (f3 lo up t (x,y)))=some o∧IN.run G (kal G (n+2)) [(.fgt [8,9,10]),_,(.fgt [5,6,8,9,10])] _=some o)∨_;cases hq:(PL.mem up).findSome? (f3 lo up t (x,y)) with
   |none=>
    rw [hq] at inner;refine .inr ⟨rfl,_,⟨.val (.lst ((PL.mem up).map tupI)),rfl,rfl⟩,?_⟩;exact st (by rfl) (st inner (st (by rfl) aI))
   |some w=>
    rw [hq] at inner;exact .inl ⟨_,rfl,st (by rfl) (bf inner)⟩
 rw [ke] at key;have e3:br3 lo up t=(prs (PL.mem up)).findSome? fun p=>(PL.mem up).findSome? (f3 lo up t p):=rfl;rw [←e3] at key;refine (congrArg (fun o=>nxt o _) key).trans ?_;cases br3 lo up t with
 |none=>show IN.run G (kal G (n+2)) [(.ret (.lit .non) [])] ρ'=_;dsimp? [d3]
 |some w=>rfl
end
theorem El.nil_eq (h:El [] x):x=[]:=Ev.mp h.len
theorem gm:∀{ns x y:List Int},El ns x->El ns y->ag ns x y=ag ns y x
 |[],x,y,h1,h2=>by have:=h1.nil_eq;have:=h2.nil_eq;subst_vars;rfl
 |m::ns,x,y,h1,h2=>by
  obtain ⟨a,x',rfl,_,_,hx⟩:=h1.inv;obtain ⟨b,y',rfl,_,_,hy⟩:=h2.inv;rw [bF,bF,gm hx hy,Int.add_comm]
theorem bQ:∀{ns x y z:List Int},El ns x->El ns y->El ns z->ag ns (ag ns x y) z=ag ns x (ag ns y z)
 |[],x,y,z,h1,h2,h3=>by have:=h1.nil_eq;have:=h2.nil_eq;have:=h3.nil_eq;subst_vars;rfl
 |m::ns,x,y,z,h1,h2,h3=>by
  obtain ⟨a,x',rfl,_,_,hx⟩:=h1.inv;obtain ⟨b,y',rfl,_,_,hy⟩:=h2.inv;obtain ⟨c,z',rfl,_,_,hz⟩:=h3.inv;rw [bF,bF,bF,bF,bQ hx hy hz,Int.emod_add_emod,Int.add_emod_emod,Int.add_assoc]
theorem jd (g:Ge2 ns) (hx:El ns x) (hy:El ns y) (hz:El ns z) (hw:El ns w):ag ns (ag ns x y) (ag ns z w)=ag ns (ag ns x z) (ag ns y w):=by
 rw [bQ hx hy (hz.add g hw),←bQ hy hz hw,gm hy hz,bQ hz hy hw,←bQ hx hz (hy.add g hw)]
theorem gp:∀{ns x:List Int},El ns x->ag ns x (List.replicate ns.length 0)=x
 |[],x,h=>by have:=h.nil_eq;subst_vars;rfl
 |n::ns,x,h=>by
  obtain ⟨a,x',rfl,h1,h2,hx⟩:=h.inv;show (a+0)%n::ag ns x' (List.replicate ns.length 0)=_;rw [gp hx,Int.add_zero,Int.emod_eq_of_lt h1 h2]
noncomputable def chi (up:List Int) (k:Int) (x y:List Int):Int:=if gd up k<=gd x k+gd y k then 1 else 0
noncomputable def plI (lo up:List Int) (v:Int->List Int) (x y:List Int):List Int->List Int
 |[]=>List.replicate lo.length 0
 |k::l=>ag lo (bB lo (chi up k x y) (v k)) (plI lo up v x y l)
theorem hB {lo up x y:List Int} {v:Int->List Int} (g:Ge2 lo) (hv:∀k,El lo (v k)):∀l,El lo (plI lo up v x y l)
 |[]=>El.zero g
 |k::l=>((hv k).mul g).add g (hB g hv l)
noncomputable def jQ (lo up:List Int) (v:Int->List Int) (x y acc:List Int) (l:List Int):List Int:=l.foldl (fun a k=>if gd up k<=gd x k+gd y k then ag lo a (v k) else a) acc
theorem c8 {lo up x y:List Int} {v:Int->List Int} (g:Ge2 lo) (hv:∀k,El lo (v k)):∀(l acc:List Int),El lo acc->jQ lo up v x y acc l=ag lo acc (plI lo up v x y l)
 |[],acc,ha=>(gp ha).symm
 |k::l,acc,ha=>by
  show jQ lo up v x y (if gd up k<=gd x k+gd y k then ag lo acc (v k) else acc) l=ag lo acc (ag lo (bB lo (chi up k x y) (v k)) (plI lo up v x y l));have hp:=hB (up:=up) (x:=x) (y:=y) g hv l;unfold chi
  by_cases h:gd up k<=gd x k+gd y k
  ·rw [if_pos h,if_pos h,c8 g hv l _ (ha.add g (hv k)),mR (hv k),bQ ha (hv k) hp]
  ·rw [if_neg h,if_neg h,c8 g hv l _ ha,k_ (hv k),gm (El.zero g) hp,gp hp]
theorem rW (hx:El up x) (hy:El up y) (h0:0<=k) (h1:k<(up.length:Int)):gd (ag up x y) k=(gd x k+gd y k)%gd up k:=by
 have hk:k.toNat<up.length:=by omega
 rw [nQ hx.len hy.len];unfold gd;rw [gS];simp [hk,Int.toNat_of_nonneg h0,gd]
theorem lK:∀{up x:List Int} {k:Int},El up x->0<=k->k<(up.length:Int)->0<=gd x k∧gd x k<gd up k
 |[],_,k,_,h0,h1=>by simp at h1;omega
 |n::up,x,k,h,h0,h1=>by
  obtain ⟨a,x',rfl,h2,h3,hx⟩:=h.inv
  by_cases e:k=0
  ·subst e;exact ⟨h2,h3⟩
  ·obtain ⟨j,rfl⟩:∃j,k=j+1:=⟨k - 1,by omega⟩
   have e1:∀(b:Int) (l:List Int),gd (b::l) (j+1)=gd l j:=fun b l=>by
    unfold gd;have:(j+1).toNat=j.toNat+1:=by omega
    rw [this];rfl
   rw [e1,e1];exact lK hx (by omega) (by simp at h1;omega)
theorem mod2 {s n:Int} (h0:0<=s) (h1:s<n+n):s%n=if n<=s then s - n else s:=by
 by_cases h:n<=s
 ·rw [if_pos h,←Int.sub_emod_right s n,Int.emod_eq_of_lt (by omega) (by omega)]
 ·rw [if_neg h,Int.emod_eq_of_lt h0 (by omega)]
theorem zj {up x y z:List Int} {k:Int} (hx:El up x) (hy:El up y) (hz:El up z) (h0:0<=k) (h1:k<(up.length:Int)):chi up k x y+chi up k (ag up x y) z=chi up k y z+chi up k x (ag up y z):=by
 obtain ⟨x0,x1⟩:=lK hx h0 h1;obtain ⟨y0,y1⟩:=lK hy h0 h1;obtain ⟨z0,z1⟩:=lK hz h0 h1;unfold chi;rw [rW hx hy h0 h1,rW hy hz h0 h1,mod2 (by omega) (by omega),mod2 (by omega) (by omega)]
 repeat' split
 all_goals omega
theorem sO {lo up x y z:List Int} {v:Int->List Int} (g:Ge2 lo) (hv:∀k,El lo (v k)) (hx:El up x) (hy:El up y) (hz:El up z):∀l:List Int,(∀k∈l,0<=k∧k<(up.length:Int))->
  ag lo (plI lo up v x y l) (plI lo up v (ag up x y) z l)=ag lo (plI lo up v y z l) (plI lo up v x (ag up y z) l)
 |[],_=>rfl
 |k::l,h=>by
  have p:∀x y,El lo (plI lo up v x y l):=fun x y=>hB g hv l;have m:∀i:Int,El lo (bB lo i (v k)):=fun i=>(hv k).mul g;show ag lo (ag lo _ _) (ag lo _ _)=ag lo (ag lo _ _) (ag lo _ _);rw [jd g (m _) (p _ _) (m _) (p _ _),jd g (m _) (p _ _) (m _) (p _ _),add_mul (hv k),add_mul (hv k),zj hx hy hz (h k Eo).1 (h k Eo).2,sO g hv hx hy hz l fun k hk=>h k (En _ hk)]
noncomputable def gB (lo up:List Int) (h:List Int->List Int) (x y:List Int):List Int:=ag lo (ag lo (h x) (h y)) (bB lo (-1) (h (ag up x y)))
theorem zm:∀{ns a b c d e f:List Int},El ns a->El ns b->El ns c->El ns d->El ns e->El ns f->
  ag ns (ag ns (ag ns a b) (bB ns (-1) d)) (ag ns (ag ns d c) (bB ns (-1) f))=ag ns (ag ns (ag ns b c) (bB ns (-1) e)) (ag ns (ag ns a e) (bB ns (-1) f))
 |[],_,_,_,_,_,_,h1,h2,h3,h4,h5,h6=>by
  have:=h1.nil_eq;have:=h2.nil_eq;have:=h3.nil_eq;have:=h4.nil_eq;have:=h5.nil_eq;have:=h6.nil_eq
  subst_vars;rfl
 |n::ns,_,_,_,_,_,_,h1,h2,h3,h4,h5,h6=>by
  obtain ⟨a,a',rfl,_,_,ha⟩:=h1.inv;obtain ⟨b,b',rfl,_,_,hb⟩:=h2.inv;obtain ⟨c,c',rfl,_,_,hc⟩:=h3.inv;obtain ⟨d,d',rfl,_,_,hd⟩:=h4.inv;obtain ⟨e,e',rfl,_,_,he⟩:=h5.inv;obtain ⟨f,f',rfl,_,_,hf⟩:=h6.inv;simp only [bF,b9,zm ha hb hc hd he hf]
  congr 1
  simp only [Int.emod_add_emod,Int.add_emod_emod];exact congrArg (·%n) (by omega)
theorem zo {lo up x y z:List Int} {h:List Int->List Int} (gu:Ge2 up) (hh:∀x,El up x->El lo (h x)) (hx:El up x) (hy:El up y) (hz:El up z):
  ag lo (gB lo up h x y) (gB lo up h (ag up x y) z)=ag lo (gB lo up h y z) (gB lo up h x (ag up y z)):=by
 unfold gB;rw [bQ hx hy hz];exact zm (hh _ hx) (hh _ hy) (hh _ hz) (hh _ (hx.add gu hy)) (hh _ (hy.add gu hz)) (hh _ (hx.add gu (hy.add gu hz)))
noncomputable def cU (lo up:List Int) (v:Int->List Int) (h:List Int->List Int) (p:List Int×List Int):List Int:=jQ lo up v p.1 p.2 (gB lo up h p.1 p.2) (aq up.length)
theorem mf {lo up x y:List Int} {h:List Int->List Int} (g:Ge2 lo) (gu:Ge2 up) (hh:∀x,El up x->El lo (h x)) (hx:El up x) (hy:El up y):El lo (gB lo up h x y):=
 ((hh _ hx).add g (hh _ hy)).add g ((hh _ (hx.add gu hy)).mul g)
theorem wG {lo up x y:List Int} {v:Int->List Int} {h:List Int->List Int} (g:Ge2 lo) (gu:Ge2 up) (hv:∀k,El lo (v k)) (hh:∀x,El up x->El lo (h x)) (hx:El up x) (hy:El up y):El lo (cU lo up v h (x,y)):=by
 unfold cU;rw [c8 g hv _ _ (mf g gu hh hx hy)];exact (mf g gu hh hx hy).add g (hB g hv _)
theorem zg {lo up x y z:List Int} {v:Int->List Int} {h:List Int->List Int} (g:Ge2 lo) (gu:Ge2 up) (hv:∀k,El lo (v k)) (hh:∀x,El up x->El lo (h x)) (hx:El up x) (hy:El up y) (hz:El up z):
  ag lo (cU lo up v h (x,y)) (cU lo up v h (ag up x y,z))=ag lo (cU lo up v h (y,z)) (cU lo up v h (x,ag up y z)):=by
 have c:=fun {x y:List Int} (hx:El up x) (hy:El up y)=>mf (h:=h) g gu hh hx hy;have p:∀x y,El lo (plI lo up v x y (aq up.length)):=fun x y=>hB g hv _;unfold cU;rw [c8 g hv _ _ (c hx hy),c8 g hv _ _ (c (hx.add gu hy) hz),c8 g hv _ _ (c hy hz),c8 g hv _ _ (c hx (hy.add gu hz))];rw [jd g (c hx hy) (p _ _) (c (hx.add gu hy) hz) (p _ _),jd g (c hy hz) (p _ _) (c hx (hy.add gu hz)) (p _ _),zo gu hh hx hy hz,sO g hv hx hy hz _ fun k hk=>dC hk]
section
variable {G:Prg} {C CG CTb:Addr} {n:Nat}
noncomputable def Vas (F:Pr->List Int) (t:Pr->List Int) (l:List Pr):Prop:=∀p∈l,t p=F p
theorem Vas.snoc (h:Vas F t l) (hv:v=F p):Vas F (eW t p v) (l++[p]):=fun q hq=>by
 unfold eW
 by_cases e:q=p
 ·rw [if_pos e,hv,e]
 ·rw [if_neg e];rcases Ep.mp hq with hq|hq
  ·exact h q hq
  ·exact absurd (Et.mp hq) e
noncomputable def pvI (lo:List Int) (c:Int) (k:Int):List Int:=elI lo (c / (5*k+1))
theorem l7 {lo up:List Int} {c0 c1:Int} (W:LW G) (hd:G.defs "_law_table"=some (none,L.table)) (U:LU lo up):∃h t,(∀x,El up x->El lo (h x))∧kal G (n+2) "_law_table" [tupI lo,tupI up,.lst [.int c0,.int c1]]=some (.fr (.d (ab t (prs (PL.mem up)))))∧Vas (cU lo up (pvI lo c0) h) t (prs (PL.mem up)):=by
 have h1:=W.Dp;have h2:=pE (n:=n) W.mem U.gu U.fu;have f1:=W.Dn;have f2:=W.Aa;have f3:=W.Ae;have hz2:(2:Nat)<=sizeLine:=by decide
 have hfree:a8 (.l ((PL.mem up).map tupI))=true:=fJ _;obtain ⟨ρ1,k1,es,s6,rfl,hLab,hesl⟩:∃ρ',IN.aa G (kal G (n+1)) (L.table.body.getD 3 .pass) [.val (tupI lo),.val (tupI up),.val (.lst [.int c0,.int c1]),.owx (.l ((PL.mem up).map tupI)),.owx (.d []),.any,.nil,.nil,.nil,.nil,.nil]=some (.nx ρ')∧
   ∃es s6,ρ'=[.val (tupI lo),.val (tupI up),.val (.lst [.int c0,.int c1]),.val (.lst ((PL.mem up).map tupI)),.owx (.d es),.any,s6,.nil,.nil,.nil,.nil]∧Lab lo es (((PL.mem up).zipIdx).map (·.1))∧es.length<=((PL.mem up).zipIdx).length:=by
  refine jI (g:=fun p:List Int×Nat=>D.tup [.int (p.2:Int),tupI p.1]) (fun done ρ=>∃es s6,ρ=[.val (tupI lo),.val (tupI up),.val (.lst [.int c0,.int c1]),.val (.lst ((PL.mem up).map tupI)),.owx (.d es),.any,s6,.nil,.nil,.nil,.nil]∧Lab lo es (done.map (·.1))∧es.length<=done.length) ((PL.mem up).zipIdx) ?_ rfl ⟨[],.nil,rfl,fun x hx=>(nomatch hx),EG _⟩ fun done p rest ρ e ⟨es,s6,hρ,hE,hl⟩=>?_
  ·have:a7 0 ((PL.mem up).map tupI)=((PL.mem up).zipIdx 0).map fun p=>D.tup [.int (p.2:Int),tupI p.1]:=ur 0;rw [←this];rfl
  ·subst hρ;obtain ⟨x,k⟩:=p;have hk:k<1000:=by
    have:(x,k)∈(PL.mem up).zipIdx:=by rw [e];simp
    have:=List.mem_zipIdx this;have:=U.u9;omega
   have m1:bH 7 (k:Int)=true:=ij (by decide);have m2:(0:Int)<7*(k:Int)+1∧(7*(k:Int)+1).toNat<1073741824:=by omega
   have ix1:atI [D.int c0,D.int c1] 1=some (.int c1):=rfl;have el:=kF (n:=n) (c:=c1 / (7*(k:Int)+1)) W.elm U.gl;have hel:=mw (c:=c1 / (7*(k:Int)+1)) U.gl.g2;generalize elI lo (c1 / (7*(k:Int)+1))=v at el hel;have g4:=u0 x;have g8:=m7 x;have g6:es.length<sizeLine:=by
    have l1:done.length<=((PL.mem up).zipIdx).length:=by rw [e];simp
    rw [List.length_zipIdx] at l1;have:=U.u9;exact ED (show es.length<=9 by omega) (by decide)
   have g7:=aN v;refine ⟨[.val (tupI lo),.val (tupI up),.val (.lst [.int c0,.int c1]),.val (.lst ((PL.mem up).map tupI)),.owx (.d es),.val (.int (k:Int)),.val (tupI x),.nil,.nil,.nil,.nil],_,rfl,?_,bS es (pkT x) (tupI v),.val (tupI x),rfl,?_,?_⟩
   ·refine st (ρ':=[.val (tupI lo),.val (tupI up),.val (.lst [.int c0,.int c1]),.val (.lst ((PL.mem up).map tupI)),.owx (.d (bS es (pkT x) (tupI v))),.val (.int (k:Int)),.val (tupI x),.nil,.nil,.nil,.nil]) (by
     simp? [aa.eq_5,evA,ev.eq_1,ev.eq_2,ev.eq_4,ev.eq_16,ev.eq_20,ic,ix1,fz,m1,m2,and_self,fnR,f1,el,g7,g4,g8,g6]
     rfl) (st (by rfl) aI)
   ·rw [List.map_append];exact hE.put hel
   ·have:=vm es (pkT x) (tupI v);rw [Ey];simp;omega
 have hLab':Lab lo es (PL.mem up):=by rw [List.zipIdx_map_fst] at hLab;exact hLab
 obtain ⟨h,hh⟩:∃h:List Int->List Int,∀x∈PL.mem up,look es (pkT x)=some (tupI (h x))∧El lo (h x):=⟨fun x=>if z:x∈PL.mem up then (hLab' x z).choose else [],fun x z=>by dsimp only;rw [dif_pos z];exact (hLab' x z).choose_spec⟩
 have hh2:∀x,El up x->El lo (h x):=fun x z=>(hh x (mem_iff.mpr z)).2;obtain ⟨ρ2,k2,t,s6',s4,rfl,hEls,q4⟩:∃ρ',IN.aa G (kal G (n+1)) (L.table.body.getD 6 .pass) [.val (tupI lo),.val (tupI up),.val (.lst [.int c0,.int c1]),.val (.lst ((PL.mem up).map tupI)),.owx (.d es),.any,s6,.owx (.d []),.any,.any,.any]=some (.nx ρ')∧
   ∃t s6' s4,ρ'=[.val (tupI lo),.val (tupI up),.val (.lst [.int c0,.int c1]),.val (.lst ((PL.mem up).map tupI)),s4,.any,s6',.owx (.d (ab t ((PL.mem up).flatMap fun a=>(PL.mem up).map fun b=>(a,b)))),.any,.any,.any]∧Vas (cU lo up (pvI lo c0) h) t ((PL.mem up).flatMap fun a=>(PL.mem up).map fun b=>(a,b))∧aC s4=.val (.pdc es):=by
  refine jI (g:=tupI) (fun done ρ=>∃t s6' s4,ρ=[.val (tupI lo),.val (tupI up),.val (.lst [.int c0,.int c1]),.val (.lst ((PL.mem up).map tupI)),s4,.any,s6',.owx (.d (ab t (done.flatMap fun a=>(PL.mem up).map fun b=>(a,b)))),.any,.any,.any]∧Vas (cU lo up (pvI lo c0) h) t (done.flatMap fun a=>(PL.mem up).map fun b=>(a,b))∧aC s4=.val (.pdc es)) (PL.mem up) rfl rfl ⟨fun _=>[],s6,_,rfl,fun p hp=>(nomatch hp),rfl⟩ fun done x rest ρ e ⟨t,s6',s4,hρ,hE,q4⟩=>?_;subst hρ;have hx:x∈PL.mem up:=by rw [e];simp
  refine ⟨[.val (tupI lo),.val (tupI up),.val (.lst [.int c0,.int c1]),.val (.lst ((PL.mem up).map tupI)),s4,.any,.val (tupI x),.owx (.d (ab t (done.flatMap fun a=>(PL.mem up).map fun b=>(a,b)))),.any,.any,.any],?_⟩;obtain ⟨ρ3,k3,t',s4',rfl,hE',q4'⟩:∃ρ',IN.aa G (kal G (n+1)) (match L.table.body.getD 6 .pass with|.for _ _ _ b=>b.getD 1 .pass|s=>s) [.val (tupI lo),.val (tupI up),.val (.lst [.int c0,.int c1]),.val (.lst ((PL.mem up).map tupI)),s4,.any,.val (tupI x),.owx (.d (ab t (done.flatMap fun a=>(PL.mem up).map fun b=>(a,b)))),.any,.any,.any]=some (.nx ρ')∧
    ∃t' s4',ρ'=[.val (tupI lo),.val (tupI up),.val (.lst [.int c0,.int c1]),.val (.lst ((PL.mem up).map tupI)),s4',.any,.val (tupI x),.owx (.d (ab t' ((done.flatMap fun a=>(PL.mem up).map fun b=>(a,b))++(PL.mem up).map fun b=>(x,b)))),.any,.any,.any]∧Vas (cU lo up (pvI lo c0) h) t' ((done.flatMap fun a=>(PL.mem up).map fun b=>(a,b))++(PL.mem up).map fun b=>(x,b))∧aC s4'=.val (.pdc es):=by
   refine jI (g:=tupI) (ρ0:=[.val (tupI lo),.val (tupI up),.val (.lst [.int c0,.int c1]),.val (.lst ((PL.mem up).map tupI)),s4,.any,.val (tupI x),.owx (.d (ab t ((done.flatMap fun a=>(PL.mem up).map fun b=>(a,b))))),.any,.any,.any]) (fun done2 ρ=>∃t' s4',ρ=[.val (tupI lo),.val (tupI up),.val (.lst [.int c0,.int c1]),.val (.lst ((PL.mem up).map tupI)),s4',.any,.val (tupI x),.owx (.d (ab t' ((done.flatMap fun a=>(PL.mem up).map fun b=>(a,b))++done2.map fun b=>(x,b)))),.any,.any,.any]∧Vas (cU lo up (pvI lo c0) h) t' ((done.flatMap fun a=>(PL.mem up).map fun b=>(a,b))++done2.map fun b=>(x,b))∧aC s4'=.val (.pdc es)) (PL.mem up) rfl rfl ⟨t,s4,by rw [List.map_nil,List.append_nil],by rw [List.map_nil,List.append_nil];exact hE,q4⟩ fun done2 y rest2 ρ e2 ⟨t',s4',hρ,hE',q4'⟩=>?_;subst hρ;have hy:y∈PL.mem up:=by rw [e2];simp
   obtain ⟨lx,elx⟩:=hh x hx;obtain ⟨ly,ely⟩:=hh y hy;obtain ⟨lz,elz⟩:=hh _ (jN U.gu hx hy);have qx:ixD (.pdc es) (tupI x)=some (tupI (h x)):=by rw [pY,lx]
   have qy:ixD (.pdc es) (tupI y)=some (tupI (h y)):=by rw [pY,ly]
   have qz:ixD (.pdc es) (tupI (ag up x y))=some (tupI (h (ag up x y))):=by rw [pY,lz]
   have xu:=mem_iff.mp hx;have yu:=mem_iff.mp hy;have w1:=hW (n:=n) W.added U.gl elx.len ely.len;have v1:=elx.add U.gl.g2 ely;generalize q1:ag lo (h x) (h y)=h1' at w1 v1;have w2:=hW (n:=n) W.added U.gu xu.len yu.len;have w3:=wF (n:=n) (m:= -1) W.times U.gl elz;have v3:=elz.mul (m:= -1) U.gl.g2;generalize q3:bB lo (-1) (h (ag up x y))=h3 at w3 v3;have w4:=hW (n:=n) W.added U.gl v1.len v3.len;have v4:=v1.add U.gl.g2 v3;generalize q0:ag lo h1' h3=h4 at w4 v4;have qc:h4=gB lo up h x y:=by rw [←q0,←q1,←q3];rfl
   have nl1:=aN h1';have nl4:=aN h4;obtain ⟨ρ5,k5,h5,rfl,v5,w5⟩:∃ρ',IN.aa G (kal G (n+1)) (.for (.nm 10) (.blt .range [(.blt .len [(.var 1)])]) [1] [(.ife (.cmp .ge (.bin .add (.ix (.var 6) (.var 10)) (.ix (.var 8) (.var 10))) (.ix (.var 1) (.var 10))) [6,8,1,10] [(.asg (.nm 9) (.fn "_law_added" [(.var 0),(.var 9),(.fn "_law_element" [(.var 0),(.bin .fdiv (.ix (.var 2) (.lit (.int 0))) (.bin .add (.bin .mul (.lit (.int 5)) (.var 10)) (.lit (.int 1))))])]) [9,0,2,10])] []),(.fgt [10])]) [.val (tupI lo),.val (tupI up),.val (.lst [.int c0,.int c1]),.val (.lst ((PL.mem up).map tupI)),s4',.any,.val (tupI x),.owx (.d (ab t' ((done.flatMap fun a=>(PL.mem up).map fun b=>(a,b))++done2.map fun b=>(x,b)))),.val (tupI y),.val (tupI h4),.any]=some (.nx ρ')∧∃h5,ρ'=[.val (tupI lo),.val (tupI up),.val (.lst [.int c0,.int c1]),.val (.lst ((PL.mem up).map tupI)),s4',.any,.val (tupI x),.owx (.d (ab t' ((done.flatMap fun a=>(PL.mem up).map fun b=>(a,b))++done2.map fun b=>(x,b)))),.val (tupI y),.val (tupI h5),.any]∧El lo h5∧h5=jQ lo up (pvI lo c0) x y h4 (aq up.length):=by
    have hl:up.length<=1000000:=EE U.gu.fR (by decide);have b1:=lW hl;have b2:(up.map D.int).length=up.length:=by simp
    refine jI (g:=D.int) (fun done3 ρ=>∃h5,ρ=[.val (tupI lo),.val (tupI up),.val (.lst [.int c0,.int c1]),.val (.lst ((PL.mem up).map tupI)),s4',.any,.val (tupI x),.owx (.d (ab t' ((done.flatMap fun a=>(PL.mem up).map fun b=>(a,b))++done2.map fun b=>(x,b)))),.val (tupI y),.val (tupI h5),.any]∧El lo h5∧h5=jQ lo up (pvI lo c0) x y h4 done3) (aq up.length) (by
     simp? [evI,evA,ev.eq_19,ev.eq_1,bA,eM,b2,b1]) rfl ⟨h4,rfl,v4,rfl⟩ fun done3 k rest3 ρ e3 ⟨h5,hρ,v5,w5⟩=>?_
    subst hρ;have hk:k∈aq (up.length:Int):=by rw [e3];simp
    have hk2:=dC hk;have i1:atI (x.map D.int) k=some (.int (gd x k)):=eH hk2.1 (by rw [xu.len];exact hk2.2);have i2:atI (y.map D.int) k=some (.int (gd y k)):=eH hk2.1 (by rw [yu.len];exact hk2.2);have i3:atI (up.map D.int) k=some (.int (gd up k)):=eH hk2.1 hk2.2;have i4:atI [D.int c0,D.int c1] 0=some (.int c0):=rfl;have k9:k<1000:=by have:=U.gu.fR;omega
    have m1:bH 5 k=true:=ij (by decide);have m2:(0:Int)<5*k+1∧(5*k+1).toNat<1073741824:=by omega
    have el:=kF (n:=n) (c:=c0 / (5*k+1)) W.elm U.gl;have hel:=mw (c:=c0 / (5*k+1)) U.gl.g2;generalize qv:elI lo (c0 / (5*k+1))=v at el hel;have w6:=hW (n:=n) W.added U.gl v5.len hel.len;have v6:=v5.add U.gl.g2 hel;generalize q6:ag lo h5 v=h6 at w6 v6;have nl6:=aN h6;refine ⟨[.val (tupI lo),.val (tupI up),.val (.lst [.int c0,.int c1]),.val (.lst ((PL.mem up).map tupI)),s4',.any,.val (tupI x),.owx (.d (ab t' ((done.flatMap fun a=>(PL.mem up).map fun b=>(a,b))++done2.map fun b=>(x,b)))),.val (tupI y),.val (tupI h5),.val (.int k)],[.val (tupI lo),.val (tupI up),.val (.lst [.int c0,.int c1]),.val (.lst ((PL.mem up).map tupI)),s4',.any,.val (tupI x),.owx (.d (ab t' ((done.flatMap fun a=>(PL.mem up).map fun b=>(a,b))++done2.map fun b=>(x,b)))),.val (tupI y),.val (tupI (if gd up k<=gd x k+gd y k then h6 else h5)),.any],rfl,?_,_,rfl,by split<;>assumption,by rw [←q6,←qv,w5];unfold jQ;rw [List.foldl_append];rfl⟩;refine st (ρ':=[.val (tupI lo),.val (tupI up),.val (.lst [.int c0,.int c1]),.val (.lst ((PL.mem up).map tupI)),s4',.any,.val (tupI x),.owx (.d (ab t' ((done.flatMap fun a=>(PL.mem up).map fun b=>(a,b))++done2.map fun b=>(x,b)))),.val (tupI y),.val (tupI (if gd up k<=gd x k+gd y k then h6 else h5)),.val (.int k)]) ?_ (st (by rfl) aI)
    by_cases hc:gd up k<=gd x k+gd y k
    ·have hd1:decide (gd up k<=gd x k+gd y k)=true:=EH hc;rw [if_pos hc];simp? [aa.eq_13,aa.eq_1,IN.run,evT,evV,evA,ev.eq_1,ev.eq_2,ev.eq_4,ev.eq_9,ev.eq_16,ev.eq_20,fz,jS,ju,ic,i1,i2,i3,i4,m1,m2,and_self,hd1,fnR,f1,el,f2,w6,nl6]
    ·have hd1:decide (gd up k<=gd x k+gd y k)=false:=EI hc;rw [if_neg hc];simp? [aa.eq_13,aa.eq_1,IN.run,evT,evV,evA,ev.eq_1,ev.eq_2,ev.eq_4,ev.eq_9,ev.eq_16,ev.eq_20,fz,jS,ju,ic,i1,i2,i3,i4,m1,m2,and_self,hd1,fnR,f1,el,f2,w6,nl6]
   obtain ⟨tail,hsp⟩:=sQ e e2;have hnd:(prs (PL.mem up)).Nodup:=gX U.nd;have hn:(x,y)∉(done.flatMap fun a=>(PL.mem up).map fun b=>(a,b))++done2.map fun b=>(x,b):=by
    rw [hsp] at hnd;intro z;exact (List.nodup_append.mp hnd).2.2 _ z _ Eo rfl
   have g3:=yR (t:=t') (v:=h5) hn;have g9:bS (ab t' ((done.flatMap fun a=>(PL.mem up).map fun b=>(a,b))++done2.map fun b=>(x,b))) (PK.t [pkT x,pkT y]) (tupI h5)=ab (eW t' (x,y) h5) (((done.flatMap fun a=>(PL.mem up).map fun b=>(a,b))++done2.map fun b=>(x,b))++[(x,y)]):=g3;have g4:=jD (x,y);have g8:(PK.t [pkT x,pkT y]).dp<=8:=jC (x,y);have g6:(ab t' ((done.flatMap fun a=>(PL.mem up).map fun b=>(a,b))++done2.map fun b=>(x,b))).length<sizeLine:=by
    unfold ab;rw [Ez];have l1:((done.flatMap fun a=>(PL.mem up).map fun b=>(a,b))++done2.map fun b=>(x,b)).length<=(prs (PL.mem up)).length:=by rw [hsp];exact Nat.le_of_lt (by rw [Ey (bs:=_::_)];exact Nat.lt_add_of_pos_right (Nat.succ_pos _))
    have l2:(prs (PL.mem up)).length<=81:=by rw [il];exact Nat.mul_le_mul U.u9 U.u9
    exact ED (EE l1 l2) (by decide)
   have g7:=aN h5;have e5:((done.flatMap fun a=>(PL.mem up).map fun b=>(a,b))++done2.map fun b=>(x,b))++[(x,y)]=(done.flatMap fun a=>(PL.mem up).map fun b=>(a,b))++(done2++[y]).map fun b=>(x,b):=by rw [List.map_append,EB];rfl
   rw [e5] at g9;have hE2:=hE'.snoc (p:=(x,y)) (v:=h5) (by rw [w5,qc];rfl);rw [e5] at hE2;refine ⟨[.val (tupI lo),.val (tupI up),.val (.lst [.int c0,.int c1]),.val (.lst ((PL.mem up).map tupI)),s4',.any,.val (tupI x),.owx (.d (ab t' ((done.flatMap fun a=>(PL.mem up).map fun b=>(a,b))++done2.map fun b=>(x,b)))),.val (tupI y),.any,.any],_,rfl,?_,eW t' (x,y) h5,s4',rfl,hE2,q4'⟩;refine st (ρ':=[.val (tupI lo),.val (tupI up),.val (.lst [.int c0,.int c1]),.val (.lst ((PL.mem up).map tupI)),s4',.any,.val (tupI x),.owx (.d (ab t' ((done.flatMap fun a=>(PL.mem up).map fun b=>(a,b))++done2.map fun b=>(x,b)))),.val (tupI y),.val (tupI h1'),.any]) (by
    simp only [aa.eq_1,evV,evA,ev.eq_1,ev.eq_16,ev.eq_20,q4',qx,qy,fnR,f2,w1,nl1,af,ow,List.modify_zero_cons,List.modify_succ_cons,aQ,List.getElem?_cons_zero,List.getElem?_cons_succ,List.length_cons,List.length_nil,Nat.reduceAdd,Nat.reduceLT,if_true,List.set_cons_succ,List.set_cons_zero,Rs.val,kp,ak]) ?_
   refine st (ρ':=[.val (tupI lo),.val (tupI up),.val (.lst [.int c0,.int c1]),.val (.lst ((PL.mem up).map tupI)),s4',.any,.val (tupI x),.owx (.d (ab t' ((done.flatMap fun a=>(PL.mem up).map fun b=>(a,b))++done2.map fun b=>(x,b)))),.val (tupI y),.val (tupI h4),.any]) (by
    simp only [aa.eq_1,evV,evA,ev.eq_1,ev.eq_2,ev.eq_5,ev.eq_16,ev.eq_20,q4',qz,fnR,f2,f3,w2,w3,w4,nl4,af,ow,List.modify_zero_cons,List.modify_succ_cons,aQ,List.getElem?_cons_zero,List.getElem?_cons_succ,List.length_cons,List.length_nil,Nat.reduceAdd,Nat.reduceLT,if_true,List.set_cons_succ,List.set_cons_zero,Rs.val,kp,ak]) ?_
   refine st (by rfl) (st k5 ?_);refine st (ρ':=[.val (tupI lo),.val (tupI up),.val (.lst [.int c0,.int c1]),.val (.lst ((PL.mem up).map tupI)),s4',.any,.val (tupI x),.owx (.d (ab (eW t' (x,y) h5) ((done.flatMap fun a=>(PL.mem up).map fun b=>(a,b))++(done2++[y]).map fun b=>(x,b)))),.val (tupI y),.val (tupI h5),.any]) (by
    simp? [aa.eq_5,evA,ev.eq_1,ev.eq_14,hz2,gb,g7,g4,g8,g6,and_self,g9]) (st (by rfl) aI)
  refine ⟨_,rfl,st (by rfl) (st k3 (st (by rfl) aI)),t',.val (tupI x),s4',?_,?_,q4'⟩
  ·rw [List.flatMap_append,List.flatMap_cons,List.flatMap_nil,List.append_nil];rfl
  ·rw [List.flatMap_append,List.flatMap_cons,List.flatMap_nil,List.append_nil];exact hE'
 refine ⟨h,t,hh2,?_,hEls⟩;refine ei hd ⟨rfl,rfl⟩ (ρ0:=[.val (tupI lo),.val (tupI up),.val (.lst [.int c0,.int c1]),.nil,.nil,.nil,.nil,.nil,.nil,.nil,.nil]) rfl ?_;refine st (ρ':=[.val (tupI lo),.val (tupI up),.val (.lst [.int c0,.int c1]),.owx (.l ((PL.mem up).map tupI)),.nil,.nil,.nil,.nil,.nil,.nil,.nil]) (by
  simp? [aa.eq_1,evV,evA,ev.eq_1,fnR,h1,h2,hfree]) ?_
 refine st (ρ':=[.val (tupI lo),.val (tupI up),.val (.lst [.int c0,.int c1]),.owx (.l ((PL.mem up).map tupI)),.owx (.d []),.nil,.nil,.nil,.nil,.nil,.nil]) rfl (st (by rfl) (st k1 ?_));refine st (ρ':=[.val (tupI lo),.val (tupI up),.val (.lst [.int c0,.int c1]),.val (.lst ((PL.mem up).map tupI)),.owx (.d es),.any,s6,.owx (.d []),.nil,.nil,.nil]) rfl (st (by rfl) (st k2 (f6 (by rfl))))
end
local macro_rules|`(tactic|dsimp? [$ls,*])=>do
 let m<-("wj aI sv sy su sA aa.eq_1 aa.eq_2 aa.eq_3 aa.eq_4 aa.eq_5 aa.eq_6 aa.eq_7 aa.eq_8 aa.eq_9 aa.eq_10 aa.eq_11 aa.eq_12 aa.eq_13 aa.eq_16 aa.eq_18 aa.eq_19 evV ev.eq_1 ev.eq_2 ev.eq_3 ev.eq_4 ev.eq_5 ev.eq_6 ev.eq_7 ev.eq_8 ev.eq_9 ev.eq_10 ev.eq_11 ev.eq_12 ev.eq_13 ev.eq_14 ev.eq_15 ev.eq_16 ev.eq_17 ev.eq_18 ev.eq_19 ev.eq_20 ev.eq_21 ev.eq_23 evA evT evI evB aQ af aC List.modify_zero_cons List.modify_succ_cons List.modify_nil kp oM oK oN oO aN dD ak aP gM List.set_cons_zero List.set_cons_succ List.set_nil List.getElem?_cons_zero List.getElem?_cons_succ List.length_cons List.length_nil Nat.reduceAdd Nat.reduceLT Nat.reduceSub Nat.reduceLeDiff Nat.zero_add Nat.zero_lt_succ if_true if_false Bool.not_true Bool.not_false Bool.true_and Bool.false_and Bool.and_true Bool.and_false Bool.true_or Bool.false_or Bool.or_true Bool.or_false and_self true_and and_true Bool.false_eq_true fz vG vF vE vD vC vH eL eM gO pW uB ic ju bA fnR Rs.val Ow.D cz bZ List.replicate List.cons_append List.nil_append List.map_cons List.map_nil slD asI pQ pO pS pU lN pR pT pP pV mI mH Option.map_some decide_true decide_false List.all_cons List.all_nil tks dO vd List.append_nil reduceCtorEq ite_self".splitOn " ").toArray.mapM fun s=>`(Lean.Parser.Tactic.simpLemma|$(Lean.mkIdent s.toName):ident)
 let a:=(ls.getElems.map fun x=>(.mk x.raw:Lean.TSyntax `Lean.Parser.Tactic.simpLemma))++m
 `(tactic|simp only [$a,*])
noncomputable def dv (u:List Int->D) (l:List (List Int)):List (_root_.CT.PK×D):=l.map fun x=>(pkT x,u x)
theorem jx:∀{l:List (List Int)},x∉l->look (dv u l) (pkT x)=none
 |[],_=>rfl
 |y::l,h=>by
  show (if PK.beq (pkT y) (pkT x) then some (u y) else look (dv u l) (pkT x))=none;rw [if_neg (fun z=>h (by rw [kg (beq_iff.mp z)];exact Eo))];exact jx fun z=>h (En _ z)
theorem CM (h:x∉l):bS (dv u l) (pkT x) (u x)=dv u (l++[x]):=by
 unfold bS;rw [jx h];unfold dv;rw [List.map_append];rfl
theorem kK:∀(l done:List (List Int)),(done++l).Nodup->(done++l).length<=1000->(∀x∈l,f (tupI x)=some (pkT x,u x))->gH f (l.map tupI) (dv u done)=some (dv u (done++l))
 |[],done,_,_,_=>by rw [List.append_nil];rfl
 |p::l,done,hn,hl,h=>by
  have hp:p∉done:=fun z=>(List.nodup_append.mp hn).2.2 _ z _ Eo rfl;rw [List.map_cons,gH,h p Eo];dsimp only;have hz:(dv u done).length<sizeLine:=by
   unfold dv;rw [Ez];rw [Ey] at hl;exact ED (show done.length<=1000 by omega) (by decide)
  rw [if_pos hz,CM hp,kK l (done++[p]) (by rw [EB];exact hn) (by rw [EB];exact hl) fun q hq=>h q (En _ hq),EB];rfl
theorem ot (hi:evI G cl it ρ=some (l.map tupI)) (hw:((tks t).all fun k=>k<w)=true) (hnd:l.Nodup) (hz:l.length<=1000)
  (hb:∀x∈l,∃ρ1,ak t (tupI x) (cz w cap ρ)=some ρ1∧ev G cl kx ρ1=some (tupI x)∧ev G cl vx ρ1=some (u x)):ev G cl (.bN w cap t it kx vx) ρ=some (.pdc (dv u l)):=by
 rw [ev,hi];dsimp only;rw [if_pos hw];have e0:dv u []=[]:=rfl;rw [←e0,kK (u:=u) l [] hnd hz fun x hx=>?_]
 ·rfl
 ·obtain ⟨ρ1,h1,h2,h3⟩:=hb x hx;have e5:=u0 x;have e6:=m7 x;rw [h1];dsimp only;rw [h2,h3];unfold pK;simp only [e5,e6,if_true];rfl
theorem yN (h:acc.Nodup):(PL.step acc n).Nodup:=by
 unfold PL.step;have kn:(aq n).Nodup:=by
  unfold aq;exact List.Pairwise.map _ (fun a b hab z=>hab (by omega)) List.nodup_range
 induction acc with
 |nil=>exact List.nodup_nil
 |cons b acc ih=>
  obtain ⟨h1,h2⟩:=List.nodup_cons.mp h;rw [List.flatMap_cons];refine List.nodup_append.mpr ⟨List.Pairwise.map _ (fun a c hac z=>hac (by have:=List.append_cancel_left z;simpa using this)) kn,ih h2,fun x hx y hy z=>?_⟩;subst z;obtain ⟨k,_,rfl⟩:=Es.mp hx;obtain ⟨c,hc,hy⟩:=List.mem_flatMap.mp hy;obtain ⟨j,_,e⟩:=Es.mp hy;obtain ⟨e1,_⟩:=List.append_inj' e rfl;exact h1 (e1▸hc)
theorem ou:∀(ns:List Int) (acc:List (List Int)),acc.Nodup->(ns.foldl PL.step acc).Nodup
 |[],_,h=>h
 |n::ns,acc,h=>ou ns _ (yN h)
theorem sh (ns:List Int):(PL.mem ns).Nodup:=ou ns _ (by simp)
noncomputable def tM (lo:List Int):List (_root_.CT.PK×D):=dv (fun a=>.pdc (dv (fun b=>tupI (ag lo a b)) (PL.mem lo))) (PL.mem lo)
noncomputable abbrev wf (CTb C:Addr) (lo up:List Int) (t:Pr->List Int):List (Str×D):=[(("table":Str),tabI CTb C lo up t),(("below":Str),.pdc (tM lo))]
noncomputable def aB (CW CTb C:Addr) (lo up:List Int) (t:Pr->List Int):D:=.ins CW (wf CTb C lo up t)
section
variable {G:Prg} {C CG CTb CW:Addr} {n:Nat}
structure TW (G:Prg) (C CG CTb CW:Addr):Prop where
 K:TD G C CG CTb
 nt:G.defs "need_three"=some (none,P.fU)
 fnt:G.fn "need_three"=some ("need_three":Str)
 fb3:G.fn "break_of_three"=some ("break_of_three":Str)
 sw:G.defs "sums_within"=some (none,P.eV)
 fsw:G.fn "sums_within"=some ("sums_within":Str)
 ini:G.defs "Tower.__init__"=some (some CW,P.c7)
 eQ:G.fn "Tower"=none∧G.ini "Tower"=some (CW,("Tower.__init__":Str))
 fta:G.fok CW "table"=true
 fbe:G.fok CW "below"=true
 lik:G.defs "Tower.like"=some (none,P.fx)
 AF:G.mth CW "like"=some ("Tower.like":Str)
 Br:G.defs "Rounds.like"=some (none,P.cH)
 vY:G.mth C "like"=some ("Rounds.like":Str)
 gT:G.glob "Tower"=some (.cl CW)
 kT:G.kit (.cl CW) (.cl CW)=some true
 kR:G.kit (.cl C) (.cl CW)=some false
 kW:G.kit (.cl CW) (.cl C)=some false
 ovl:G.defs "over_like"=some (none,P.g0)
 Dt:G.fn "over_like"=some ("over_like":Str)
 ali:G.defs "alike"=some (none,P.alike)
 Dl:G.fn "alike"=some ("alike":Str)
theorem wD (T:TW G C CG CTb CW) (g:Good ns) (ft:Fit ns) (h16:(PL.mem ns).length<=16):kal G (n+2) "sums_within" [grp C ns]=some (.fr (.d (tM ns))):=by
 refine ei T.sw ⟨rfl,rfl⟩ (ρ0:=[.val (grp C ns),.nil]) rfl ?_;have h1:=ig (n:=n) T.K.T.B g ft;have fr:=fJ (PL.mem ns);refine st (ρ':=[.val (grp C ns),.owx (.l ((PL.mem ns).map tupI))]) (by dsimp? [h1,fr]) (f6 ?_);have k2:ev G (kal G (n+1)) (.bN 1 [0,1] (.nm 0) (.var 1) (.var 0) (.bN 1 [0,1] (.nm 0) (.var 2) (.var 0) (.mth (.var 2) "sum_of" [(.var 1),(.var 0)]))) [.val (grp C ns),.val (.lst ((PL.mem ns).map tupI))]=some (.pdc (tM ns)):=by
  refine ot (by dsimp? [if_true]) rfl (sh ns) (by omega) fun a ha=>⟨[.val (tupI a),.val (grp C ns),.val (.lst ((PL.mem ns).map tupI))],rfl,by dsimp? [if_true],?_⟩
  refine ot (u:=fun b=>tupI (ag ns a b)) (by dsimp? [if_true]) rfl (sh ns) (by omega) fun b hb=>⟨[.val (tupI b),.val (tupI a),.val (grp C ns)],rfl,by dsimp? [if_true],?_⟩
  have s1:=j8 (n:=n) (x:=a) (y:=b) T.K.sm T.K.msm T.K.T.B.A.fok g;dsimp? [s1]
 simp only [aa.eq_11,evV,af,aC,Ow.D,List.modify_zero_cons,List.modify_succ_cons,k2]
theorem o7 {lo up:List Int} {t:Pr->List Int} (T:TB G C CG CTb):bo G (tabI CTb C lo up t) "lower"=some (grp C lo):=by
 have h:=T.flo;unfold tabI;simp only [bo,h,if_true,sd]
theorem BD {lo up:List Int} {t:Pr->List Int} (T:TB G C CG CTb):bo G (tabI CTb C lo up t) "upper"=some (grp C up):=by
 have h:=T.fup;unfold tabI;simp only [bo,h,if_true,vV]
theorem tx {lo up:List Int} {t:Pr->List Int} (T:TW G C CG CTb CW):bo G (aB CW CTb C lo up t) "table"=some (tabI CTb C lo up t):=by
 have h:=T.fta;unfold aB;simp only [bo,h,if_true];rfl
theorem vB {lo up:List Int} {t:Pr->List Int} (T:TW G C CG CTb CW) (U:LU lo up) (h3:br3 lo up t=none):kal G (n+5) "Tower.__init__" [tabI CTb C lo up t]=some (.ok (aB CW CTb C lo up t)):=by
 have nt:kal G (n+4) "need_three" [tabI CTb C lo up t]=some (.ok .non):=by
  refine mK T.nt ⟨rfl,rfl⟩ (ρ0:=[.val (tabI CTb C lo up t),.nil]) rfl (ρ:=[.val (tabI CTb C lo up t),.val .non]) ?_;have f1:=T.fb3;have e1:=tQ (n:=n) (t:=t) T.K U;rw [h3] at e1;have e2:d3 none=.non:=rfl;refine st (ρ':=[.val (tabI CTb C lo up t),.val .non]) (by dsimp? [f1,e1,e2]) (st (by rfl) aI)
 refine jY T.ini ⟨rfl,rfl⟩ (ρ0:=[.val (tabI CTb C lo up t)]) rfl (fs:=wf CTb C lo up t) (a:=0) (b:=0) (ρ:=[.val (tabI CTb C lo up t)]) ?_;have f1:=T.fnt;have f2:=T.fsw;have f3:=T.fta;have f4:=T.fbe;have e1:=o7 (lo:=lo) (up:=up) (t:=t) T.K.T;have e2:=wD (n:=n+2) T U.gl U.fl U.l16;have k0:(0:Nat)<1000:=by decide
 have k1:(1:Nat)<1000:=by decide
 refine st (ρ':=[.new CW 0 0 [],.val (tabI CTb C lo up t)]) (by dsimp? [f1,nt]) ?_;refine st (ρ':=[.new CW 0 0 [(("table":Str),tabI CTb C lo up t)],.val (tabI CTb C lo up t)]) (by dsimp? [f3,k0,putD];try rfl) ?_;exact st (by dsimp? [f2,f4,k1,e1,e2];rfl) aI
end
section
variable {G:Prg} {C CG CTb CW:Addr} {n:Nat}
theorem uv (x:List Int):eqV (tupI x)=true:=by
 show (bc (tupI _)&&decide ((toPy (tupI _)).depth<=32))=true;rw [fO,fE];rfl
theorem o6:bg .eq (.pdc (ab t l)) (.pdc (ab t2 l))=some (l.all fun p=>decide (t p=t2 p)):=by
 have e1:∀u:Pr->List Int,((ab u l).all fun p=>eqV p.2)=true:=fun u=>by
  unfold ab;rw [List.all_map];exact EA.mpr fun p _=>uv _
 have e2:mz (ab t l) (ab t2 l)=l.all fun p=>decide (t p=t2 p):=by
  have q:∀p∈l,(match look (ab t2 l) (pkP p) with|some w=>eqD (tupI (t p)) w|none=>false)=decide (t p=t2 p):=fun p hp=>by
   rw [ie hp];exact fH _ _
  rw [Bool.eq_iff_iff];unfold mz;rw [EA,EA];refine ⟨fun h p hp=>?_,fun h w hw=>?_⟩
  ·rw [←q p hp];exact h (pkP p,tupI (t p)) (Es.mpr ⟨p,hp,rfl⟩)
  ·obtain ⟨p,hp,rfl⟩:=Es.mp hw;exact (q p hp).trans (h p hp)
 have e3:(ab t l).length=(ab t2 l).length:=by unfold ab;rw [Ez,Ez]
 show (if ((ab t l).all fun p=>eqV p.2)&&((ab t2 l).all fun p=>eqV p.2) then some ((ab t l).length==(ab t2 l).length&&mz (ab t l) (ab t2 l)) else none)=_;rw [e1,e1,e2,e3,beq_self_eq_true];rfl
theorem so (hl:(rf ns).lookup m=none) (hm:G.mth C m=some k) (h:cl k (grp C ns::ds)=r):aF G cl (grp C ns) m ds=r:=by
 unfold grp at h ⊢;simp only [aF,hl,hm,h]
theorem sr {cl:Str->List D->Option Rs} {lo up:List Int} {t:Pr->List Int} {m k:Str} {ds:List D} {r:Option Rs} (hl:(tf C lo up t).lookup m=none) (hm:G.mth CTb m=some k) (h:cl k (tabI CTb C lo up t::ds)=r):aF G cl (tabI CTb C lo up t) m ds=r:=by
 unfold tabI at h ⊢;simp only [aF,hl,hm,h]
theorem vZ {cl:Str->List D->Option Rs} {lo up:List Int} {t:Pr->List Int} {m k:Str} {ds:List D} {r:Option Rs} (hl:(wf CTb C lo up t).lookup m=none) (hm:G.mth CW m=some k) (h:cl k (aB CW CTb C lo up t::ds)=r):aF G cl (aB CW CTb C lo up t) m ds=r:=by
 unfold aB at h ⊢;simp only [aF,hl,hm,h]
theorem rS (A:GA G C):bo G (grp C ns) "rounds"=some (tupI ns):=by
 have h:=A.fok;unfold grp;simp only [bo,h,if_true,p0]
theorem j0 (T:TW G C CG CTb CW):aF G (kal G (n+1)) (grp C a) "like" [grp C b]=some (.ok (.bl (decide (a=b)))):=by
 refine so rfl T.vY (aV T.Br ⟨rfl,rfl⟩ (ρ0:=[.val (grp C a),.val (grp C b)]) rfl ?_);have h1:=T.K.T.cR;have h2:bM G (grp C b) (.cl C)=some true:=T.K.T.kR;have h3:=rS (ns:=a) T.K.T.B.A;have h4:=rS (ns:=b) T.K.T.B.A;have h5:=hX a b;dsimp? [P.cH,h1,h2,h3,h4,h5]
theorem uI {a lo up:List Int} {t:Pr->List Int} (T:TW G C CG CTb CW):aF G (kal G (n+1)) (grp C a) "like" [aB CW CTb C lo up t]=some (.ok (.bl false)):=by
 refine so rfl T.vY (aV T.Br ⟨rfl,rfl⟩ (ρ0:=[.val (grp C a),.val (aB CW CTb C lo up t)]) rfl ?_);have h1:=T.K.T.cR;have h2:bM G (aB CW CTb C lo up t) (.cl C)=some false:=T.kW;dsimp? [P.cH,h1,h2]
noncomputable def akB (lo up:List Int) (t:Pr->List Int) (lo' up':List Int) (t':Pr->List Int):Bool:=decide (lo=lo')&&(decide (up=up')&&(prs (PL.mem up)).all fun p=>decide (t p=t' p))
theorem tP {lo up lo' up':List Int} {t t':Pr->List Int} (T:TW G C CG CTb CW) (U:LU lo up) (U':LU lo' up'):kal G (n+3) "alike" [tabI CTb C lo up t,tabI CTb C lo' up' t']=some (.ok (.bl (akB lo up t lo' up' t'))):=by
 have o:kal G (n+2) "over_like" [tabI CTb C lo up t,tabI CTb C lo' up' t']=some (.ok (.bl (decide (lo=lo')&&decide (up=up')))):=by
  refine aV T.ovl ⟨rfl,rfl⟩ (ρ0:=[.val (tabI CTb C lo up t),.val (tabI CTb C lo' up' t')]) rfl (bf ?_);have h3:=fun (lo up:List Int) t=>BD (lo:=lo) (up:=up) (t:=t) T.K.T;have h4:=fun (lo up:List Int) t=>o7 (lo:=lo) (up:=up) (t:=t) T.K.T;have m1:=j0 (n:=n) (a:=lo) (b:=lo') T;have m2:=j0 (n:=n) (a:=up) (b:=up') T
  by_cases e:lo=lo'
  ·rw [EH e] at m1 ⊢;dsimp? [h3,h4,m1,m2]
  ·rw [EI e] at m1 ⊢;dsimp? [h3,h4,m1]
 refine aV T.ali ⟨rfl,rfl⟩ (ρ0:=[.val (tabI CTb C lo up t),.val (tabI CTb C lo' up' t')]) rfl (bf ?_);have f1:=T.Dt;unfold akB
 by_cases e:lo=lo'∧up=up'
 ·obtain ⟨e1,e2⟩:=e;subst e1 e2;rw [EH rfl,EH rfl] at o ⊢;have c1:=sr (lo:=lo) (up:=up) (t:=t) (ds:=[]) rfl T.K.uM (gy (n:=n+1) T.K.toTC0 U);have c2:=sr (lo:=lo) (up:=up) (t:=t') (ds:=[]) rfl T.K.uM (gy (n:=n+1) T.K.toTC0 U);have q:=o6 (t:=t) (t2:=t') (l:=prs (PL.mem up));dsimp? [f1,o,c1,c2,q]
 ·have z:(decide (lo=lo')&&decide (up=up'))=false:=by
   rw [Bool.and_eq_false_iff]
   by_cases e1:lo=lo'
   ·exact .inr (EI fun e2=>e ⟨e1,e2⟩)
   ·exact .inl (EI e1)
  rw [z] at o;have z2:(decide (lo=lo')&&(decide (up=up')&&(prs (PL.mem up)).all fun p=>decide (t p=t' p)))=false:=by rw [←Bool.and_assoc,z];rfl
  rw [z2];dsimp? [f1,o]
theorem j6 {lo up lo' up':List Int} {t t':Pr->List Int} (T:TW G C CG CTb CW) (U:LU lo up) (U':LU lo' up'):aF G (kal G (n+4)) (aB CW CTb C lo up t) "like" [aB CW CTb C lo' up' t']=some (.ok (.bl (akB lo up t lo' up' t'))):=by
 refine vZ rfl T.AF (aV T.lik ⟨rfl,rfl⟩ (ρ0:=[.val (aB CW CTb C lo up t),.val (aB CW CTb C lo' up' t')]) rfl (bf ?_));have h1:=T.gT;have h2:bM G (aB CW CTb C lo' up' t') (.cl CW)=some true:=T.kT;have h3:=tx (lo:=lo) (up:=up) (t:=t) T;have h4:=tx (lo:=lo') (up:=up') (t:=t') T;have f1:=T.Dl;have c1:=tP (n:=n) (t:=t) (t':=t') T U U';dsimp? [h1,h2,h3,h4,f1,c1]
theorem uJ {lo up a:List Int} {t:Pr->List Int} (T:TW G C CG CTb CW):aF G (kal G (n+1)) (aB CW CTb C lo up t) "like" [grp C a]=some (.ok (.bl false)):=by
 refine vZ rfl T.AF (aV T.lik ⟨rfl,rfl⟩ (ρ0:=[.val (aB CW CTb C lo up t),.val (grp C a)]) rfl (bf ?_));have h1:=T.gT;have h2:bM G (grp C a) (.cl CW)=some false:=T.kR;dsimp? [h1,h2]
theorem zk (a b:Bool):bg .eq (.bl a) (.bl b)=some (decide (a=b)):=by cases a<;>cases b<;>rfl
theorem nY (hd:G.defs key=some (none,L.truth)) (A:GA G C):kal G (n+1) key [.bl a,.bl b]=some (.ok (.bl (decide (a=b)))):=by
 refine aV hd ⟨rfl,rfl⟩ (ρ0:=[.val (.bl a),.val (.bl b)]) rfl (bf ?_);have h1:=A.wo;have h2:bM G (.bl a) (.ty "bool")=some true:=by
  show G.kit (.ty "bool") (.ty "bool")=some true;rw [A.kit "bool" (by decide) "bool" (by decide)];rfl
 have h3:=zk a b;dsimp? [h1,h2,h3]
theorem lY {lo up:List Int} {t:Pr->List Int} {v:Int->List Int} {h:List Int->List Int} (g:Ge2 lo) (gu:Ge2 up) (hv:∀k,El lo (v k)) (hh:∀x,El up x->El lo (h x)) (q:Vas (cU lo up v h) t (prs (PL.mem up))):br3 lo up t=none:=by
 unfold br3;rw [List.findSome?_eq_none_iff];intro p hp;rw [List.findSome?_eq_none_iff];intro z hz;obtain ⟨x,y⟩:=p;obtain ⟨mx,my⟩:=kh hp;have hx:=mem_iff.mp mx;have hy:=mem_iff.mp my;have hz':=mem_iff.mp hz;have e:=zg g gu hv hh hx hy hz';rw [←q _ (bW mx my),←q _ (bW (mem_iff.mpr (hx.add gu hy)) hz),←q _ (bW my hz),←q _ (bW mx (mem_iff.mpr (hy.add gu hz')))] at e;unfold f3 bk3;rw [if_neg];intro w;rw [EH e] at w;cases w
theorem tw {lo up:List Int} {t:Pr->List Int} {v:Int->List Int} {h:List Int->List Int} (g:Ge2 lo) (gu:Ge2 up) (hv:∀k,El lo (v k)) (hh:∀x,El up x->El lo (h x)) (q:Vas (cU lo up v h) t (prs (PL.mem up))):∀p∈prs (PL.mem up),El lo (t p):=fun p hp=>by
 obtain ⟨mx,my⟩:=kh hp;rw [q p hp];exact wG g gu hv hh (mem_iff.mp mx) (mem_iff.mp my)
end
section
variable {G:Prg} {C CG CTb CW:Addr} {n:Nat}
theorem B4 (ns:List Int):dM (ns.map D.int) (some 1) none=(ns.drop 1).map .int:=by
 unfold dM;have e:HT.sIx (ns.map D.int).length 0 (some 1)=min 1 ns.length:=by rw [Ez];exact HT.oY _ _ 1
 rw [e,HT.nr,Ez];cases ns with
 |nil=>rfl
 |cons a r=>simp;exact List.take_of_length_le (by simp)
theorem B5 (ns:List Int):dM (ns.map D.int) none (some 1)=(ns.take 1).map .int:=by
 unfold dM;have e:HT.sIx (ns.map D.int).length (ns.map D.int).length (some 1)=min 1 ns.length:=by rw [Ez];exact HT.oY _ _ 1
 rw [e,HT.nr];cases ns with
 |nil=>rfl
 |cons a r=>simp
theorem nj (ns:List Int):prod (ns.drop 1++ns.take 1)=prod ns:=by
 cases ns with
 |nil=>rfl
 |cons a r=>show prod (r++[a])=prod (a::r);rw [eJ,prod_cons,Int.mul_comm]
theorem vc (g:Good ns):Good (ns.drop 1++ns.take 1):=by
 have hm:∀x∈ns.drop 1++ns.take 1,x∈ns:=fun x hx=>by
  rcases Ep.mp hx with h|h
  ·exact List.mem_of_mem_drop h
  ·exact List.mem_of_mem_take h
 refine ⟨fun x hx=>g.ge x (hm x hx),by rw [nj];exact g.le,fun x hx=>g.lt x (hm x hx),?_⟩;have:=g.len;cases ns with
 |nil=>exact this
 |cons a r=>simpa using this
structure LF (G:Prg):Prop extends LW G where
 tab:G.defs "_law_table"=some (none,L.table)
 Dv:G.fn "_law_table"=some ("_law_table":Str)
 tru:G.defs "_law_truth"=some (none,L.truth)
 Af:G.fn "_law_truth"=some ("_law_truth":Str)
 fhi:G.fn "_law_high"=some ("_law_high":Str)
theorem xR {sc:List Int} (X:LF G) (T:TW G C CG CTb CW):∃(lo lo' up up':List Int) (w c5 c6 m5 m6:Int),(Good lo∧prod lo<=16)∧(Good lo'∧prod lo'<=16)∧(Good up∧prod up<=4)∧(Good up'∧prod up'<=4)∧∀tl o,IN.run G (kal G (n+10)) tl [.val (.lst (sc.map .int)),.val (tupI lo),.val (tupI lo'),.val (.int w),.val (tupI up),.val (tupI up'),.owx (.l [.int c5,.int c6]),.owx (.l [.int m5,.int m6]),.nil,.nil,.nil,.nil,.nil,.nil]=some o->IN.run G (kal G (n+10)) (L.cN.body.take 12++tl) [.val (.lst (sc.map .int)),.nil,.nil,.nil,.nil,.nil,.nil,.nil,.nil,.nil,.nil,.nil,.nil,.nil]=some o:=by
 have f1:=X.vP;have f2:=X.xI;have f3:=X.Af;have hc:=fun k:Int=>qN (n:=n+9) (ns:=sc) (k:=k) X.cell;have hr:∀c:Int,kal G (n+10) "_law_rounds" [.int c,.int 16,.int 16]=some (.ok (tupI (many 16 c 16))):=fun c=>l6 (n:=n+9) X.rounds (by decide) (by decide) (by decide);have hq:∀c:Int,kal G (n+10) "_law_rounds" [.int c,.int 4,.int 4]=some (.ok (tupI (many 4 c 4))):=fun c=>l6 (n:=n+9) X.rounds (by decide) (by decide) (by decide);have g16:∀c,Good (many 16 c 16)∧prod (many 16 c 16)<=16:=fun c=>⟨k6 (by decide) (by decide) (by decide),k7 (by decide) (by decide) (by decide)⟩
 have g4:∀c,Good (many 4 c 4)∧prod (many 4 c 4)<=4:=fun c=>⟨k6 (by decide) (by decide) (by decide),k7 (by decide) (by decide) (by decide)⟩
 have t3:(0:Int)<3:=by decide
 have t2:(0:Int)<2:=by decide
 have u3:(0:Int)<3∧(3:Int).toNat<1073741824:=by decide
 have u9:(0:Int)<9∧(9:Int).toNat<1073741824:=by decide
 have u27:(0:Int)<27∧(27:Int).toNat<1073741824:=by decide
 generalize hw:cell sc 1=w;have hc1:=hc 1;rw [hw] at hc1;obtain ⟨lo',hlo',k4⟩:∃lo',(Good lo'∧prod lo'<=16)∧∀tl o,IN.run G (kal G (n+10)) tl [.val (.lst (sc.map .int)),.val (tupI (many 16 (cell sc 0) 16)),.val (tupI lo'),.val (.int w),.nil,.nil,.nil,.nil,.nil,.nil,.nil,.nil,.nil,.nil]=some o->
   IN.run G (kal G (n+10)) ((L.cN.body.drop 3).take 2++tl) [.val (.lst (sc.map .int)),.val (tupI (many 16 (cell sc 0) 16)),.val (tupI (many 16 (cell sc 0) 16)),.val (.int w),.nil,.nil,.nil,.nil,.nil,.nil,.nil,.nil,.nil,.nil]=some o:=by
  have gl:=g16 (cell sc 0);have hc2:=hc 2;generalize many 16 (cell sc 0) 16=lo at gl
  by_cases h1:w%3=1
  ·have d1:decide (w%3=1)=true:=EH h1;have d2:decide (w%3=2)=false:=EI (by omega);have z:(lo.drop 1).length+(lo.take 1).length<=sizeLine:=EE (show _<=1000 by have:=gl.1.fR;rw [List.length_drop,List.length_take];omega) (by decide);have ca:=B4 lo;have cb:=B5 lo;refine ⟨lo.drop 1++lo.take 1,⟨vc gl.1,by rw [nj];exact gl.2⟩,fun tl o h=>?_⟩;refine st (ρ':=[.val (.lst (sc.map .int)),.val (tupI lo),.val (tupI (lo.drop 1++lo.take 1)),.val (.int w),.nil,.nil,.nil,.nil,.nil,.nil,.nil,.nil,.nil,.nil]) ?_ (st (ρ':=[.val (.lst (sc.map .int)),.val (tupI lo),.val (tupI (lo.drop 1++lo.take 1)),.val (.int w),.nil,.nil,.nil,.nil,.nil,.nil,.nil,.nil,.nil,.nil]) (by dsimp? [t3,d2]) h);have z':((lo.drop 1).map D.int).length+((lo.take 1).map D.int).length<=sizeLine:=by rw [Ez,Ez];exact z
   have er:(lo.drop 1).map D.int++(lo.take 1).map D.int=(lo.drop 1++lo.take 1).map D.int:=List.map_append.symm;dsimp? [t3,d1,ca,cb,z',er]
  ·have d1:decide (w%3=1)=false:=EI h1
   by_cases h2:w%3=2
   ·have d2:decide (w%3=2)=true:=EH h2;refine ⟨many 16 (cell sc 2) 16,g16 _,fun tl o h=>?_⟩;have hr2:=hr (cell sc 2);refine st (ρ':=[.val (.lst (sc.map .int)),.val (tupI lo),.val (tupI lo),.val (.int w),.nil,.nil,.nil,.nil,.nil,.nil,.nil,.nil,.nil,.nil]) (by dsimp? [t3,d1]) (st (ρ':=[.val (.lst (sc.map .int)),.val (tupI lo),.val (tupI (many 16 (cell sc 2) 16)),.val (.int w),.nil,.nil,.nil,.nil,.nil,.nil,.nil,.nil,.nil,.nil]) (by dsimp? [t3,d2,f1,f2,hc2,hr2]) h)
   ·have d2:decide (w%3=2)=false:=EI h2;exact ⟨lo,gl,fun tl o h=>st (ρ':=[.val (.lst (sc.map .int)),.val (tupI lo),.val (tupI lo),.val (.int w),.nil,.nil,.nil,.nil,.nil,.nil,.nil,.nil,.nil,.nil]) (by dsimp? [t3,d1]) (st (ρ':=[.val (.lst (sc.map .int)),.val (tupI lo),.val (tupI lo),.val (.int w),.nil,.nil,.nil,.nil,.nil,.nil,.nil,.nil,.nil,.nil]) (by dsimp? [t3,d2]) h)⟩
 obtain ⟨up',hup',k9⟩:∃up',(Good up'∧prod up'<=4)∧IN.aa G (kal G (n+10)) (L.cN.body.getD 8 .pass) [.val (.lst (sc.map .int)),.val (tupI (many 16 (cell sc 0) 16)),.val (tupI lo'),.val (.int w),.val (tupI (many 4 (cell sc 3) 4)),.val (tupI (many 4 (cell sc 3) 4)),.nil,.nil,.nil,.nil,.nil,.nil,.nil,.nil]=
   some (.nx [.val (.lst (sc.map .int)),.val (tupI (many 16 (cell sc 0) 16)),.val (tupI lo'),.val (.int w),.val (tupI (many 4 (cell sc 3) 4)),.val (tupI up'),.nil,.nil,.nil,.nil,.nil,.nil,.nil,.nil]):=by
  by_cases h1:w / 3%3=1
  ·have d1:decide (w / 3%3=1)=true:=EH h1;have hc4:=hc 4;have hq4:=hq (cell sc 4);exact ⟨many 4 (cell sc 4) 4,g4 _,by show IN.aa G _ (.ife _ _ _ _) _=_;dsimp? [t3,u3,d1,f1,f2,hc4,hq4]⟩
  ·have d1:decide (w / 3%3=1)=false:=EI h1;exact ⟨many 4 (cell sc 3) 4,g4 _,by show IN.aa G _ (.ife _ _ _ _) _=_;dsimp? [t3,u3,d1]⟩
 obtain ⟨m5,m6,k12⟩:∃m5 m6,IN.aa G (kal G (n+10)) (L.cN.body.getD 11 .pass) [.val (.lst (sc.map .int)),.val (tupI (many 16 (cell sc 0) 16)),.val (tupI lo'),.val (.int w),.val (tupI (many 4 (cell sc 3) 4)),.val (tupI up'),.owx (.l [.int (cell sc 5),.int (cell sc 6)]),.owx (.l [.int (cell sc 5),.int (cell sc 6)]),.nil,.nil,.nil,.nil,.nil,.nil]=
   some (.nx [.val (.lst (sc.map .int)),.val (tupI (many 16 (cell sc 0) 16)),.val (tupI lo'),.val (.int w),.val (tupI (many 4 (cell sc 3) 4)),.val (tupI up'),.owx (.l [.int (cell sc 5),.int (cell sc 6)]),.owx (.l [.int m5,.int m6]),.nil,.nil,.nil,.nil,.nil,.nil]):=by
  by_cases h1:w / 9%3=1
  ·have d1:decide (w / 9%3=1)=true:=EH h1;have hc7:=hc 7
   by_cases h2:w / 27%2=0
   ·have z:(0:Int)<=0∧(0:Int).toNat<2:=by decide
    exact ⟨cell sc 7,cell sc 6,by show IN.aa G _ (.ife _ _ _ _) _=_;dsimp? [t3,t2,u9,u27,d1,f1,hc7,h2,z];rfl⟩
   ·have h3:w / 27%2=1:=by omega
    have z:(0:Int)<=1∧(1:Int).toNat<2:=by decide
    exact ⟨cell sc 5,cell sc 7,by show IN.aa G _ (.ife _ _ _ _) _=_;dsimp? [t3,t2,u9,u27,d1,f1,hc7,h3,z];rfl⟩
  ·have d1:decide (w / 9%3=1)=false:=EI h1;exact ⟨cell sc 5,cell sc 6,by show IN.aa G _ (.ife _ _ _ _) _=_;dsimp? [t3,u9,d1]⟩
 refine ⟨many 16 (cell sc 0) 16,lo',many 4 (cell sc 3) 4,up',w,cell sc 5,cell sc 6,m5,m6,g16 _,hlo',g4 _,hup',fun tl o h=>?_⟩;have hc0:=hc 0;have hc3:=hc 3;have hc5:=hc 5;have hc6:=hc 6;have hr0:=hr (cell sc 0);have hq3:=hq (cell sc 3);have fi1:=T.K.T.B.A.eQ.1;have fi2:=T.K.T.B.A.eQ.2;have z2:(2:Nat)<=sizeLine:=by decide
 refine st (ρ':=[.val (.lst (sc.map .int)),.val (tupI (many 16 (cell sc 0) 16)),.nil,.nil,.nil,.nil,.nil,.nil,.nil,.nil,.nil,.nil,.nil,.nil]) (by dsimp? [f1,f2,hc0,hr0]) ?_;refine st (ρ':=[.val (.lst (sc.map .int)),.val (tupI (many 16 (cell sc 0) 16)),.val (tupI (many 16 (cell sc 0) 16)),.nil,.nil,.nil,.nil,.nil,.nil,.nil,.nil,.nil,.nil,.nil]) (by dsimp? [if_true]) ?_;refine st (ρ':=[.val (.lst (sc.map .int)),.val (tupI (many 16 (cell sc 0) 16)),.val (tupI (many 16 (cell sc 0) 16)),.val (.int w),.nil,.nil,.nil,.nil,.nil,.nil,.nil,.nil,.nil,.nil]) (by dsimp? [f1,hc1]) ?_;refine k4 _ _ ?_;have o1:=fb (n:=n+7) (t:=tupI (many 16 (cell sc 0) 16)) T.K.T.B.A rfl (g16 (cell sc 0)).1;have o2:=fb (n:=n+7) (t:=.lst (lo'.map .int)) T.K.T.B.A rfl hlo'.1;have m1:=j0 (n:=n+9) (a:=many 16 (cell sc 0) 16) (b:=lo') T;have e1:=hX (many 16 (cell sc 0) 16) lo';have r1:=nY (n:=n+9) (a:=decide (many 16 (cell sc 0) 16=lo')) (b:=decide (many 16 (cell sc 0) 16=lo')) X.tru T.K.T.B.A;rw [EH rfl] at r1;refine st (ρ':=[.val (.lst (sc.map .int)),.val (tupI (many 16 (cell sc 0) 16)),.val (tupI lo'),.val (.int w),.nil,.nil,.nil,.nil,.nil,.nil,.nil,.nil,.nil,.nil]) (by dsimp? [f3,fi1,fi2,o1,o2,m1,e1,r1]) ?_;refine st (ρ':=[.val (.lst (sc.map .int)),.val (tupI (many 16 (cell sc 0) 16)),.val (tupI lo'),.val (.int w),.val (tupI (many 4 (cell sc 3) 4)),.nil,.nil,.nil,.nil,.nil,.nil,.nil,.nil,.nil]) (by dsimp? [f1,f2,hc3,hq3]) ?_;refine st (ρ':=[.val (.lst (sc.map .int)),.val (tupI (many 16 (cell sc 0) 16)),.val (tupI lo'),.val (.int w),.val (tupI (many 4 (cell sc 3) 4)),.val (tupI (many 4 (cell sc 3) 4)),.nil,.nil,.nil,.nil,.nil,.nil,.nil,.nil]) (by dsimp? [if_true]) ?_;refine st k9 ?_;refine st (ρ':=[.val (.lst (sc.map .int)),.val (tupI (many 16 (cell sc 0) 16)),.val (tupI lo'),.val (.int w),.val (tupI (many 4 (cell sc 3) 4)),.val (tupI up'),.owx (.l [.int (cell sc 5),.int (cell sc 6)]),.nil,.nil,.nil,.nil,.nil,.nil,.nil]) (by dsimp? [f1,hc5,hc6,z2]) ?_;refine st (ρ':=[.val (.lst (sc.map .int)),.val (tupI (many 16 (cell sc 0) 16)),.val (tupI lo'),.val (.int w),.val (tupI (many 4 (cell sc 3) 4)),.val (tupI up'),.owx (.l [.int (cell sc 5),.int (cell sc 6)]),.owx (.l [.int (cell sc 5),.int (cell sc 6)]),.nil,.nil,.nil,.nil,.nil,.nil]) (by rfl) ?_;exact st k12 h
end
section
variable {G:Prg} {C CG CTb CW:Addr} {n:Nat}
theorem uH {lo up:List Int} {t:Pr->List Int}:ah (tabI CTb C lo up t)=false:=by
 show (ah (grp C lo)&&(ah (grp C up)&&(false&&true)))=false;rw [dD,dD];rfl
theorem xU {lo up:List Int} {t:Pr->List Int}:ah (aB CW CTb C lo up t)=false:=by
 show (ah (tabI CTb C lo up t)&&_)=false;rw [uH];rfl
theorem tJ {lo up:List Int} {t:Pr->List Int}:akB lo up t lo up t=true:=by
 unfold akB;rw [EH rfl,EH rfl,Bool.true_and,Bool.true_and];exact EA.mpr fun p _=>EH rfl
theorem tK {lo up lo' up':List Int} {t t':Pr->List Int}:akB lo' up' t' lo up t=akB lo up t lo' up' t':=by
 unfold akB
 by_cases e1:lo=lo'
 ·by_cases e2:up=up'
  ·subst e1 e2;simp only [eq_comm]
  ·have e3:¬up'=up:=fun z=>e2 z.symm;rw [EI e2,EI e3,Bool.false_and,Bool.false_and,Bool.and_false,Bool.and_false]
 ·have e3:¬lo'=lo:=fun z=>e1 z.symm;rw [EI e1,EI e3,Bool.false_and,Bool.false_and]
noncomputable abbrev q05 (sc lo lo' up up':List Int) (w c5 c6 m5 m6:Int) (T:Rho):Rho:=.val (.lst (sc.map .int))::.val (tupI lo)::.val (tupI lo')::.val (.int w)::.val (tupI up)::.val (tupI up')::.owx (.l [.int c5,.int c6])::.owx (.l [.int m5,.int m6])::T
theorem wz {key:Str} {sc:List Int} (hd:G.defs key=some (none,L.cN)) (X:LF G) (T:TW G C CG CTb CW)
  (HH:∀a a' b:Int,0<=a->a<4->0<=a'->a'<4->0<=b->b<8->∃d d',kal G (n+10) "_law_high" [.int a,.int b]=some (.ok d)∧kal G (n+10) "_law_high" [.int a',.int b]=some (.ok d')∧aF G (kal G (n+10)) d "like" [d']=some (.ok (.bl (decide (a=a'))))∧aF G (kal G (n+10)) d' "like" [d]=some (.ok (.bl (decide (a=a'))))∧ah d=false):
  kal G (n+11) key [.lst (sc.map .int)]=some (.ok (.bl true)):=by
 obtain ⟨lo,lo',up,up',w,c5,c6,m5,m6,⟨gl,pl⟩,⟨gl',pl'⟩,⟨gu,pu⟩,⟨gu',pu'⟩,go⟩:=xR (n:=n) (sc:=sc) X T;have U:=vX gl gu pl (by omega);have U':=vX gl' gu' pl' (by omega);refine aV hd ⟨rfl,rfl⟩ (ρ0:=[.val (.lst (sc.map .int)),.nil,.nil,.nil,.nil,.nil,.nil,.nil,.nil,.nil,.nil,.nil,.nil,.nil]) rfl ?_;refine go _ _ ?_;have f1:=X.vP;have f2:=X.Dv;have f3:=X.Af;have f4:=X.fhi;have fi1:=T.K.T.B.A.eQ.1;have fi2:=T.K.T.B.A.eQ.2;have ft1:=T.K.T.eQ.1;have ft2:=T.K.T.eQ.2;have fw1:=T.eQ.1;have fw2:=T.eQ.2;obtain ⟨h,t,hh,k8,q8⟩:=l7 (n:=n+8) (c0:=c5) (c1:=c6) X.toLW X.tab U;obtain ⟨h',t',hh',k9,q9⟩:=l7 (n:=n+8) (c0:=m5) (c1:=m6) X.toLW X.tab U';have pv:∀{lo:List Int} {c:Int},Good lo->∀k,El lo (pvI lo c k):=fun g k=>mw g.g2;have ht:=tw gl.g2 gu.g2 (pv gl) hh q8;have ht':=tw gl'.g2 gu'.g2 (pv gl') hh' q9;have b3:=lY gl.g2 gu.g2 (pv gl) hh q8;have b3':=lY gl'.g2 gu'.g2 (pv gl') hh' q9;have fr8:=d_ t (prs (PL.mem up));have fr9:=d_ t' (prs (PL.mem up'));refine st (ρ':=q05 sc lo lo' up up' w c5 c6 m5 m6 [.owx (.d (ab t (prs (PL.mem up)))),.nil,.nil,.nil,.nil,.nil]) (by dsimp? [q05,f2,k8,fr8]) ?_;refine st (ρ':=q05 sc lo lo' up up' w c5 c6 m5 m6 [.owx (.d (ab t (prs (PL.mem up)))),.owx (.d (ab t' (prs (PL.mem up')))),.nil,.nil,.nil,.nil]) (by dsimp? [q05,f2,k9,fr9]) ?_;have o1:=fb (n:=n+7) (t:=tupI lo) T.K.T.B.A rfl gl;have o2:=fb (n:=n+7) (t:=tupI lo') T.K.T.B.A rfl gl';have o3:=fb (n:=n+7) (t:=tupI up) T.K.T.B.A rfl gu;have o4:=fb (n:=n+7) (t:=tupI up') T.K.T.B.A rfl gu';have y1:=nX (n:=n+6) (es:=ab t (prs (PL.mem up))) (t:=t) T.K.T U (fun p hp=>ie hp) ht;have y2:=nX (n:=n+6) (es:=ab t' (prs (PL.mem up'))) (t:=t') T.K.T U' (fun p hp=>ie hp) ht';have w1:=vB (n:=n+5) (t:=t) T U b3;have w2:=vB (n:=n+5) (t:=t') T U' b3';have z2:(2:Nat)<=sizeLine:=by decide
 have nf:a8 (.l [aB CW CTb C lo up t,aB CW CTb C lo' up' t'])=false:=by
  show (ah (aB CW CTb C lo up t)&&_)=false;rw [xU];rfl
 refine st (ρ':=q05 sc lo lo' up up' w c5 c6 m5 m6 [.val (.pdc (ab t (prs (PL.mem up)))),.val (.pdc (ab t' (prs (PL.mem up')))),.owx (.l [aB CW CTb C lo up t,aB CW CTb C lo' up' t']),.nil,.nil,.nil]) (by dsimp? [q05,fi1,fi2,ft1,ft2,fw1,fw2,o1,o2,o3,o4,y1,y2,w1,w2,z2,nf]) ?_;have e1:=hX lo lo';have e2:=hX up up';have due:IN.aa G (kal G (n+10)) (L.cN.body.getD 15 .pass) (q05 sc lo lo' up up' w c5 c6 m5 m6 [.val (.pdc (ab t (prs (PL.mem up)))),.val (.pdc (ab t' (prs (PL.mem up')))),.owx (.l [aB CW CTb C lo up t,aB CW CTb C lo' up' t']),.nil,.nil,.nil])=
   some (.nx (q05 sc lo lo' up up' w c5 c6 m5 m6 [.val (.pdc (ab t (prs (PL.mem up)))),.val (.pdc (ab t' (prs (PL.mem up')))),.owx (.l [aB CW CTb C lo up t,aB CW CTb C lo' up' t']),.val (.bl (akB lo up t lo' up' t')),.nil,.nil])):=by
  show IN.aa G _ (.asg _ _ _) _=_;unfold akB
  by_cases h1:lo=lo'
  ·by_cases h2:up=up'
   ·rw [EH h1] at e1 ⊢;rw [EH h2] at e2 ⊢;subst h2;have e3:=o6 (t:=t) (t2:=t') (l:=prs (PL.mem up));dsimp? [q05,e1,e2,e3]
   ·rw [EH h1] at e1 ⊢;rw [EI h2] at e2 ⊢;dsimp? [q05,e1,e2]
  ·rw [EI h1] at e1 ⊢;dsimp? [q05,e1]
 refine st due ?_;have l1:=j6 (n:=n+6) (t:=t) (t':=t') T U U';have l2:=j6 (n:=n+6) (t:=t') (t':=t) T U' U;have l3:=j6 (n:=n+6) (t:=t') (t':=t') T U' U';rw [tK] at l2;rw [tJ] at l3;have l4:=uJ (n:=n+9) (lo:=lo) (up:=up) (a:=lo) (t:=t) T;have l5:=uI (n:=n+9) (lo:=lo) (up:=up) (a:=up) (t:=t) T;have tr:∀b:Bool,kal G (n+10) "_law_truth" [.bl b,.bl b]=some (.ok (.bl true)):=fun b=>by
  have:=nY (n:=n+9) (a:=b) (b:=b) X.tru T.K.T.B.A;rw [EH rfl] at this;exact this
 have i0:atI [aB CW CTb C lo up t,aB CW CTb C lo' up' t'] 0=some (aB CW CTb C lo up t):=rfl;have i1:atI [aB CW CTb C lo up t,aB CW CTb C lo' up' t'] 1=some (aB CW CTb C lo' up' t'):=rfl;refine st (ρ':=q05 sc lo lo' up up' w c5 c6 m5 m6 [.val (.pdc (ab t (prs (PL.mem up)))),.val (.pdc (ab t' (prs (PL.mem up')))),.owx (.l [aB CW CTb C lo up t,aB CW CTb C lo' up' t']),.val (.bl (akB lo up t lo' up' t')),.nil,.nil]) (by dsimp? [q05,f3,i0,i1,l1,l2,tr]) ?_;refine st (ρ':=q05 sc lo lo' up up' w c5 c6 m5 m6 [.val (.pdc (ab t (prs (PL.mem up)))),.val (.pdc (ab t' (prs (PL.mem up')))),.owx (.l [aB CW CTb C lo up t,aB CW CTb C lo' up' t']),.val (.bl (akB lo up t lo' up' t')),.nil,.nil]) (by dsimp? [q05,f3,fi1,fi2,o1,o3,i0,l4,l5,tr]) ?_;refine st (ρ':=q05 sc lo lo' up up' w c5 c6 m5 m6 [.val (.pdc (ab t (prs (PL.mem up)))),.val (.pdc (ab t' (prs (PL.mem up')))),.owx (.l [aB CW CTb C lo up t,aB CW CTb C lo' up' t']),.val (.bl (akB lo up t lo' up' t')),.nil,.nil]) (by dsimp? [q05,f3,i1,l3,tr]) ?_;have hc:=qN (n:=n+9) (ns:=sc) (k:=8) X.cell;generalize cell sc 8=c at hc;refine st (ρ':=q05 sc lo lo' up up' w c5 c6 m5 m6 [.val (.pdc (ab t (prs (PL.mem up)))),.val (.pdc (ab t' (prs (PL.mem up')))),.owx (.l [aB CW CTb C lo up t,aB CW CTb C lo' up' t']),.val (.bl (akB lo up t lo' up' t')),.val (.int c),.nil]) (by dsimp? [q05,f1,hc]) ?_;have u4:(0:Int)<4∧(4:Int).toNat<1073741824:=by decide
 have u16:(0:Int)<16∧(16:Int).toNat<1073741824:=by decide
 have u64:(0:Int)<64∧(64:Int).toNat<1073741824:=by decide
 have p2:(0:Int)<2:=by decide
 have p4:(0:Int)<4:=by decide
 have p8:(0:Int)<8:=by decide
 obtain ⟨a',ha',hix,hdue⟩:∃a':Int,atI [D.int c,D.int (c / 4)] (c / 16%2)=some (.int a')∧(0<=a'%4∧a'%4<4)∧(decide (c / 16%2=0)=true∨decide (c / 16%2=0)=false)∧(decide (c / 16%2=0)||decide (c%4=c / 4%4))=decide (c%4=a'%4):=by
  by_cases z:c / 16%2=0
  ·exact ⟨c,by rw [z];rfl,by omega,by rw [z];exact .inl rfl,by rw [z,EH rfl,EH rfl];rfl⟩
  ·have z1:c / 16%2=1:=by omega
   exact ⟨c / 4,by rw [z1];rfl,by omega,by rw [z1];exact .inr rfl,by rw [EI z,Bool.false_or]⟩
 obtain ⟨hb,hor⟩:=hdue;obtain ⟨d,d',j1,j2,j3,j4,j5⟩:=HH (c%4) (a'%4) (c / 64%8) (by omega) (by omega) hix.1 hix.2 (by omega) (by omega);have nf2:a8 (.l [d,d'])=false:=by
  show (ah d&&_)=false;rw [j5];rfl
 refine st (ρ':=q05 sc lo lo' up up' w c5 c6 m5 m6 [.val (.pdc (ab t (prs (PL.mem up)))),.val (.pdc (ab t' (prs (PL.mem up')))),.owx (.l [aB CW CTb C lo up t,aB CW CTb C lo' up' t']),.val (.bl (akB lo up t lo' up' t')),.val (.int c),.owx (.l [d,d'])]) (by dsimp? [q05,f4,u4,u16,u64,p2,p4,p8,z2,ha',j1,j2,nf2]) ?_;refine st (ρ':=q05 sc lo lo' up up' w c5 c6 m5 m6 [.val (.pdc (ab t (prs (PL.mem up)))),.val (.pdc (ab t' (prs (PL.mem up')))),.owx (.l [aB CW CTb C lo up t,aB CW CTb C lo' up' t']),.val (.bl (decide (c%4=a'%4))),.val (.int c),.owx (.l [d,d'])]) (by
  rw [←hor];rcases hb with hb|hb
  ·dsimp? [q05,u4,u16,p2,p4,hb]
  ·dsimp? [q05,u4,u16,p2,p4,hb]) (bf ?_)
 have i2:atI [d,d'] 0=some d:=rfl;have i3:atI [d,d'] 1=some d':=rfl;dsimp? [q05,f3,i2,i3,j3,j4,tr]
end
noncomputable def uF:Option Rs->Bool->Bool
 |some (.ok (.bl x)),y=>x==y
 |_,_=>false
noncomputable def hiC (G:Prg) (m:Nat) (a a' b:Int):Bool:=
 match kal G m "_law_high" [.int a,.int b] with
 |some (.ok d)=>match kal G m "_law_high" [.int a',.int b] with
  |some (.ok d')=>uF (aF G (kal G m) d "like" [d']) (decide (a=a'))&&uF (aF G (kal G m) d' "like" [d]) (decide (a=a'))&&(!ah d&&!ah d')
  |_=>false
 |_=>false
theorem oF (h:uF r y=true):r=some (.ok (.bl y)):=by
 match r,h with
 |some (.ok (.bl x)),h=>rw [eq_of_beq (show (x==y)=true from h)]
theorem rY (h:hiC G m a a' b=true):∃d d',kal G m "_law_high" [.int a,.int b]=some (.ok d)∧kal G m "_law_high" [.int a',.int b]=some (.ok d')∧aF G (kal G m) d "like" [d']=some (.ok (.bl (decide (a=a'))))∧aF G (kal G m) d' "like" [d]=some (.ok (.bl (decide (a=a'))))∧ah d=false∧ah d'=false:=by
 unfold hiC at h;split at h
 ·rename_i d e1;split at h
  ·rename_i d' e2;simp only [Bool.and_eq_true,Bool.not_eq_true'] at h;exact ⟨d,d',e1,e2,oF h.1.1,oF h.1.2,h.2.1,h.2.2⟩
  ·cases h
 ·cases h
theorem Ci (h:((aq 4).all fun a=>(aq (a+1)).all fun a'=>(aq 8).all fun b=>hiC G m a a' b)=true):
  ∀a a' b:Int,0<=a->a<4->0<=a'->a'<4->0<=b->b<8->∃d d',kal G m "_law_high" [.int a,.int b]=some (.ok d)∧kal G m "_law_high" [.int a',.int b]=some (.ok d')∧aF G (kal G m) d "like" [d']=some (.ok (.bl (decide (a=a'))))∧aF G (kal G m) d' "like" [d]=some (.ok (.bl (decide (a=a'))))∧ah d=false:=by
 intro a a' b a0 a1 b0 b1 c0 c1;have mk:∀{n k:Int},0<=k->k<n->k∈aq n:=fun {n k} h0 h1=>by
  unfold aq;exact Es.mpr ⟨k.toNat,List.mem_range.mpr (by omega),by omega⟩
 have go:∀a a':Int,0<=a->a<4->0<=a'->a'<=a->hiC G m a a' b=true:=fun a a' a0 a1 b0 b1=>
  EA.mp (EA.mp (EA.mp h a (mk a0 a1)) a' (mk b0 (by omega))) b (mk c0 c1)
 by_cases z:a'<=a
 ·obtain ⟨d,d',h1,h2,h3,h4,h5,_⟩:=rY (go a a' a0 a1 b0 z);exact ⟨d,d',h1,h2,h3,h4,h5⟩
 ·obtain ⟨d,d',h1,h2,h3,h4,_,h6⟩:=rY (go a' a b0 b1 a0 (by omega));have e:decide (a'=a)=decide (a=a'):=by simp only [eq_comm]
  rw [e] at h3 h4;exact ⟨d',d,h2,h1,h4,h3,h6⟩
end PL
set_option autoImplicit true
set_option relaxedAutoImplicit true
namespace R05
open PySem PySem.Spec L2 CT IN
open PyProof.Rows hiding St
noncomputable def top (i:Nat):Stmt:=PySem.Challenge.pw_carrytower_k05_like_groups.main.body.getD i (.Pass ⟨0,0,0,0⟩)
noncomputable def src:Src where
 gl:=[("int",.ty "int"),("bool",.ty "bool"),("list",.ty "list"),("tuple",.ty "tuple"),("LEAST_ROUND",.int 2),("MOST_MEMBERS",.int 144),("MOST_LOWER",.int 16),("MOST_UPPER",.int 9),("Rounds",.cl 316),("Group",.cl 247),("Tower",.cl 509)]
 fn:=["is_whole","product","are_rounds","need_lower","need_upper","pairs_of","picked_carries","break_of_three","need_three","break_of_two","over_like","alike","sums_within","_law_cell","_law_rounds","_law_members","_law_added","_law_times","_law_element","_law_table","_law_high","_law_truth","law"]
 ini:=[("Rounds",(316,"Rounds.__init__")),("Table",(389,"Table.__init__")),("Tower",(509,"Tower.__init__"))]
 mth:=[((316,"members"),"Rounds.members"),((316,"has"),"Rounds.has"),((316,"is_even"),"Rounds.is_even"),((316,"size"),"Group.size"),((316,"sum_of"),"Rounds.sum_of"),((316,"like"),"Rounds.like"),((389,"carries"),"Table.carries"),((389,"carry_of"),"Table.carry_of"),((509,"members"),"Tower.members"),((509,"has"),"Tower.has"),((509,"like"),"Tower.like"),((509,"is_even"),"Tower.is_even"),((509,"size"),"Group.size"),((509,"sum_of"),"Tower.sum_of")]
 fok:=[(316,"rounds"),(389,"lower"),(389,"upper"),(389,"kept"),(509,"table"),(509,"below")]
 uD:=[((316,316),true),((316,247),true),((509,247),true),((509,509),true),((316,509),false),((509,316),false)]
 defs:=([("is_whole",(none,P.iT)),("product",(none,P.product)),("are_rounds",(none,P.fy)),("need_lower",(none,P.fT)),("need_upper",(none,P.fV)),("pairs_of",(none,P.iX)),("picked_carries",(none,P.dj)),("break_of_three",(none,P.bt)),("need_three",(none,P.fU)),("break_of_two",(none,P.gx)),("over_like",(none,P.g0)),("alike",(none,P.alike)),("sums_within",(none,P.eV)),("_law_cell",(none,L.cell)),("_law_rounds",(none,L.rounds)),("_law_members",(none,L.members)),("_law_added",(none,L.added)),("_law_times",(none,L.times)),("_law_element",(none,L.element)),("_law_table",(none,L.table)),("_law_high",(none,L.high)),("_law_truth",(none,L.truth)),("law",(none,L.cN)),("Rounds.__init__",(some 316,P.cT)),("Table.__init__",(some 389,P.c4)),("Tower.__init__",(some 509,P.c7)),("Rounds.members",(none,P.cZ)),("Rounds.has",(none,P.dQ)),("Rounds.is_even",(none,P.cY)),("Group.size",(none,P.fw))]:List (Str×(Option Addr×Def)))++([("Rounds.sum_of",(none,P.bU)),("Rounds.like",(none,P.cH)),("Table.carries",(none,P.dG)),("Table.carry_of",(none,P.eY)),("Tower.members",(none,P.gh)),("Tower.has",(none,P.ku)),("Tower.like",(none,P.fx)),("Tower.is_even",(none,P.gg)),("Tower.sum_of",(none,P.gk))]:List (Str×(Option Addr×Def)))
noncomputable abbrev G:Prg:=src.prg
local macro_rules|`(tactic|walk_at "d")=>`(tactic|exact DT.of ⟨rfl,rfl,rfl,by decide+kernel,rfl,by decide+kernel,by decide+kernel⟩ (by kernel_rfl) (by kernel_rfl) (fun _ _ _ _ _ _=>by first|exact Ay fun _=>rfl|exact Az fun _ _=>rfl|exact AA fun _ _ _=>rfl|exact DL fun _ _ _ _=>rfl) rfl rfl rfl)
noncomputable abbrev DF (q:Str) (d:Def) (i:Nat) (ps:List Str):Prop:=DT G q none d q q (top i) ps
noncomputable abbrev DM (q m:Str) (c:Option Addr) (d:Def) (i j:Nat) (ps:List Str):Prop:=DT G q c d m q (inClass (top i) j) ps
theorem t0:DF "is_whole" P.iT 13 ["thing"]:=by walk_at "d"
theorem t1:DF "product" P.product 14 ["numbers"]:=by walk_at "d"
theorem t2:DF "are_rounds" P.fy 15 ["thing"]:=by walk_at "d"
theorem t3:DF "need_lower" P.fT 21 ["lower"]:=by walk_at "d"
theorem t4:DF "need_upper" P.fV 22 ["upper"]:=by walk_at "d"
theorem t5:DF "pairs_of" P.iX 23 ["group"]:=by walk_at "d"
theorem t6:DF "picked_carries" P.dj 24 ["lower","upper","carries"]:=by walk_at "d"
theorem t7:DF "break_of_three" P.bt 26 ["table"]:=by walk_at "d"
theorem t8:DF "need_three" P.fU 27 ["table"]:=by walk_at "d"
theorem t9:DF "break_of_two" P.gx 28 ["table"]:=by walk_at "d"
theorem t10:DF "over_like" P.g0 29 ["one","other"]:=by walk_at "d"
theorem t11:DF "alike" P.alike 30 ["one","other"]:=by walk_at "d"
theorem t12:DF "sums_within" P.eV 32 ["group"]:=by walk_at "d"
theorem t13:DF "_law_cell" L.cell 35 ["_law_script","_law_k"]:=by walk_at "d"
theorem t14:DF "_law_rounds" L.rounds 37 ["_law_cell_here","_law_most","_law_greatest"]:=by walk_at "d"
theorem t15:DF "_law_members" L.members 38 ["_law_rounds_here"]:=by walk_at "d"
theorem t16:DF "_law_added" L.added 39 ["_law_rounds_here","_law_x","_law_y"]:=by walk_at "d"
theorem t17:DF "_law_times" L.times 40 ["_law_rounds_here","_law_n","_law_x"]:=by walk_at "d"
theorem t18:DF "_law_element" L.element 41 ["_law_rounds_here","_law_cell_here"]:=by walk_at "d"
theorem t19:DF "_law_table" L.table 42 ["_law_lower","_law_upper","_law_cells"]:=by walk_at "d"
theorem t20:DF "_law_high" L.high 43 ["_law_low","_law_way"]:=by walk_at "d"
theorem t21:DF "_law_truth" L.truth 44 ["_law_found","_law_due"]:=by walk_at "d"
theorem t22:DF "law" L.cN 45 ["_law_script"]:=by walk_at "d"
theorem t23:DM "Rounds.__init__" "__init__" (some 316) P.cT 17 0 ["self","rounds"]:=by walk_at "d"
theorem t24:DM "Table.__init__" "__init__" (some 389) P.c4 25 0 ["self","lower","upper","carries"]:=by walk_at "d"
theorem t25:DM "Tower.__init__" "__init__" (some 509) P.c7 33 0 ["self","table"]:=by walk_at "d"
theorem t26:DM "Rounds.members" "members" none P.cZ 17 1 ["self"]:=by walk_at "d"
theorem t27:DM "Rounds.has" "has" none P.dQ 17 2 ["self","thing"]:=by walk_at "d"
theorem t28:DM "Rounds.is_even" "is_even" none P.cY 17 6 ["self"]:=by walk_at "d"
theorem t29:DM "Group.size" "size" none P.fw 16 8 ["self"]:=by walk_at "d"
theorem t30:DM "Rounds.sum_of" "sum_of" none P.bU 17 7 ["self","x","y"]:=by walk_at "d"
theorem t31:DM "Rounds.like" "like" none P.cH 17 5 ["self","other"]:=by walk_at "d"
theorem t32:DM "Table.carries" "carries" none P.dG 25 4 ["self"]:=by walk_at "d"
theorem t33:DM "Table.carry_of" "carry_of" none P.eY 25 2 ["self","x","y"]:=by walk_at "d"
theorem t34:DM "Tower.members" "members" none P.gh 33 1 ["self"]:=by walk_at "d"
theorem t35:DM "Tower.has" "has" none P.ku 33 2 ["self","thing"]:=by walk_at "d"
theorem t36:DM "Tower.like" "like" none P.fx 33 4 ["self","other"]:=by walk_at "d"
theorem t37:DM "Tower.is_even" "is_even" none P.gg 33 5 ["self"]:=by walk_at "d"
theorem t38:DM "Tower.sum_of" "sum_of" none P.gk 33 6 ["self","one","other"]:=by walk_at "d"
theorem Au (ns:List Int):kal G 11 "law" [.lst (ns.map .int)]=some (.ok (.bl true)):=by
 have A:PL.GA G 316:=⟨rfl,rfl,rfl,rfl,rfl,rfl,rfl,rfl,rfl,rfl,rfl,rfl,fun n hn c hc=>if_pos ⟨hn,hc⟩,rfl,⟨rfl,rfl⟩,rfl⟩
 have B:PL.GB G 316:=⟨A,rfl,rfl,rfl,rfl,rfl,rfl,rfl,rfl⟩
 have T:PL.TB G 316 247 389:=⟨B,rfl,rfl,rfl,rfl,rfl,rfl,rfl,rfl,rfl,rfl,rfl,rfl,rfl,rfl,rfl,⟨rfl,rfl⟩,rfl,rfl,rfl⟩
 have K:PL.TD G 316 247 389:=⟨⟨T,rfl,rfl⟩,rfl,rfl,rfl⟩
 have W:PL.TW G 316 247 389 509:=⟨K,rfl,rfl,rfl,rfl,rfl,rfl,⟨rfl,rfl⟩,rfl,rfl,rfl,rfl,rfl,rfl,rfl,rfl,rfl,rfl,rfl,rfl,rfl,rfl⟩
 have X:PL.LF G:=⟨⟨rfl,rfl,rfl,rfl,rfl,rfl,rfl,rfl,rfl,rfl,rfl,rfl⟩,rfl,rfl,rfl,rfl,rfl⟩
 exact PL.wz (n:=0) rfl X W (PL.Ci (by kernel_rfl))
end R05
set_option autoImplicit true
set_option relaxedAutoImplicit true
namespace R05
open PySem PySem.Spec PySem.W L2 CT IN
open PyProof.Rows hiding St
theorem al_ {α:Type} {p:α->Prop} {a:α} {l:List α} (h:p a) (t:∀x∈l,p x):∀x∈a::l,p x:=List.forall_mem_cons.mpr ⟨h,t⟩
theorem all_mk {l:PySem.W.OpenLaw} {w:World} {K:PySem.W.Frag} {h:Heap} {mg:Str->Option Value} {fa:Addr} {kLEAST_ROUND kMOST_MEMBERS kMOST_LOWER kMOST_UPPER:Tok} (X:K.In h) (Y:h.Ns mainGlobals mg) (hfa:mg "law"=some (.ref fa))
  (aRounds:nsIn K mainGlobals "Rounds"=some (some (.ref 316)))
  (aGroup:nsIn K mainGlobals "Group"=some (some (.ref 247)))
  (aTower:nsIn K mainGlobals "Tower"=some (some (.ref 509)))
  (aTable:nsIn K mainGlobals "Table"=some (some (.ref 389)))
  (et0:GF K "is_whole" (top 13))
  (et1:GF K "product" (top 14))
  (et2:GF K "are_rounds" (top 15))
  (et3:GF K "need_lower" (top 21))
  (et4:GF K "need_upper" (top 22))
  (et5:GF K "pairs_of" (top 23))
  (et6:GF K "picked_carries" (top 24))
  (et7:GF K "break_of_three" (top 26))
  (et8:GF K "need_three" (top 27))
  (et9:GF K "break_of_two" (top 28))
  (et10:GF K "over_like" (top 29))
  (et11:GF K "alike" (top 30))
  (et12:GF K "sums_within" (top 32))
  (et13:GF K "_law_cell" (top 35))
  (et14:GF K "_law_rounds" (top 37))
  (et15:GF K "_law_members" (top 38))
  (et16:GF K "_law_added" (top 39))
  (et17:GF K "_law_times" (top 40))
  (et18:GF K "_law_element" (top 41))
  (et19:GF K "_law_table" (top 42))
  (et20:GF K "_law_high" (top 43))
  (et21:GF K "_law_truth" (top 44))
  (et22:GF K "law" (top 45))
  (et23:MF K 316 "__init__" "Rounds.__init__" (inClass (top 17) 0))
  (et24:MF K 389 "__init__" "Table.__init__" (inClass (top 25) 0))
  (et25:MF K 509 "__init__" "Tower.__init__" (inClass (top 33) 0))
  (et26:MF K 316 "members" "Rounds.members" (inClass (top 17) 1))
  (et27:MF K 316 "has" "Rounds.has" (inClass (top 17) 2))
  (et28:MF K 316 "is_even" "Rounds.is_even" (inClass (top 17) 6))
  (et29:MF K 316 "size" "Group.size" (inClass (top 16) 8))
  (et29Tower:MF K 509 "size" "Group.size" (inClass (top 16) 8))
  (et30:MF K 316 "sum_of" "Rounds.sum_of" (inClass (top 17) 7))
  (et31:MF K 316 "like" "Rounds.like" (inClass (top 17) 5))
  (et32:MF K 389 "carries" "Table.carries" (inClass (top 25) 4))
  (et33:MF K 389 "carry_of" "Table.carry_of" (inClass (top 25) 2))
  (et34:MF K 509 "members" "Tower.members" (inClass (top 33) 1))
  (et35:MF K 509 "has" "Tower.has" (inClass (top 33) 2))
  (et36:MF K 509 "like" "Tower.like" (inClass (top 33) 4))
  (et37:MF K 509 "is_even" "Tower.is_even" (inClass (top 33) 5))
  (et38:MF K 509 "sum_of" "Tower.sum_of" (inClass (top 33) 6))
  (oRounds:jR K 316=true)
  (oTable:jR K 389=true)
  (oTower:jR K 509=true)
  (mkRounds:makesIn K 316=true)
  (kcRounds:keepIn K (.ref 316)=true)
  (mkTable:makesIn K 389=true)
  (kcTable:keepIn K (.ref 389)=true)
  (mkTower:makesIn K 509=true)
  (kcTower:keepIn K (.ref 509)=true)
  (n0:findIn K (.ref 316) "rounds"=some none)
  (n1:findIn K (.ref 389) "lower"=some none)
  (n2:findIn K (.ref 389) "upper"=some none)
  (n3:findIn K (.ref 389) "kept"=some none)
  (n4:findIn K (.ref 509) "table"=some none)
  (n5:findIn K (.ref 509) "below"=some none)
  (vLEAST_ROUND:nsIn K mainGlobals "LEAST_ROUND"=some (some (.int 2 kLEAST_ROUND)))
  (vMOST_MEMBERS:nsIn K mainGlobals "MOST_MEMBERS"=some (some (.int 144 kMOST_MEMBERS)))
  (vMOST_LOWER:nsIn K mainGlobals "MOST_LOWER"=some (some (.int 16 kMOST_LOWER)))
  (vMOST_UPPER:nsIn K mainGlobals "MOST_UPPER"=some (some (.int 9 kMOST_UPPER)))
  (q0:kitOne K (.ref 316) (.ref 316)=some true)
  (q1:kitOne K (.ref 316) (.ref 247)=some true)
  (q2:kitOne K (.ref 509) (.ref 247)=some true)
  (q3:kitOne K (.ref 509) (.ref 509)=some true)
  (q4:kitOne K (.ref 316) (.ref 509)=some false)
  (q5:kitOne K (.ref 509) (.ref 316)=some false)
  (ty:BJ K=true)
  (zs:pA.all (fun x=>nsIn K mainGlobals x==some none)=true)
  (zbool:nsIn K mainGlobals "bool"=some none):
  ∃fd:FuncData,(∀(s:Shared) (v:Value),BindsTo s fd ⟨[v],[]⟩ [("_law_script",v)])∧∀base:Heap,K.In base->base.Ns mainGlobals mg->aE l.prog w K mg base CX0 36 fa fd ["_law_script"] (spD K (mN G 11)):=by
 have z:∀x∈pA,mg x=none:=fun x hx=>mg_none_of X Y (beq_iff_eq.mp (EA.mp zs x hx));exact As (n:=11) X Y hfa (fun base=>Bt (s:=src) z
  (al_ ⟨z _ (by decide),rfl⟩ (al_ ⟨mg_none_of X Y zbool,rfl⟩ (al_ ⟨z _ (by decide),rfl⟩ (al_ ⟨z _ (by decide),rfl⟩ (al_ ⟨_,mg_of X Y vLEAST_ROUND⟩ (al_ ⟨_,mg_of X Y vMOST_MEMBERS⟩ (al_ ⟨_,mg_of X Y vMOST_LOWER⟩ (al_ ⟨_,mg_of X Y vMOST_UPPER⟩ (al_ (mg_of X Y aRounds) (al_ (mg_of X Y aGroup) (al_ (mg_of X Y aTower) (List.forall_mem_nil _)))))))))))) ty
  (al_ ⟨q0,bO oRounds⟩ (al_ ⟨q1,bO oRounds⟩ (al_ ⟨q2,bO oTower⟩ (al_ ⟨q3,bO oTower⟩ (al_ ⟨q4,bO oRounds⟩ (al_ ⟨q5,bO oTower⟩ (List.forall_mem_nil _)))))))
  (al_ (GF.row X Y t0 et0) (al_ (GF.row X Y t1 et1) (al_ (GF.row X Y t2 et2) (al_ (GF.row X Y t3 et3) (al_ (GF.row X Y t4 et4) (al_ (GF.row X Y t5 et5) (al_ (GF.row X Y t6 et6) (al_ (GF.row X Y t7 et7) (al_ (GF.row X Y t8 et8) (al_ (GF.row X Y t9 et9) (al_ (GF.row X Y t10 et10) (al_ (GF.row X Y t11 et11) (al_ (GF.row X Y t12 et12) (al_ (GF.row X Y t13 et13) (al_ (GF.row X Y t14 et14) (al_ (GF.row X Y t15 et15) (al_ (GF.row X Y t16 et16) (al_ (GF.row X Y t17 et17) (al_ (GF.row X Y t18 et18) (al_ (GF.row X Y t19 et19) (al_ (GF.row X Y t20 et20) (al_ (GF.row X Y t21 et21) (al_ (GF.row X Y t22 et22) (List.forall_mem_nil _))))))))))))))))))))))))
  (al_ (MF.ini X Y aRounds mkRounds kcRounds t23 et23) (al_ (MF.ini X Y aTable mkTable kcTable t24 et24) (al_ (MF.ini X Y aTower mkTower kcTower t25 et25) (List.forall_mem_nil _))))
  (al_ (MF.row oRounds t26 et26) (al_ (MF.row oRounds t27 et27) (al_ (MF.row oRounds t28 et28) (al_ (MF.row oRounds t29 et29) (al_ (MF.row oRounds t30 et30) (al_ (MF.row oRounds t31 et31) (al_ (MF.row oTable t32 et32) (al_ (MF.row oTable t33 et33) (al_ (MF.row oTower t34 et34) (al_ (MF.row oTower t35 et35) (al_ (MF.row oTower t36 et36) (al_ (MF.row oTower t37 et37) (al_ (MF.row oTower t29 et29Tower) (al_ (MF.row oTower t38 et38) (List.forall_mem_nil _)))))))))))))))
  (al_ ⟨(bO oRounds).cl,n0⟩ (al_ ⟨(bO oTable).cl,n1⟩ (al_ ⟨(bO oTable).cl,n2⟩ (al_ ⟨(bO oTable).cl,n3⟩ (al_ ⟨(bO oTower).cl,n4⟩ (al_ ⟨(bO oTower).cl,n5⟩ (List.forall_mem_nil _)))))))) t22 et22
theorem walk {l:PySem.W.OpenLaw} {q:Program} {loose:List Str} {XP:(Str->Option Value)->Heap->Prop} {YP:World->Heap->Prop} {d:DefRec} {K:Params->PySem.W.Frag} (hn:l.most=some 63) (hdf:d.params.defaults=[])
  (hY:∀(w:World) (h:Heap),YP w h->(K w.params).In h)
  (F:∀(w:World) (mg:Str->Option Value) (fa:Addr) (h:Heap),(K w.params).In h->h.Ns mainGlobals mg->mg d.name=some (.ref fa)->
   ∃fd:FuncData,(∀(s:Shared) (u:Value),BindsTo s fd ⟨[u],[]⟩ [("_law_script",u)])∧∀base:Heap,(K w.params).In base->base.Ns mainGlobals mg->aE l.prog w (K w.params) mg base CX0 36 fa fd ["_law_script"] (spD (K w.params) (mN G 11))):
  PySem.W.WalkO q loose XP YP l.row.toRowW d [] (fun f vs=>PySem.call f vs):=
 L2.yT (n:=63) (k:=36) (x:="_law_script") (CX:=fun _=>CX0) (sp:=fun w=>spD (K w.params) (mN G 11)) hn (by decide) hdf ⟨rfl,by decide,by decide⟩ hY F (fun _ _ a ns _ _ hS=>Av (Au ns) hS) fun _ _ _ _ _ z=>z
end R05
local macro_rules|`(universe $_)=>do
 let b:=`PySem.Challenge.cw_carrytower_k05_like_groups_holds
 let c<- ((List.range 743).map (b.str s!"o_{·}")++["sts_585","tree_392","tree_549","heap_743","tree_307","sts_550","sts_131","tree_130","sts_396","sts_494","sts_101","tree_70","tree_742","tree_47","tree_193","view_39","sts_153","tree_465","sts_116","sts_49","tree_85","heap_39","tree_667","tree_584","env_41","sts_668","tree_152","sts_86","thread_392","sts_194","tree_100","sts_466","tree_115","sts_71","tree_493","heap_46"].map b.str++[`PySem.Challenge.pw_carrytower_k05_like_groups]).mapM fun x=>do
  let n:=Lean.mkIdent (.str `PySem.W.Fast s!"tw{x.hash}")
  `(command|theorem $n:ident:True:=trivial)
 return Lean.mkNullNode (c.toArray.map (·.raw))
universe u
open PySem PySem.W PyProof.Rows
local macro_rules|`(tactic|walk_at "g")=>`(tactic|(refine' IN.Cf ?a ?l ?c ?k;(case a=>k_is);(case l=>k_is);(case c=>k_is);(case k=>k_is)))
local macro_rules|`(tactic|walk_at "m")=>`(tactic|(refine' IN.Cq ?a ?i ?l ?c ?k;(case a=>k_is);(case i=>k_is);(case l=>k_is);(case c=>k_is);(case k=>k_is)))
set_option maxRecDepth 100000 in
set_option maxHeartbeats 0 in
theorem PySem.Challenge.cw_carrytower_k05_like_groups_holds : PySem.Challenge.rw_carrytower_k05_like_groups.Holds := by
 w_on;o_law;k_head;(case hw=>w_witness2)
 k_fill
 refine R05.walk (l:=PySem.Challenge.rw_carrytower_k05_like_groups) rfl rfl (fun w h Y=>PySem.W.kIn_of Y) ?F
 case F=>
  intro w mg fa h KX G hmg;refine' R05.all_mk KX G hmg ?aRounds ?aGroup ?aTower ?aTable ?et0 ?et1 ?et2 ?et3 ?et4 ?et5 ?et6 ?et7 ?et8 ?et9 ?et10 ?et11 ?et12 ?et13 ?et14 ?et15 ?et16 ?et17 ?et18 ?et19 ?et20 ?et21 ?et22 ?et23 ?et24 ?et25 ?et26 ?et27 ?et28 ?et29 ?et29Tower ?et30 ?et31 ?et32 ?et33 ?et34 ?et35 ?et36 ?et37 ?et38 ?oRounds ?oTable ?oTower ?mkRounds ?kcRounds ?mkTable ?kcTable ?mkTower ?kcTower ?n0 ?n1 ?n2 ?n3 ?n4 ?n5 ?vLEAST_ROUND ?vMOST_MEMBERS ?vMOST_LOWER ?vMOST_UPPER ?q0 ?q1 ?q2 ?q3 ?q4 ?q5 ?ty ?zs ?zbool
  (case aRounds=>k_is)
  (case aGroup=>k_is)
  (case aTower=>k_is)
  (case aTable=>k_is)
  (case et0=>walk_at "g")
  (case et1=>walk_at "g")
  (case et2=>walk_at "g")
  (case et3=>walk_at "g")
  (case et4=>walk_at "g")
  (case et5=>walk_at "g")
  (case et6=>walk_at "g")
  (case et7=>walk_at "g")
  (case et8=>walk_at "g")
  (case et9=>walk_at "g")
  (case et10=>walk_at "g")
  (case et11=>walk_at "g")
  (case et12=>walk_at "g")
  (case et13=>walk_at "g")
  (case et14=>walk_at "g")
  (case et15=>walk_at "g")
  (case et16=>walk_at "g")
  (case et17=>walk_at "g")
  (case et18=>walk_at "g")
  (case et19=>walk_at "g")
  (case et20=>walk_at "g")
  (case et21=>walk_at "g")
  (case et22=>walk_at "g")
  (case et23=>walk_at "m")
  (case et24=>walk_at "m")
  (case et25=>walk_at "m")
  (case et26=>walk_at "m")
  (case et27=>walk_at "m")
  (case et28=>walk_at "m")
  (case et29=>walk_at "m")
  (case et29Tower=>walk_at "m")
  (case et30=>walk_at "m")
  (case et31=>walk_at "m")
  (case et32=>walk_at "m")
  (case et33=>walk_at "m")
  (case et34=>walk_at "m")
  (case et35=>walk_at "m")
  (case et36=>walk_at "m")
  (case et37=>walk_at "m")
  (case et38=>walk_at "m")
  (case oRounds=>kernel_rfl)
  (case oTable=>kernel_rfl)
  (case oTower=>kernel_rfl)
  (case mkRounds=>k_is)
  (case kcRounds=>k_is)
  (case mkTable=>k_is)
  (case kcTable=>k_is)
  (case mkTower=>k_is)
  (case kcTower=>k_is)
  (case n0=>k_is)
  (case n1=>k_is)
  (case n2=>k_is)
  (case n3=>k_is)
  (case n4=>k_is)
  (case n5=>k_is)
  (case vLEAST_ROUND=>k_is)
  (case vMOST_MEMBERS=>k_is)
  (case vMOST_LOWER=>k_is)
  (case vMOST_UPPER=>k_is)
  (case q0=>kernel_rfl)
  (case q1=>kernel_rfl)
  (case q2=>kernel_rfl)
  (case q3=>kernel_rfl)
  (case q4=>kernel_rfl)
  (case q5=>kernel_rfl)
  (case ty=>kernel_rfl)
  (case zs=>kernel_rfl)
  (case zbool=>k_is)
