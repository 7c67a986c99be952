import PyProof.Rows.All
import Wide.All
import OpenK.AllK
import Wide.FinOn
import Lean
import PyProof.EqAt
import PyProof.EqKinds
import PyProof.TupleCall
import PyProof.CompUse
import PyProof.Cells
import PyProof.CompFree
import PyProof.PlainList
import PyProof.ListMulRoad
import PyProof.AutoListH
import PyProof.TupleIter
import PyProof.FactsAll.tuple_2
import KE.KIsAll
import OpenK.KOwn
import PyProof.ExcInit
import PyProof.ExcArgsOwn
import PyProof.ExcAttrAll.ValueError
import PyProof.DictRoadsH
import PyProof.P3Eq
import KE.KDictOf
import PyProof.DictIter
import PyProof.ZipIter
import PyProof.NeData
import PyProof.Rows.SumAny
import PyProof.EnumMake
import PyProof.Draws
import PyProof.EnumFor
import PyProof.EnumStmt
import PyProof.Rows.SeqMore
import PyProof.DictCompW
import PyProof.DictTruth
import PyProof.MeetsDictList
import KE.KEqDict
import PyProof.StationsW
import PyProof.RulesAs
import PyProof.NsDelKeeps
import PySem.Challenge.RW_carrytower_k54_tables_pushed
set_option autoImplicit true
set_option relaxedAutoImplicit true
set_option Elab.async false
set_option linter.all false
set_option maxRecDepth 100000
set_option maxHeartbeats 4000000
set_option exponentiation.threshold 200000
set_option bootstrap.genMatcherCode false
set_option genSizeOf false
set_option compiler.extract_closed false
theorem auR (_:True:=by rfl):True:=⟨⟩
theorem auD (_:True:=by decide):True:=⟨⟩
local macro_rules|`($t⁻¹)=>`(autoParam $t auR._auto_1)
local macro_rules|`(~~~$t)=>`(autoParam $t auD._auto_1)
noncomputable abbrev At:=@PySem.wpAny_bind
noncomputable abbrev AC:=@PySem.wpAny_pure
noncomputable abbrev AT:=@PySem.wpAny_mono
noncomputable abbrev BT:=@PySem.Heap.get?_push_of_some
noncomputable abbrev Ch:=@PySem.Heap.get?_push_size
noncomputable abbrev Cl:=@PySem.Heap.lt_size
noncomputable abbrev Da:=@PySem.wpAny_field
noncomputable abbrev Db:=@PySem.wpAny_holding
noncomputable abbrev Do:=@List.mem_append_right
noncomputable abbrev Ev:=@List.mem_append_left
noncomputable abbrev EQ:=@List.mem_cons_of_mem
theorem Fa:type_of% @List.mem_cons_self:=@List.mem_cons_self
theorem Fk:type_of% @List.mem_append:=@List.mem_append
noncomputable abbrev Fr:=@List.mem_cons
noncomputable abbrev FB:=@List.mem_map
noncomputable abbrev FM:=@List.mem_singleton
noncomputable abbrev FS:=@List.getElem?_eq_some_iff
noncomputable abbrev F2:=@List.length_eq_zero_iff
noncomputable abbrev F3:=@List.getElem?_set_self
theorem F4:type_of% @List.getElem?_set_ne:=@List.getElem?_set_ne
theorem F5:type_of% @List.length_append:=@List.length_append
theorem F6:type_of% @List.length_map:=@List.length_map
theorem F7:type_of% @List.all_eq_true:=@List.all_eq_true
theorem F8:type_of% @List.append_assoc:=@List.append_assoc
noncomputable abbrev F9:=@Nat.lt_of_lt_of_le
noncomputable abbrev Ga:=@Nat.lt_of_le_of_lt
noncomputable abbrev Gb:=@Nat.le_trans
noncomputable abbrev Gc:=@Nat.ne_of_lt
noncomputable abbrev Gd:=@Nat.le_refl
noncomputable abbrev Ge:=@decide_eq_true
noncomputable abbrev Gf:=@decide_eq_false
noncomputable abbrev Gg:=@Bool.and_eq_true_iff
noncomputable abbrev Gh:=@Bool.false_ne_true
noncomputable abbrev Gi:=@Option.some.inj
noncomputable abbrev Gj:=@Int.emod_nonneg
noncomputable abbrev Gk:=@Int.emod_lt_of_pos
namespace L2
open PySem PySem.Spec PyProof.Rows
noncomputable abbrev Key:=Sum Int Str
noncomputable def xC:Key->Value->Bool
 |.inl k,v=>Value.isInt k v
 |.inr x,v=>Value.isStrOf x v
noncomputable def Fn (w:World):Key->Int
 |.inl k=>hashInt k
 |.inr x=>hashStr w x
theorem bp:∀{k:Key} {v:Value},xC k v=true->(∃i t,k=Sum.inl i∧v=Value.int i t)∨(∃x t,k=Sum.inr x∧v=Value.str x t)
 |.inl i,v,h=>by
  obtain ⟨t,e⟩:=Value.isInt_shape (k:=i) (v:=v) h;exact .inl ⟨i,t,rfl,e⟩
 |.inr x,v,h=>by
  obtain ⟨t,e⟩:=Value.isStrOf_shape (x:=x) (v:=v) h;exact .inr ⟨x,t,rfl,e⟩
theorem BF (a b:Int):decide ((Sum.inl a:Key)=Sum.inl b)=(a==b):=by
 by_cases e:a=b
 ·subst e;simp
 ·have h:¬(Sum.inl a:Key)=Sum.inl b:=fun q=>e (Sum.inl.inj q);rw [Gf h];exact (beq_eq_false_iff_ne.mpr e).symm
theorem BI (a b:Str):decide ((Sum.inr a:Key)=Sum.inr b)=decide (a=b):=by
 by_cases e:a=b
 ·subst e;simp
 ·have h:¬(Sum.inr a:Key)=Sum.inr b:=fun q=>e (Sum.inr.inj q);rw [Gf h,Gf e]
theorem BG (a:Int) (b:Str):decide ((Sum.inl a:Key)=Sum.inr b)=false:=Gf (fun q=>nomatch q)
theorem BH (a:Str) (b:Int):decide ((Sum.inr a:Key)=Sum.inl b)=false:=Gf (fun q=>nomatch q)
noncomputable def pY (prog:Program) (w:World):PySem.KeyKind prog w Key where
 is:=xC
 hash:=Fn w
 inj:=fun v a b ha hb=>by
  rcases bp ha with ⟨i,t,rfl,rfl⟩|⟨x,t,rfl,rfl⟩
  ·rcases bp hb with ⟨j,u,rfl,e⟩|⟨y,u,rfl,e⟩
   ·injection e with e1 _;rw [e1]
   ·exact nomatch e
  ·rcases bp hb with ⟨j,u,rfl,e⟩|⟨y,u,rfl,e⟩
   ·exact nomatch e
   ·injection e with e1 _;rw [e1]
 byValue:=fun k v h=>by
  rcases bp h with ⟨i,t,rfl,rfl⟩|⟨x,t,rfl,rfl⟩<;>rfl
 pyHash:=fun hv h=>by
  rcases bp hv with ⟨i,t,rfl,rfl⟩|⟨x,t,rfl,rfl⟩
  ·exact wpAny_pyHash_int h
  ·exact wpAny_pyHash_str h
 eqBool:=fun hu hv h=>by
  rcases bp hu with ⟨i,t,rfl,rfl⟩|⟨x,t,rfl,rfl⟩
  ·rcases bp hv with ⟨j,u,rfl,rfl⟩|⟨y,u,rfl,rfl⟩
   ·rw [BF] at h;exact wpAny_eqBool_int h
   ·rw [BG] at h;exact SeqAt.EqAt.int_str i t y u _ _ _ _ h
  ·rcases bp hv with ⟨j,u,rfl,rfl⟩|⟨y,u,rfl,rfl⟩
   ·rw [BH] at h;exact SeqAt.EqAt.str_int x t j u _ _ _ _ h
   ·rw [BI] at h;exact wpAny_eqBool_str h
 «strs»:=fun k x t v h=>by
  rcases bp h with ⟨i,u,rfl,e⟩|⟨y,u,rfl,e⟩
  ·exact nomatch e
  ·injection e with e1 _;subst e1;cases v<;>rfl
inductive V where
 |non|bl (b:Bool)|int (i:Int)|str (x:Str)|byt (b:Array UInt8)|flt (b:UInt64)|ref (a:Addr)|ty (n:String)
 deriving DecidableEq
noncomputable def RelV:V->Value->Prop
 |.non,u=>u=Value.none
 |.bl b,u=>u=Value.bool b
 |.int i,u=>∃t,u=Value.int i t
 |.str x,u=>∃t,u=Value.str x t
 |.byt b,u=>∃t,u=Value.bytes b t
 |.flt b,u=>∃t,u=Value.float b t
 |.ref a,u=>u=Value.ref a
 |.ty n,u=>u=Value.type n
noncomputable abbrev Vals:List V->List Value->Prop:=Paired RelV
theorem Vals.length {xs:List V} {us:List Value} (r:Vals xs us):xs.length=us.length:=Paired.length r
theorem Vals.get:∀{xs:List V} {us:List Value} {i:Nat} {x:V},Vals xs us->xs[i]?=some x->∃u,us[i]?=some u∧RelV x u
 |_,_,_,_,.nil,e=>by simp at e
 |_,_,0,_,.cons r _,e=>by simp at e;subst e;exact ⟨_,rfl,r⟩
 |_,_,i+1,x,.cons _ t,e=>by
  obtain ⟨u,h1,h2⟩:=Vals.get (i:=i) (x:=x) t (by simpa using e);exact ⟨u,by simpa using h1,h2⟩
theorem Vals.append:∀{xs ys:List V} {us ws:List Value},Vals xs us->Vals ys ws->Vals (xs++ys) (us++ws)
 |_,_,_,_,.nil,s=>s
 |_,_,_,_,.cons r t,s=>.cons r (Vals.append t s)
noncomputable def bQ:Option V->Option Value->Prop
 |some v,some u=>RelV v u
 |none,none=>True
 |_,_=>False
noncomputable def KV {κ:Type}:List (κ×V)->List (κ×Value)->Prop:=Paired fun (p:κ×V) (q:κ×Value)=>p.1=q.1∧RelV p.2 q.2
noncomputable def kV:Key->V
 |.inl i=>.int i
 |.inr x=>.str x
inductive HO where
 |lst (xs:List V)
 |tup (xs:List V)
 |dK (kvs:List (Key×V))|dT (kvs:List (List Key×V))
 |set (S:Int->Bool) (n:Nat)
 |ins (C dx:Addr) (fs:List (Str×V))
 |own (x:Addr)
 |xd (fs:List (Str×V))
 |met (f x:Addr)
 |rng (lo hi:Int)
 |frz (o:Obj) (u:HO)
 |tbl (ps:Array Value)
 |ext (φ:Heap->Prop)
noncomputable abbrev Hp:=Addr->Option HO
noncomputable def upd (H:Hp) (a:Addr) (o:HO):Hp:=fun b=>if b=a then some o else H b
theorem aD:upd H a o a=some o:=by unfold upd;rw [if_pos rfl]
theorem ah (h:b≠a):upd H a o b=H b:=by unfold upd;rw [if_neg h]
theorem Al:upd (upd H a o) a u=upd H a u:=by
 funext b;unfold upd;split<;>rfl
theorem aC {H:Hp} {a b:Addr} {o:HO} (h:H a=some o) (h':H b=none):a≠b:=by
 intro e;subst e;rw [h] at h';cases h'
section
variable (P:Program) (w:World)
noncomputable def aX (H:Hp) (h:Heap) (a:Addr):HO->Prop
 |.lst xs=>xs.length<=sizeLine∧∃(its:List Value) (n:Nat),Vals xs its∧h.get? a=some {cls:=.type "list",data:=.seq its.toArray n}
 |.tup xs=>xs.length<=sizeLine∧∃its:List Value,Vals xs its∧IsTup h a its.toArray
 |.dK kvs=>kvs.length<=sizeLine∧(a==sysModules)=false∧∃vs,KV kvs vs∧h.DictOf (pY P w) a vs
 |.dT kvs=>kvs.length<=sizeLine∧(a==sysModules)=false∧∃xs:List (List Key×Addr×Value),
   Paired (fun (p:List Key×V) (q:List Key×Addr×Value)=>p.1=q.1∧H q.2.1=some (.tup (p.1.map kV))∧RelV p.2 q.2.2) kvs xs∧
   ∃o es ep,h.get? a=some o∧o.ExactDict∧o.data=.dict es ep∧es.toList=xs.map (entryOfKey (tupleKind (pY P w)))∧(xs.map (·.1)).Nodup
 |.set S n=>h.SetOf (intKind P w) a S n
 |.ins C dx fs=>H dx=some (.own a)∧fs.length<=1000∧dx≠a∧h.get? a=some (PySem.W.instObj C dx)∧
   ∃mA,h.Ns1 dx mA∧(∀f,bQ (fs.lookup f) (mA f))∧PySem.Within mA (fs.map (·.1))
 |.own _=>∃o,h.get? a=some o
 |.xd fs=>∃mA,h.Ns1 a mA∧∀f,bQ (fs.lookup f) (mA f)
 |.rng lo hi=>∃t u v,h.get? a=some {cls:=.type "range",data:=.fields #[.int lo t,.int hi u,.int 1 v]}
 |.frz o u=>h.get? a=some o∧aX H h a u
 |.tbl ps=>h.get? a=some {cls:=.none,data:=.fields ps}
 |.met f x=>h.get? a=some (PySem.W.methodObj (.ref f) (.ref x))
 |.ext φ=>φ h∧(∃o,h.get? a=some o)∧∀h1 h2:Heap,φ h1->(∀o,h1.get? a=some o->h2.get? a=some o)->φ h2
noncomputable def HOk (H:Hp) (h:Heap):Prop:=∀a o,H a=some o->aX P w H h a o
end
section
variable {P:Program} {w:World} {H H':Hp} {h h':Heap} {a:Addr} {o:HO}
theorem aX.lt (x:aX P w H h a o):a<h.objs.size:=by
 cases o with
 |lst xs=>obtain ⟨_,_,_,_,e⟩:=x;exact Cl e
 |tup xs=>obtain ⟨_,_,_,p⟩:=x;exact p.lt
 |dK kvs=>obtain ⟨_,_,_,_,o,_,_,e,_⟩:=x;exact Cl e
 |dT kvs=>obtain ⟨_,_,_,_,o,_,_,e,_⟩:=x;exact Cl e
 |set S n=>obtain ⟨o,_,_,_,e,_⟩:=x;exact Cl e
 |ins C dx fs=>obtain ⟨_,_,_,e,_⟩:=x;exact Cl e
 |own y=>obtain ⟨_,e⟩:=x;exact Cl e
 |xd fs=>obtain ⟨_,⟨_,_,_,e,_⟩,_⟩:=x;exact Cl e
 |rng lo hi=>obtain ⟨_,_,_,e⟩:=x;exact Cl e
 |frz ob u=>obtain ⟨e,_⟩:=x;exact Cl e
 |tbl ps=>exact Cl (show h.get? a=some _ from x)
 |met f y=>exact Cl (show h.get? a=some _ from x)
 |ext φ=>obtain ⟨_,⟨_,e⟩,_⟩:=x;exact Cl e
theorem Paired.BX {α β:Type} {F G:α->β->Prop}:∀{l₁:List α} {l₂:List β},Paired F l₁ l₂->(∀a b,F a b->G a b)->Paired G l₁ l₂
 |_,_,.nil,_=>.nil
 |_,_,.cons r t,f=>.cons (f _ _ r) (Paired.BX t f)
theorem aX.fE (x:aX P w H h a o) (k:∀b u,(b=a∨H b=some (.own a))->h.get? b=some u->h'.get? b=some u)
  (ho:∀b,H b=some (.own a)->H' b=some (.own a)) (ht:∀b xs,H b=some (.tup xs)->H' b=some (.tup xs)):aX P w H' h' a o:=by
 induction o with
 |lst xs=>obtain ⟨z,its,n,r,e⟩:=x;exact ⟨z,its,n,r,k _ _ (.inl rfl) e⟩
 |tup xs=>obtain ⟨z,its,r,ob,e,c⟩:=x;exact ⟨z,its,r,ob,k _ _ (.inl rfl) e,c⟩
 |dK kvs=>obtain ⟨z,y,vs,r,ob,es,ep,e,c⟩:=x;exact ⟨z,y,vs,r,ob,es,ep,k _ _ (.inl rfl) e,c⟩
 |dT kvs=>
  obtain ⟨z,y,xs,r,ob,es,ep,e,c⟩:=x;exact ⟨z,y,xs,Paired.BX r fun p q z=>⟨z.1,ht _ _ z.2.1,z.2.2⟩,ob,es,ep,k _ _ (.inl rfl) e,c⟩
 |set S n=>obtain ⟨ob,es,ep,t,e,c⟩:=x;exact ⟨ob,es,ep,t,k _ _ (.inl rfl) e,c⟩
 |ins C dx fs=>
  obtain ⟨d,z,ne,e,mA,⟨od,es,ep,e2,c⟩,r⟩:=x;exact ⟨ho _ d,z,ne,k _ _ (.inl rfl) e,mA,⟨od,es,ep,k _ _ (.inr d) e2,c⟩,r⟩
 |own y=>obtain ⟨ob,e⟩:=x;exact ⟨ob,k _ _ (.inl rfl) e⟩
 |xd fs=>obtain ⟨mA,⟨od,es,ep,e,c⟩,r⟩:=x;exact ⟨mA,⟨od,es,ep,k _ _ (.inl rfl) e,c⟩,r⟩
 |rng lo hi=>obtain ⟨t,u,v,e⟩:=x;exact ⟨t,u,v,k _ _ (.inl rfl) e⟩
 |frz ob u ih=>obtain ⟨e,q⟩:=x;exact ⟨k _ _ (.inl rfl) e,ih q⟩
 |tbl ps=>
  have e:h.get? a=some {cls:=.none,data:=.fields ps}:=x;show h'.get? a=some {cls:=.none,data:=.fields ps};exact k a _ (.inl rfl) e
 |met f y=>
  have e:h.get? a=some (PySem.W.methodObj (.ref f) (.ref y)):=x;show h'.get? a=some (PySem.W.methodObj (.ref f) (.ref y));exact k a _ (.inl rfl) e
 |ext φ=>obtain ⟨p,⟨o,e⟩,st⟩:=x;exact ⟨st _ _ p fun o q=>k _ _ (.inl rfl) q,⟨o,k _ _ (.inl rfl) e⟩,st⟩
theorem HOk.lt (x:HOk P w H h) (e:H a=some o):a<h.objs.size:=(x a o e).lt
theorem HOk.fresh (x:HOk P w H h) (e:h.objs.size<=a):H a=none:=by
 cases q:H a with
 |none=>rfl
 |some u=>exact absurd (F9 (x.lt q) e) (Nat.lt_irrefl _)
theorem HOk.kept (x:HOk P w H h) (k:∀b u,h.get? b=some u->h'.get? b=some u):HOk P w H h':=fun a o e=>
 (x a o e).fE (fun b u _ q=>k b u q) (fun _ q=>q) fun _ _ q=>q
theorem HOk.laid (x:HOk P w H h) (k:∀b u,h.get? b=some u->h'.get? b=some u) (hp:h.objs.size<=a) (new:aX P w (upd H a o) h' a o):HOk P w (upd H a o) h':=fun b u e=>by
 have hn:=x.fresh hp
 by_cases hb:b=a
 ·subst hb;rw [aD] at e;cases e;exact new
 ·rw [ah hb] at e;exact (x b u e).fE (fun c v _ q=>k c v q) (fun c q=>by rw [ah (aC q hn)];exact q) fun c xs q=>by rw [ah (aC q hn)];exact q
end
noncomputable def Rd (H:Hp) (a:Addr) (u:HO):Prop:=H a=some u∨∃o,H a=some (.frz o u)
theorem Rd.ok {P:Program} {w:World} {H:Hp} {h:Heap} {a:Addr} {u:HO} (r:Rd H a u) (x:HOk P w H h):aX P w H h a u:=by
 rcases r with r|⟨o,r⟩
 ·exact x a u r
 ·obtain ⟨_,q⟩:=x a _ r;exact q
noncomputable def Mut:Option HO->Prop
 |some (.lst _)=>True
 |some (.dK _)=>True
 |some (.dT _)=>True
 |some (.set _ _)=>True
 |some (.ins _ _ _)=>True
 |some (.ext _)=>True
 |_=>False
section
variable {P:Program} {w:World} {H:Hp} {h h':Heap} {x e:Addr} {o':HO}
theorem HOk.write (ok:HOk P w H h) (mu:Mut (H x)) (he:e=x∨H e=some (.own x)) (k:∀b u,b≠e->h.get? b=some u->h'.get? b=some u) (heo:∃u,h'.get? e=some u)
  (new:aX P w (upd H x o') h' x o'):HOk P w (upd H x o') h':=fun b u q=>by
 have nown:∀c y,H c=some (.own y)->c≠x:=fun c y r z=>by subst z;rw [r] at mu;exact mu
 have ntup:∀c xs,H c=some (.tup xs)->c≠x:=fun c xs r z=>by subst z;rw [r] at mu;exact mu
 by_cases hb:b=x
 ·subst hb;rw [aD] at q;cases q;exact new
 ·rw [ah hb] at q
  by_cases hbe:b=e
  ·have q':H b=some (.own x):=by
    rcases he with z|z
    ·exact absurd (hbe.trans z) hb
    ·rw [hbe];exact z
   rw [q] at q';cases q';obtain ⟨v,hv⟩:=heo;exact ⟨v,by rw [hbe];exact hv⟩
  ·refine (ok b u q).fE (fun c v hc r=>k c v ?_ r) (fun c r=>by rw [ah (nown c b r)];exact r) fun c xs r=>by rw [ah (ntup c xs r)];exact r
   rcases hc with rfl|hc
   ·exact hbe
   ·rintro rfl;rcases he with z|z
    ·exact nown c b hc z
    ·rw [hc] at z;cases z;exact hb rfl
end
structure Un (fs ex:List Addr) (H H':Hp) (h h':Heap):Prop where
 keep:∀b o,h.get? b=some o->H b=none->b∉fs->b∉ex->h'.get? b=some o
 slot:∀b o,h.get? b=some o->H b=none->b∈fs->b∉ex->∃sl,h'.get? b=some {o with slots:=sl}
 free:∀b o,h.get? b=some o->H b=none->b∉ex->H' b=none
 there:∀b o,h.get? b=some o->b∉ex->∃o',h'.get? b=some o'
 fZ:∀b xs,H b=some (.tup xs)->H' b=some (.tup xs)
 fj:∀b o u,H b=some (.frz o u)->H' b=some (.frz o u)
 fY:∀b ps,H b=some (.tbl ps)->∃more,H' b=some (.tbl (ps++more))
section
variable {fs fs' ex ex':List Addr} {H H1 H2:Hp} {h h1 h2 h':Heap} {a x e:Addr} {o:HO}
theorem Un.any (u:Un fs ex H H1 h h1) {b:Addr} {ob:Obj} (q:h.get? b=some ob) (n:H b=none) (hx:b∉ex):∃sl,h1.get? b=some {ob with slots:=sl}:=by
 by_cases hb:b∈fs
 ·exact u.slot b ob q n hb hx
 ·exact ⟨ob.slots,u.keep b ob q n hb hx⟩
theorem Un.kept (k:∀b u,h.get? b=some u->h'.get? b=some u):Un fs ex H H h h':=
 ⟨fun b ob q _ _ _=>k b ob q,fun b ob q _ _ _=>⟨ob.slots,k b ob q⟩,fun _ _ _ n _=>n,fun b ob q _=>⟨ob,k b ob q⟩,fun _ _ q=>q,fun _ _ _ q=>q,fun _ ps q=>⟨#[],by rw [q];simp⟩⟩
theorem Un.refl:Un fs ex H H h h:=Un.kept fun _ _ q=>q
theorem Un.laid (k:∀b u,h.get? b=some u->h'.get? b=some u) (hp:h.objs.size<=a) (hn:H a=none):Un fs ex H (upd H a o) h h' where
 keep:=fun b u q _ _ _=>k b u q
 slot:=fun b u q _ _ _=>⟨u.slots,k b u q⟩
 free:=fun b u q n _=>by rw [ah (Gc (F9 (Cl q) hp))];exact n
 there:=fun b u q _=>⟨u,k b u q⟩
 fZ:=fun b xs q=>by rw [ah (aC q hn)];exact q
 fj:=fun b u xs q=>by rw [ah (aC q hn)];exact q
 fY:=fun b ps q=>⟨#[],by rw [ah (aC q hn),q];simp⟩
theorem Un.write (mu:Mut (H x)) (he:e=x∨H e=some (.own x)) (k:∀b u,b≠e->h.get? b=some u->h'.get? b=some u) (heo:∃u,h'.get? e=some u):Un fs ex H (upd H x o) h h':=by
 have hx:∀b,H b=none->b≠x:=fun b n z=>by subst z;rw [n] at mu;exact mu
 have hb:∀b,H b=none->b≠e:=fun b n z=>by
  subst z;rcases he with r|r
  ·exact hx b n r
  ·rw [n] at r;cases r
 have hm:∀b u,H b=some u->¬Mut (some u)->b≠x:=fun b u q nm z=>by subst z;rw [q] at mu;exact nm mu
 refine ⟨fun b u q n _ _=>k b u (hb b n) q,fun b u q n _ _=>⟨u.slots,k b u (hb b n) q⟩,fun b u q n _=>by rw [ah (hx b n)];exact n,fun b u q _=>?_,
  fun b xs q=>by rw [ah (hm b _ q fun z=>z)];exact q,fun b u xs q=>by rw [ah (hm b _ q fun z=>z)];exact q,fun b ps q=>⟨#[],by rw [ah (hm b _ q fun z=>z),q];simp⟩⟩
 by_cases hbe:b=e
 ·subst hbe;exact heo
 ·exact ⟨u,k b u hbe q⟩
end
noncomputable def trk (h:Heap) (H:Hp):List Addr:=(List.range h.objs.size).filter fun a=>(H a).isSome
noncomputable def gO (h:Heap) (H:Hp):Heap:=PySem.W.hideAll h (trk h H)
theorem s_ (h:Heap) (H:Hp):(gO h H).objs.size=h.objs.size:=PySem.W.hideAll_size _ _
theorem vJ (e:h.get? b=some o) (n:H b=none):(gO h H).get? b=some o:=
 PySem.W.hideAll_get _ e fun hm=>by
  have q:(H b).isSome=true:=(List.mem_filter.mp hm).2;rw [n] at q;simp at q
theorem zq (e:(gO h H).get? b=some o):h.get? b=some o∧H b=none:=by
 have e':h.get? b=some o:=PySem.W.of_hideAll (trk h H) e;refine ⟨e',?_⟩;cases q:H b with
 |none=>rfl
 |some x=>
  have hm:b∈trk h H:=List.mem_filter.mpr ⟨List.mem_range.mpr (Cl e'),by simp [q]⟩;have z:(gO h H).get? b=none:=PySem.W.hideAll_none (trk h H) hm;rw [z] at e;cases e
noncomputable def xX (g h:Heap) (L:Addr):List (Addr×Obj):=(List.range h.objs.size).filterMap fun a=>if a=L∨(g.get? a).isSome=true then none else (h.get? a).map fun o=>(a,o)
noncomputable def rest (g h:Heap) (L d:Addr):List (Addr×Obj):=(xX g h L).filter fun p=>decide (p.1≠d)
structure Mod (K:PySem.W.Frag) (mg:Str->Option Value) (base:Heap):Prop where
 kin:K.In base
 glob:base.Ns mainGlobals mg
 blt:∃mb,base.Ns builtinsNs mb∧∀x:Str,x≠"__name__"->mb x=bootBuiltins x
 nolimit:base.NoLimit
structure Cx where
 prog:Program
 w:World
 K:PySem.W.Frag
 mg:Str->Option Value
 base:Heap
 A:Around
 N:List Str
 s₀:Shared
 H₀:Hp
 env:Env
 outer:List Env
 stack:List Env
 ex:List Addr
 fn:Str->Bool
 calm:Bool
 pn:List (Addr×Obj)
 xe:Value->Shared->Prop
noncomputable def frs (l:List Env):List Addr:=l.filterMap (·.frame)
noncomputable abbrev Cx.fs (X:Cx):List Addr:=frs X.outer
noncomputable def Vis (sc:Scope) (x:Str):Prop:=sc.names.lookup x=some .local∨sc.names.lookup x=some .cell∨sc.names.lookup x=some .free
noncomputable def Loc (sc:Scope) (x:Str):Prop:=sc.names.lookup x=some .local∨sc.names.lookup x=some .cell
noncomputable def Look (env:Env) (h:Heap) (m:Str->Option Value) (x:Str) (u:Value):Prop:=
 (env.kindOf x=some .local∧m x=some u)∨((env.kindOf x=some .cell∨env.kindOf x=some .free)∧∃c,env.cells.lookup x=some c∧h.IsCell c (some u))
structure Cx.Ok (X:Cx):Prop where
 mod:Mod X.K X.mg X.base
 kind:X.env.scope.kind=.function
 glob:X.env.globals=mainGlobals
 blt:X.env.builtins=builtinsNs
 above:X.s₀.heap.objs.size<=X.env.locals
 inj:∀x y c,X.env.cells.lookup x=some c->X.env.cells.lookup y=some c->x=y
 has:∀x,(X.env.kindOf x=some .cell∨X.env.kindOf x=some .free)->∃c,X.env.cells.lookup x=some c
 cab:∀x c,X.fn x=true->X.env.cells.lookup x=some c->X.s₀.heap.objs.size<=c
 hd:X.calm=true->X.A.handled=none
 frames:X.A.frames=some X.stack
 stk:X.stack=X.outer∨(X.stack=X.env::X.outer∧X.env.frame=some X.env.locals)
 exf:∀b∈X.ex,b≠X.env.locals∧∀x c,X.env.cells.lookup x=some c->c≠b
 bs:∀b o,X.base.get? b=some o->X.s₀.heap.get? b=some o∧X.H₀ b=none
 bsz:X.base.objs.size<=X.s₀.heap.objs.size
 gY:∀b o,X.base.get? b=some o->b∉X.ex
 jK:∀b∈X.ex,b∉X.fs
 c7:X.s₀.heap.FunFrames X.base X.outer
 frf:∀b∈X.fs,X.H₀ b=none
structure Inv (X:Cx) (pins:List (Addr×Obj)) (σ:List (Option V)) (H:Hp) (s:Shared):Prop where
 ok:X.Ok
 os:s.os=X.s₀.os
 bare:AllBare s.gens
 base:Un X.fs X.ex X.H₀ H X.s₀.heap s.heap
 loc:∃m,s.heap.Ns X.env.locals m∧∀(i:Nat) (x:Str) (v:V),X.N[i]?=some x->σ[i]?=some (some v)->Vis X.env.scope x->∃u,RelV v u∧Look X.env s.heap m x u
 cell:∀x c,X.env.cells.lookup x=some c->∃v,s.heap.IsCell c v
 free:H X.env.locals=none
 bX:∀x c,X.env.cells.lookup x=some c->H c=none
 pin:∀p∈X.pn++pins,s.heap.get? p.1=some p.2∧H p.1=none∧p.1≠X.env.locals∧p.1∉X.fs∧∀v,p.2.data≠.cell v
 hok:HOk X.prog X.w H s.heap
 len:σ.length=X.N.length
section
variable {X:Cx} {pins:List (Addr×Obj)} {σ:List (Option V)} {H H':Hp} {s:Shared} {h':Heap}
theorem Cx.Ok.FE (ok:X.Ok) (e:X.base.get? b=some o):b∉X.fs:=fun hb=>by
 have:=(ok.c7.mem hb).1;rw [e] at this;cases this
theorem Inv.bs (I:Inv X pins σ H s):∀b o,X.base.get? b=some o->s.heap.get? b=some o∧H b=none:=fun b o e=>
 ⟨I.base.keep b o (I.ok.bs b o e).1 (I.ok.bs b o e).2 (I.ok.FE e) (I.ok.gY b o e),I.base.free b o (I.ok.bs b o e).1 (I.ok.bs b o e).2 (I.ok.gY b o e)⟩
theorem Inv.bk (I:Inv X pins σ H s):∀b o,X.base.get? b=some o->s.heap.get? b=some o:=fun b o e=>(I.bs b o e).1
theorem Inv.mod (I:Inv X pins σ H s):Mod X.K X.mg X.base:=I.ok.mod
theorem Inv.kIn (I:Inv X pins σ H s):X.K.In s.heap:=I.ok.mod.kin.keeps I.bk
theorem Inv.lt (I:Inv X pins σ H s):X.env.locals<s.heap.objs.size:=let ⟨_,hn,_⟩:=I.loc;hn.lt
theorem Inv.sz (I:Inv X pins σ H s):X.s₀.heap.objs.size<=s.heap.objs.size:=Gb I.ok.above (Nat.le_of_lt I.lt)
theorem Inv.B3 (I:Inv X pins σ H s) (h:s.heap.objs.size<=a):a∉X.fs:=fun hb=>by
 obtain ⟨_,o,ho,_⟩:=I.ok.c7.mem hb;exact absurd (F9 (Cl ho) (Gb I.sz h)) (Nat.lt_irrefl _)
theorem Inv.cne (I:Inv X pins σ H s):∀x c,X.env.cells.lookup x=some c->c≠X.env.locals:=fun x c e z=>by
 obtain ⟨v,o,ho,hd⟩:=I.cell x c e;obtain ⟨m,⟨o',es,ep,ho',hd',_⟩,_⟩:=I.loc;rw [z,ho'] at ho;cases ho;rw [hd'] at hd;cases hd
theorem Inv.c7 (I:Inv X pins σ H s):s.heap.FunFrames X.base X.outer:=by
 have all:∀(l:List Env),(∀b∈frs l,b∈X.fs)->X.s₀.heap.FunFrames X.base l->s.heap.FunFrames X.base l:=by
  intro l
  induction l with
  |nil=>intro _ _;trivial
  |cons env r ih=>
   intro hs hl;obtain ⟨hk,⟨L,o,hf,hn,ho,hd⟩,hr⟩:=hl;have hL:L∈X.fs:=hs L (by unfold frs;rw [List.filterMap_cons,hf];exact Fa);obtain ⟨sl,e⟩:=I.base.slot L o ho (I.ok.frf L hL) hL fun z=>I.ok.jK L z hL;exact ⟨hk,⟨L,_,hf,hn,e,hd⟩,ih (fun b hb=>hs b (by unfold frs;rw [List.filterMap_cons,hf];exact EQ _ hb)) hr⟩
 exact all X.outer (fun _ hb=>hb) I.ok.c7
theorem Inv.stack (I:Inv X pins σ H s):s.heap.FunFrames X.base X.stack:=by
 rcases I.ok.stk with e|⟨e,hf⟩
 ·rw [e];exact I.c7
 ·rw [e];obtain ⟨m,hn,_⟩:=I.loc;refine .cons (by rw [I.ok.kind];decide) hf hn ?_ I.c7;exact Heap.get?_none_of_le (Gb I.ok.bsz I.ok.above)
theorem Inv.gv (I:Inv X pins σ H s):∀b∈frs X.stack,b∈X.env.locals::X.fs:=fun b hb=>by
 rcases I.ok.stk with e|⟨e,hf⟩
 ·rw [e] at hb;exact EQ _ hb
 ·rw [e] at hb;unfold frs at hb;rw [List.filterMap_cons,hf] at hb;exact hb
theorem Inv.lQ (I:Inv X pins σ H s):∀b∈frs X.stack,H b=none:=fun b hb=>by
 rcases Fr.mp (I.gv b hb) with e|hb
 ·rw [e];exact I.free
 ·obtain ⟨_,o,ho,_⟩:=I.ok.c7.mem hb;exact I.base.free b o ho (I.ok.frf b hb) fun z=>I.ok.jK b z hb
theorem Inv.step {g':Array GenState} {t':Nat} {d':Drawn} {ch:List Addr} (I:Inv X pins σ H s)
  (hch:∀b∈ch,(b∈X.ex∨X.s₀.heap.objs.size<=b)∧b≠X.env.locals∧(∀x c,X.env.cells.lookup x=some c->c≠b)∧∀p∈X.pn++pins,p.1≠b)
  (keep:∀b o,b≠X.env.locals->b∉X.fs->b∉ch->s.heap.get? b=some o->H b=none->h'.get? b=some o)
  (slot:∀b o,b≠X.env.locals->b∈X.fs->b∉ch->s.heap.get? b=some o->H b=none->∃sl,h'.get? b=some {o with slots:=sl}) (free:∀b o,b∉ch->s.heap.get? b=some o->H b=none->H' b=none)
  (there:∀b o,b∉ch->s.heap.get? b=some o->∃o',h'.get? b=some o')
  (fZ:∀b xs,H b=some (.tup xs)->H' b=some (.tup xs)) (fj:∀b o u,H b=some (.frz o u)->H' b=some (.frz o u)) (fY:∀b ps,H b=some (.tbl ps)->∃more,H' b=some (.tbl (ps++more)))
  (ns:∀m,s.heap.Ns X.env.locals m->h'.Ns X.env.locals m) (hok:HOk X.prog X.w H' h') (hg:AllBare g'):
  Inv X pins σ H' {s with heap:=h',gens:=g',drawn:=d',toks:=t'}:=by
 have neL:∀b o,X.s₀.heap.get? b=some o->b≠X.env.locals:=fun b o e=>Gc (F9 (Cl e) I.ok.above);have neC:∀b o,X.s₀.heap.get? b=some o->b∉X.ex->b∉ch:=fun b o e hx hb=>by
  rcases (hch b hb).1 with z|z
  ·exact hx z
  ·exact absurd (F9 (Cl e) z) (Nat.lt_irrefl _)
 have cellK:∀x c,X.env.cells.lookup x=some c->∀v,s.heap.IsCell c v->h'.IsCell c v:=fun x c e v ⟨o,ho,hd⟩=>by
  have nch:c∉ch:=fun z=>(hch c z).2.2.1 x c e rfl
  by_cases hc:c∈X.fs
  ·obtain ⟨sl,q⟩:=slot c o (I.cne x c e) hc nch ho (I.bX x c e);exact ⟨_,q,hd⟩
  ·exact ⟨o,keep c o (I.cne x c e) hc nch ho (I.bX x c e),hd⟩
 refine ⟨I.ok,I.os,hg,⟨fun b o e n hb hx=>?_,fun b o e n hb hx=>?_,fun b o e n hx=>?_,fun b o e hx=>?_,fun b xs e=>fZ b xs (I.base.fZ b xs e),fun b o xs e=>fj b o xs (I.base.fj b o xs e),fun b ps e=>?_⟩,?_,fun x c e=>?_,?_,fun x c e=>?_,fun p hp=>?_,hok,I.len⟩
 ·exact keep b o (neL b o e) hb (neC b o e hx) (I.base.keep b o e n hb hx) (I.base.free b o e n hx)
 ·obtain ⟨sl,e1⟩:=I.base.slot b o e n hb hx;obtain ⟨sl',e2⟩:=slot b _ (neL b o e) hb (neC b o e hx) e1 (I.base.free b o e n hx);exact ⟨sl',e2⟩
 ·obtain ⟨o',e1⟩:=I.base.there b o e hx;exact free b o' (neC b o e hx) e1 (I.base.free b o e n hx)
 ·obtain ⟨o',e1⟩:=I.base.there b o e hx;exact there b o' (neC b o e hx) e1
 ·obtain ⟨m1,e1⟩:=I.base.fY b ps e;obtain ⟨m2,e2⟩:=fY b _ e1;exact ⟨m1++m2,by rw [e2,Array.append_assoc]⟩
 ·obtain ⟨m,hn,hl⟩:=I.loc;refine ⟨m,ns m hn,fun i x v e1 e2 e3=>?_⟩;obtain ⟨u,r,l⟩:=hl i x v e1 e2 e3;refine ⟨u,r,?_⟩;rcases l with l|⟨k,c,e,z⟩
  ·exact .inl l
  ·exact .inr ⟨k,c,e,cellK x c e _ z⟩
 ·obtain ⟨v,z⟩:=I.cell x c e;exact ⟨v,cellK x c e v z⟩
 ·obtain ⟨m,⟨o,_,_,ho,_⟩,_⟩:=I.loc;exact free _ o (fun z=>(hch _ z).2.1 rfl) ho I.free
 ·obtain ⟨v,o,ho,hd⟩:=I.cell x c e;exact free c o (fun z=>(hch c z).2.2.1 x c e rfl) ho (I.bX x c e)
 ·obtain ⟨e,n,ne,nf,d⟩:=I.pin p hp;have nch:p.1∉ch:=fun z=>(hch p.1 z).2.2.2 p hp rfl;exact ⟨keep p.1 p.2 ne nf nch e n,free p.1 p.2 nch e n,ne,nf,d⟩
theorem Inv.un {t':Nat} (I:Inv X pins σ H s) (u:Un X.fs [] H H' s.heap h') (hok:HOk X.prog X.w H' h'):Inv X pins σ H' {s with heap:=h',toks:=t'}:=by
 obtain ⟨m,⟨o,es,ep,ho,r⟩,_⟩:=id I.loc;obtain ⟨sl,hL⟩:=u.any ho I.free (by simp);exact I.step (g':=s.gens) (d':=s.drawn) (ch:=[]) (fun _ z=>nomatch z) (fun b o _ hb _ e n=>u.keep b o e n hb (by simp)) (fun b o _ hb _ e n=>u.slot b o e n hb (by simp)) (fun b o _ e n=>u.free b o e n (by simp)) (fun b o _ e=>u.there b o e (by simp)) u.fZ u.fj u.fY (fun m' hm=>by
  obtain ⟨o',es',ep',ho',r'⟩:=hm;rw [ho] at ho';cases ho';exact ⟨_,es',ep',hL,r'⟩) hok I.bare
theorem Inv.call {g':Array GenState} {t':Nat} {d':Drawn} {ch:List Addr} (I:Inv X pins σ H s) (u:Un (frs X.stack) ch H H' s.heap h') (hok:HOk X.prog X.w H' h') (hg:AllBare g')
  (hch:∀b∈ch,(b∈X.ex∨X.s₀.heap.objs.size<=b)∧b≠X.env.locals∧(∀x c,X.env.cells.lookup x=some c->c≠b)∧∀p∈X.pn++pins,p.1≠b):
  Inv X pins σ H' {s with heap:=h',gens:=g',drawn:=d',toks:=t'}:=by
 obtain ⟨m,⟨o,es,ep,ho,r⟩,_⟩:=id I.loc;obtain ⟨sl,hL⟩:=u.any ho I.free fun z=>(hch _ z).2.1 rfl;exact I.step (ch:=ch) hch (fun b o hL hb hc e n=>u.keep b o e n (fun z=>(Fr.mp (I.gv b z)).elim hL hb) hc) (fun b o _ _ hc e n=>u.any e n hc) (fun b o hc e n=>u.free b o e n hc) (fun b o hc e=>u.there b o e hc) u.fZ u.fj u.fY (fun m' hm=>by
  obtain ⟨o',es',ep',ho',r'⟩:=hm;rw [ho] at ho';cases ho';exact ⟨_,es',ep',hL,r'⟩) hok hg
theorem Inv.turned {t':Nat} {it:Addr} (I:Inv X pins σ H s) (k:∀b o,b≠it->s.heap.get? b=some o->h'.get? b=some o) (hn:H it=none) (hL:it≠X.env.locals)
  (h1:it∈X.ex∨X.s₀.heap.objs.size<=it) (h2:∀x c,X.env.cells.lookup x=some c->c≠it) (h3:∀p∈X.pn++pins,p.1≠it):Inv X pins σ H {s with heap:=h',toks:=t'}:=by
 have nit:∀b u,H b=some u->b≠it:=fun b u e z=>by rw [z,hn] at e;cases e
 refine I.step (g':=s.gens) (d':=s.drawn) (ch:=[it]) (fun b hb=>?_) (fun b o _ _ hc e _=>k b o (fun z=>hc (by simp [z])) e) (fun b o _ _ hc e _=>⟨o.slots,k b o (fun z=>hc (by simp [z])) e⟩) (fun _ _ _ _ n=>n)
  (fun b o hc e=>⟨o,k b o (fun z=>hc (by simp [z])) e⟩) (fun _ _ e=>e) (fun _ _ _ e=>e) (fun b ps e=>⟨#[],by rw [e];simp⟩) (fun m hm=>?_) (fun b u e=>?_) I.bare
 ·have e:b=it:=by simpa using hb
  subst e;exact ⟨h1,hL,h2,h3⟩
 ·obtain ⟨o,es,ep,ho,r⟩:=hm;exact ⟨o,es,ep,k _ o (Ne.symm hL) ho,r⟩
 ·refine (I.hok b u e).fE (fun c v hc q=>k c v ?_ q) (fun _ q=>q) fun _ _ q=>q;rcases hc with z|z
  ·rw [z];exact nit b u e
  ·exact nit c _ z
theorem Inv.tok (I:Inv X pins σ H s) (t:Nat):Inv X pins σ H {s with toks:=t}:=I.un (h':=s.heap) (t':=t) Un.refl I.hok
theorem Inv.kept {t':Nat} (I:Inv X pins σ H s) (k:∀b u,s.heap.get? b=some u->h'.get? b=some u):Inv X pins σ H {s with heap:=h',toks:=t'}:=I.un (Un.kept k) (I.hok.kept k)
theorem Inv.laid {a:Addr} {o:HO} {t':Nat} (I:Inv X pins σ H s) (k:∀b u,s.heap.get? b=some u->h'.get? b=some u) (hp:s.heap.objs.size<=a) (new:aX X.prog X.w (upd H a o) h' a o):
  Inv X pins σ (upd H a o) {s with heap:=h',toks:=t'}:=I.un (Un.laid k hp (I.hok.fresh hp)) (I.hok.laid k hp new)
theorem Inv.write {t':Nat} (I:Inv X pins σ H s) (mu:Mut (H x)) (he:e=x∨H e=some (.own x)) (k:∀b u,b≠e->s.heap.get? b=some u->h'.get? b=some u) (heo:∃u,h'.get? e=some u)
  (new:aX X.prog X.w (upd H x o) h' x o):Inv X pins σ (upd H x o) {s with heap:=h',toks:=t'}:=I.un (Un.write mu he k heo) (I.hok.write mu he k heo new)
theorem Inv.weak (I:Inv X pins σ H s) (hl:σ'.length=σ.length) (w:∀(i:Nat) v,σ'[i]?=some (some v)->σ[i]?=some (some v)):Inv X pins σ' H s:=
 ⟨I.ok,I.os,I.bare,I.base,let ⟨m,hn,hl'⟩:=I.loc;⟨m,hn,fun i x v e1 e2 e3=>hl' i x v e1 (w i v e2) e3⟩,I.cell,I.free,I.bX,I.pin,I.hok,hl.trans I.len⟩
theorem Inv.lJ (I:Inv X pins σ H s) (h:∀p∈pins',s.heap.get? p.1=some p.2∧H p.1=none∧p.1≠X.env.locals∧p.1∉X.fs∧∀v,p.2.data≠.cell v):Inv X pins' σ H s:=
 ⟨I.ok,I.os,I.bare,I.base,I.loc,I.cell,I.free,I.bX,fun p hp=>(Fk.mp hp).elim (fun z=>I.pin p (Ev _ z)) (h p),I.hok,I.len⟩
theorem jU {N:List Str} (hN:N.Nodup) {i j:Nat} {x:Str} (a:N[i]?=some x) (b:N[j]?=some x):i=j:=by
 obtain ⟨h1,e1⟩:=FS.mp a;obtain ⟨h2,e2⟩:=FS.mp b;exact (List.getElem_inj hN).mp (e1.trans e2.symm)
theorem iS {M:Model} {A:Around} {E:Value->Shared->Prop} {i:Nat} {x:Str} {v:V} {u:Value} {Q:Unit->Shared->Prop} (I:Inv X pins σ H s) (hN:X.N.Nodup) (hi:X.N[i]?=some x) (hx:Loc X.env.scope x) (r:RelV v u)
  (h:∀s',Inv X pins (σ.set i (some v)) H s'->(∃a,Heap.SameBut a s.heap s'.heap∧(a=X.env.locals∨X.env.cells.lookup x=some a))->Q () s') (hf:X.fn x=true∨X.env.scope.names.lookup x=some .local:=by first|exact .inl rfl|exact .inr rfl|assumption):wpAny M A (storeName X.env x u) Q E s:=by
 obtain ⟨m,hn,hl⟩:=id I.loc;have hcls:(X.env.scope.kind==.class||(X.env.scope.kind==.module&&X.env.locals !=X.env.globals))=false:=by rw [I.ok.kind];rfl
 have hiσ:i<σ.length:=by rw [I.len];exact (FS.mp hi).1
 have cne:=I.cne;have tracked:∀{a:Addr} {h':Heap},(∃o,s.heap.get? a=some o∧H a=none)->Heap.SameBut a s.heap h'->HOk X.prog X.w H h':=fun {a h'} ha hs b ob e=>by
  obtain ⟨_,_,hfree⟩:=ha;refine (I.hok b ob e).fE (fun c w' hc q=>(hs.2 c ?_).trans q) (fun _ q=>q) fun _ _ q=>q;rintro rfl;rcases hc with rfl|hc
  ·rw [hfree] at e;cases e
  ·rw [hfree] at hc;cases hc
 rcases hx with hk|hk
 ·refine wpAny_storeName_local hk hn (fun h' hn' hs=>?_) hcls;obtain ⟨oL,_,_,hoL,_⟩:=id hn;refine h _ ⟨I.ok,I.os,I.bare,⟨fun b o e n hb hx=>?_,fun b o e n hb hx=>?_,I.base.free,fun b o e hx=>?_,I.base.fZ,I.base.fj,I.base.fY⟩,⟨_,hn',fun j y v' e1 e2 e3=>?_⟩,fun y c e=>?_,I.free,I.bX,fun p hp=>?_,tracked ⟨oL,hoL,I.free⟩ hs,by simpa using I.len⟩ ⟨_,hs,.inl rfl⟩
  ·exact (hs.2 b (Gc (F9 (Cl e) I.ok.above))).trans (I.base.keep b o e n hb hx)
  ·obtain ⟨sl,e1⟩:=I.base.slot b o e n hb hx;exact ⟨sl,(hs.2 b (Gc (F9 (Cl e) I.ok.above))).trans e1⟩
  ·obtain ⟨o',e1⟩:=I.base.there b o e hx;exact ⟨o',(hs.2 b (Gc (F9 (Cl e) I.ok.above))).trans e1⟩
  ·by_cases hj:j=i
   ·subst hj;rw [hi] at e1;cases e1;rw [F3 hiσ] at e2;cases e2;exact ⟨u,r,.inl ⟨hk,by simp⟩⟩
   ·rw [F4 (Ne.symm hj)] at e2;obtain ⟨u',r',q⟩:=hl j y v' e1 e2 e3;refine ⟨u',r',?_⟩;rcases q with ⟨k,e⟩|⟨k,c,e,z⟩
    ·refine .inl ⟨k,?_⟩;have:y≠x:=fun e=>hj (jU hN e1 (e▸hi));simp [this,e]
    ·exact .inr ⟨k,c,e,z.sameBut hs (cne y c e)⟩
  ·obtain ⟨w',z⟩:=I.cell y c e;exact ⟨w',z.sameBut hs (cne y c e)⟩
  ·obtain ⟨e,n,ne,nf,d⟩:=I.pin p hp;exact ⟨(hs.2 p.1 ne).trans e,n,ne,nf,d⟩
 ·have hfn:X.fn x=true:=by
   rcases hf with z|z
   ·exact z
   ·rw [z] at hk;cases hk
  obtain ⟨c,hc⟩:=I.ok.has x (.inl hk);obtain ⟨w',z⟩:=I.cell x c hc;refine wpAny_storeName_cell I.ok.kind hk hc z (fun h' hc' hs=>?_);obtain ⟨oc,hoc,hocd⟩:=id z;refine h {s with heap:=h'} ⟨I.ok,I.os,I.bare,⟨fun b o e n hb hx=>?_,fun b o e n hb hx=>?_,I.base.free,fun b o e hx=>?_,I.base.fZ,I.base.fj,I.base.fY⟩,⟨m,hn.sameBut hs (Ne.symm (cne x c hc)),fun j y v' e1 e2 e3=>?_⟩,fun y c' e=>?_,I.free,I.bX,fun p hp=>?_,tracked ⟨oc,hoc,I.bX x c hc⟩ hs,by simpa using I.len⟩ ⟨c,hs,.inr hc⟩
  ·exact (hs.2 b (Gc (F9 (Cl e) (I.ok.cab x c hfn hc)))).trans (I.base.keep b o e n hb hx)
  ·obtain ⟨sl,e1⟩:=I.base.slot b o e n hb hx;exact ⟨sl,(hs.2 b (Gc (F9 (Cl e) (I.ok.cab x c hfn hc)))).trans e1⟩
  ·obtain ⟨o',e1⟩:=I.base.there b o e hx;exact ⟨o',(hs.2 b (Gc (F9 (Cl e) (I.ok.cab x c hfn hc)))).trans e1⟩
  ·by_cases hj:j=i
   ·subst hj;rw [hi] at e1;cases e1;rw [F3 hiσ] at e2;cases e2;exact ⟨u,r,.inr ⟨.inl hk,c,hc,hc'⟩⟩
   ·rw [F4 (Ne.symm hj)] at e2;obtain ⟨u',r',q⟩:=hl j y v' e1 e2 e3;refine ⟨u',r',?_⟩;rcases q with q|⟨k,c',e,z'⟩
    ·exact .inl q
    ·refine .inr ⟨k,c',e,z'.sameBut hs ?_⟩;rintro rfl;exact hj (jU hN e1 (I.ok.inj _ _ _ e hc▸hi))
  ·by_cases hcc:c'=c
   ·subst hcc;exact ⟨_,hc'⟩
   ·obtain ⟨w2,z2⟩:=I.cell y c' e;exact ⟨w2,z2.sameBut hs hcc⟩
  ·obtain ⟨e,n,ne,nf,d⟩:=I.pin p hp;refine ⟨(hs.2 p.1 ?_).trans e,n,ne,nf,d⟩;intro q;rw [q,hoc] at e;have q':oc=p.2:=Gi e;exact d w' (by rw [←q'];exact hocd)
theorem d3 {M:Model} {A:Around} {E:Value->Shared->Prop} {i:Nat} {x:Str} {v:V} {u:Value} {Q:Unit->Shared->Prop} (I:Inv X pins σ H s) (hN:X.N.Nodup) (hi:X.N[i]?=some x) (hx:Loc X.env.scope x) (r:RelV v u)
  (h:∀s',Inv X pins (σ.set i (some v)) H s'->Q () s') (hf:X.fn x=true∨X.env.scope.names.lookup x=some .local:=by first|exact .inl rfl|exact .inr rfl|assumption):wpAny M A (storeName X.env x u) Q E s:=
 iS I hN hi hx r (fun s' I' _=>h s' I') hf
theorem Inv.wQ (I:Inv X pins σ H s) (ho:s'.os=s.os) (u:Un (frs X.stack) ch H H' s.heap s'.heap) (hok:HOk X.prog X.w H' s'.heap) (hg:AllBare s'.gens)
  (hch:∀b∈ch,(b∈X.ex∨X.s₀.heap.objs.size<=b)∧b≠X.env.locals∧(∀x c,X.env.cells.lookup x=some c->c≠b)∧∀p∈X.pn++pins,p.1≠b):Inv X pins σ H' s':=by
 obtain ⟨h',g',d',t',o'⟩:=s';have e:o'=s.os:=ho;subst e;exact I.call (g':=g') (t':=t') (d':=d') u hok hg hch
end
noncomputable abbrev XK:=Value->Option Addr->Hp->Prop
noncomputable abbrev St:=List (Option V)
noncomputable abbrev VK:=V->Hp->Prop
noncomputable abbrev TE:=St->Hp->VK->Prop
noncomputable abbrev TT:=St->Hp->(Bool->Hp->Prop)->Prop
noncomputable abbrev TA:=St->Hp->(List V->Hp->Prop)->Prop
structure Ends where
 nx:St->Hp->Prop
 rt:VK
 bk:St->Hp->Prop:=fun _ _=>False
 ct:St->Hp->Prop:=fun _ _=>False
noncomputable abbrev TS:=Ends->St->Hp->Prop
noncomputable def EP (X:Cx) (pins:List (Addr×Obj)) (σ:St) (Q:VK) (u:Value) (s':Shared):Prop:=∃v H',Inv X pins σ H' s'∧RelV v u∧Q v H'
noncomputable def TP (X:Cx) (pins:List (Addr×Obj)) (σ:St) (Q:Bool->Hp->Prop) (b:Bool) (s':Shared):Prop:=∃H',Inv X pins σ H' s'∧Q b H'
noncomputable def AP (X:Cx) (pins:List (Addr×Obj)) (σ:St) (Q:List V->Hp->Prop) (us:List Value) (s':Shared):Prop:=∃vs H',Inv X pins σ H' s'∧Vals vs us∧Q vs H'
noncomputable def SP (X:Cx) (pins:List (Addr×Obj)) (D:Ends) (f:Flow) (s':Shared):Prop:=
 match f with
 |.next=>∃σ' H',Inv X pins σ' H' s'∧D.nx σ' H'
 |.brk=>∃σ' H',Inv X pins σ' H' s'∧D.bk σ' H'
 |.cont=>∃σ' H',Inv X pins σ' H' s'∧D.ct σ' H'
 |.ret u=>∃v σ' H',Inv X pins σ' H' s'∧RelV v u∧D.rt v H'
noncomputable def PE (X:Cx) (e:Expr) (t:TE):Prop:=
 ∀(pins:List (Addr×Obj)) (s:Shared) (σ:St) (H:Hp) (Q:VK),Inv X pins σ H s->t σ H Q->wpAny (model X.prog X.w) X.A (eval e X.env) (EP X pins σ Q) X.xe s
noncomputable def PT (X:Cx) (e:Expr) (t:TT):Prop:=
 ∀(pins:List (Addr×Obj)) (s:Shared) (σ:St) (H:Hp) (Q:Bool->Hp->Prop),Inv X pins σ H s->t σ H Q->wpAny (model X.prog X.w) X.A (isTrue e X.env (eval e X.env)) (TP X pins σ Q) X.xe s
noncomputable def PW (X:Cx) (e:Expr) (t:TT):Prop:=
 ∀(whole:Sem Value) (pins:List (Addr×Obj)) (s:Shared) (σ:St) (H:Hp) (Q:Bool->Hp->Prop),Inv X pins σ H s->t σ H Q->wpAny (model X.prog X.w) X.A (isTrue e X.env whole) (TP X pins σ Q) X.xe s
theorem PW.pt {X:Cx} {e:Expr} {t:TT} (h:PW X e t):PT X e t:=h _
noncomputable def PA (X:Cx) (es:List Expr) (t:TA):Prop:=
 ∀(pos:Pos) (pins:List (Addr×Obj)) (s:Shared) (σ:St) (H:Hp) (Q:List V->Hp->Prop),Inv X pins σ H s->t σ H Q->wpAny (model X.prog X.w) X.A (spliced (backTo pos (starEach es X.env))) (AP X pins σ Q) X.xe s
noncomputable def PS (X:Cx) (st:Stmt) (t:TS):Prop:=
 ∀(pins:List (Addr×Obj)) (s:Shared) (σ:St) (H:Hp) (D:Ends),Inv X pins σ H s->t D σ H->wpAny (model X.prog X.w) X.A (exec st X.env) (SP X pins D) X.xe s
noncomputable def PSs (X:Cx) (st:List Stmt) (t:TS):Prop:=
 ∀(pins:List (Addr×Obj)) (s:Shared) (σ:St) (H:Hp) (D:Ends),Inv X pins σ H s->t D σ H->wpAny (model X.prog X.w) X.A (execs st X.env) (SP X pins D) X.xe s
theorem thn {α:Type} {t:Sem α} {Q Q':α->Shared->Prop} {M:Model} {A:Around} {E:Value->Shared->Prop} {s:Shared} (h:wpAny M A t Q E s) (hQ:∀a s,Q a s->Q' a s):wpAny M A t Q' E s:=AT h hQ fun _ _ x=>x
section
variable {X:Cx}
noncomputable def FZ (i:Nat):TE:=fun σ H Q=>∃v,σ[i]?=some (some v)∧Q v H
noncomputable def tC (v:V):TE:=fun _ H Q=>Q v H
theorem fC (hN:X.N[i]?=some x) (hv:Vis X.env.scope x) (hd: ~~~((x==("__debug__":Str))=false)) (hcd: ~~~((x==("__classdict__":Str))=false)):PE X (.Name x pos) (FZ i):=by
 intro pins s σ H Q I h;obtain ⟨v,e,h⟩:=h;obtain ⟨m,hn,hl⟩:=I.loc;obtain ⟨u,r,l⟩:=hl i x v hN e hv;have fin:EP X pins σ Q u s:=⟨v,H,I,r,h⟩
 rcases l with ⟨hk,hm⟩|⟨hk,c,hc,hcell⟩
 ·exact wpAny_Name (wpAny_loadName_local I.ok.kind hk hn hm fin) hd
 ·rcases hk with hk|hk
  ·exact wpAny_Name (wpAny_loadName_cell I.ok.kind hk hc hcell fin) hd
  ·exact wpAny_Name (wpAny_loadName_free I.ok.kind hk hc hcell fin hcd) hd
theorem Cq {i j pos}:PE X (.Constant (.int i) j pos) (tC (.int i)):=fun _ _ _ H _ I h=>wpAny_Constant_int ⟨.int i,H,I.tok _,⟨_,rfl⟩,h⟩
theorem Ej {b j pos}:PE X (.Constant (.bool b) j pos) (tC (.bl b)):=fun _ _ _ H _ I h=>Constant_bool ⟨.bl b,H,I,rfl,h⟩
theorem Cr {j pos}:PE X (.Constant .none j pos) (tC .non):=fun _ _ _ H _ I h=>Constant_none ⟨.non,H,I,rfl,h⟩
theorem Cu {x j pos}:PE X (.Constant (.str x) j pos) (tC (.str x)):=fun _ _ _ H _ I h=>Calls.Constant_str ⟨.str x,H,I.tok _,⟨_,rfl⟩,h⟩
noncomputable def Gl (X:Cx) (x:Str):Prop:=X.env.kindOf x=some .globalImplicit
theorem dS {E:Value->Shared->Prop} {pins:List (Addr×Obj)} {s:Shared} {σ:St} {H:Hp} {x:Str} {u:Value} {pos:Pos} {Q:Value->Shared->Prop} (I:Inv X pins σ H s) (hg:Gl X x) (hm:X.mg x=some u) (h:Q u s)
  (hd: ~~~((x==("__debug__":Str))=false)):wpAny (model X.prog X.w) X.A (eval (.Name x pos) X.env) Q E s:=
 Calls.Name_function_global I.ok.kind hg (Calls.loadGlobal_global (by rw [I.ok.glob];exact I.mod.glob.keeps I.bk) hm h) hd
theorem fA {E:Value->Shared->Prop} {pins:List (Addr×Obj)} {s:Shared} {σ:St} {H:Hp} {x:Str} {u:Value} {pos:Pos} {Q:Value->Shared->Prop} (I:Inv X pins σ H s) (hg:Gl X x) (hm:X.mg x=none) (hv:bootBuiltins x=some u) (h:Q u s)
  (hn: ~~~(x≠"__name__")) (hd: ~~~((x==("__debug__":Str))=false)):wpAny (model X.prog X.w) X.A (eval (.Name x pos) X.env) Q E s:=by
 obtain ⟨mb,h1,h2⟩:=I.mod.blt;exact Calls.Name_function_global I.ok.kind hg (Calls.loadGlobal_builtin (by rw [I.ok.glob];exact I.mod.glob.keeps I.bk) hm (by rw [I.ok.blt];exact h1.keeps I.bk) ((h2 x hn).trans hv) h) hd
theorem qd (hg:Gl X x) (hm:X.mg x=some u) (r:RelV v u) (hd: ~~~((x==("__debug__":Str))=false)):PE X (.Name x pos) (tC v):=
 fun _ _ _ H _ I h=>dS I hg hm ⟨v,H,I,r,h⟩ hd
theorem zC (hg:Gl X x) (hm:X.mg x=none) (hv:bootBuiltins x=some u) (r:RelV v u) (hn: ~~~(x≠"__name__")) (hd: ~~~((x==("__debug__":Str))=false)):PE X (.Name x pos) (tC v):=
 fun _ _ _ H _ I h=>fA I hg hm hv ⟨v,H,I,r,h⟩ hn hd
variable {a b:Expr} {ta tb:TE} {pos:Pos}
noncomputable def tB (t:TE):TT:=fun σ H Q=>t σ H fun x H1=>∃c,x=.bl c∧Q c H1
theorem CJ {e:Expr} {t:TE} (h:PE X e t) (he:∀whole,isTrue e X.env whole=(do let v←whole;standAt e.pos;holding [v] (truthy v)):=by intro _;rfl):PT X e (tB t):=by
 intro pins s σ H Q I hw;refine isTrue_plain (thn (h pins s σ H _ I hw) fun v s1 ⟨x,H1,I1,r1,q1⟩=>?_) (he _);obtain ⟨d,rfl,q⟩:=q1;cases r1;exact wpAny_truthy_bool ⟨H1,I1,q⟩
variable {tA tB':TT} {rest:List Expr}
noncomputable def FL (t u:TT):TT:=fun σ H Q=>t σ H fun c H1=>if c=true then u σ H1 Q else Q false H1
noncomputable def tOr (t u:TT):TT:=fun σ H Q=>t σ H fun c H1=>if c=true then Q true H1 else u σ H1 Q
noncomputable def FT (t:TT):TT:=fun σ H Q=>t σ H fun c H1=>Q (!c) H1
theorem zY (ha:PT X a tA):PW X (.BoolOp .And [a] pos) tA:=by
 intro wh pins s σ H Q I h;refine isTrue_and (thn (ha pins s σ H Q I h) fun c s1 e=>?_);cases c with
 |true=>exact isTrue_and_nil e
 |false=>exact e
theorem CL (ha:PT X a tA):PW X (.BoolOp .Or [a] pos) tA:=by
 intro wh pins s σ H Q I h;refine isTrue_or (thn (ha pins s σ H Q I h) fun c s1 e=>?_);cases c with
 |false=>exact isTrue_or_nil e
 |true=>exact e
theorem uf (ha:PT X a tA) (hb:PW X (.BoolOp .And (b::rest) pos) tB'):PW X (.BoolOp .And (a::b::rest) pos) (FL tA tB'):=by
 intro wh pins s σ H Q I h;refine isTrue_and (thn (ha pins s σ H _ I h) fun c s1 ⟨H1,I1,q1⟩=>?_);cases c with
 |true=>exact hb wh pins s1 σ H1 Q I1 q1
 |false=>exact ⟨H1,I1,q1⟩
theorem xS (ha:PT X a tA) (hb:PW X (.BoolOp .Or (b::rest) pos) tB'):PW X (.BoolOp .Or (a::b::rest) pos) (tOr tA tB'):=by
 intro wh pins s σ H Q I h;refine isTrue_or (thn (ha pins s σ H _ I h) fun c s1 ⟨H1,I1,q1⟩=>?_);cases c with
 |true=>exact ⟨H1,I1,q1⟩
 |false=>exact hb wh pins s1 σ H1 Q I1 q1
theorem CI (ha:PT X a tA):PT X (.UnaryOp .Not a pos) (FT tA):=by
 intro pins s σ H Q I h;exact isTrue_not (ha pins s σ H (fun c H1=>Q (!c) H1) I h)
noncomputable def Ex (ta tb:TE):TE:=fun σ H Q=>ta σ H fun x H1=>∃c,x=.bl c∧if c=true then tb σ H1 Q else Q (.bl false) H1
noncomputable def FU (ta tb:TE):TE:=fun σ H Q=>ta σ H fun x H1=>∃c,x=.bl c∧if c=true then Q (.bl true) H1 else tb σ H1 Q
noncomputable def EE (ta:TE):TE:=fun σ H Q=>ta σ H fun x H1=>∃c,x=.bl c∧Q (.bl (!c)) H1
theorem Ct {op} (h:PE X a t):PE X (.BoolOp op [a] pos) t:=fun pins s σ H Q I hw=>BoolOp_one (h pins s σ H Q I hw)
theorem tR (ha:PE X a ta) (hb:PE X (.BoolOp .And (b::rest) pos) tb):PE X (.BoolOp .And (a::b::rest) pos) (Ex ta tb):=by
 intro pins s σ H Q I h;refine BoolOp_and (thn (ha pins s σ H _ I h) fun v s1 ⟨x,H1,I1,r1,q1⟩=>?_);obtain ⟨c,rfl,q1⟩:=q1;cases r1;refine wpAny_truthy_bool ?_;cases c with
 |true=>exact hb pins s1 σ H1 Q I1 q1
 |false=>exact ⟨.bl false,H1,I1,rfl,q1⟩
theorem xO (ha:PE X a ta) (hb:PE X (.BoolOp .Or (b::rest) pos) tb):PE X (.BoolOp .Or (a::b::rest) pos) (FU ta tb):=by
 intro pins s σ H Q I h;refine BoolOp_or (thn (ha pins s σ H _ I h) fun v s1 ⟨x,H1,I1,r1,q1⟩=>?_);obtain ⟨c,rfl,q1⟩:=q1;cases r1;refine wpAny_truthy_bool ?_;cases c with
 |false=>exact hb pins s1 σ H1 Q I1 q1
 |true=>exact ⟨.bl true,H1,I1,rfl,q1⟩
theorem Cs (ha:PE X a ta):PE X (.UnaryOp .Not a pos) (EE ta):=by
 intro pins s σ H Q I h;refine UnaryOp_ (thn (ha pins s σ H _ I h) fun v s1 ⟨x,H1,I1,r1,q1⟩=>?_);obtain ⟨c,rfl,q1⟩:=q1;cases r1;exact not_of (wpAny_truthy_bool ⟨.bl (!c),H1,I1,rfl,q1⟩)
noncomputable def tIf (t:TT) (ta tb:TE):TE:=fun σ H Q=>t σ H fun c H1=>if c=true then ta σ H1 Q else tb σ H1 Q
theorem oI {c:Expr} (hc:PT X c tA) (ha:PE X a ta) (hb:PE X b tb):PE X (.IfExp c a b pos) (tIf tA ta tb):=by
 intro pins s σ H Q I h;refine wpAny_IfExp (thn (hc pins s σ H _ I h) fun d s1 ⟨H1,I1,q1⟩=>?_);cases d with
 |true=>exact ha pins s1 σ H1 Q I1 q1
 |false=>exact hb pins s1 σ H1 Q I1 q1
end
noncomputable def SqL (K:PySem.W.Frag) (H:Hp) (a:Addr) (xs:List V):Prop:=
 Rd H a (.lst xs)∨
  ∃(o:Obj) (its:Array Value) (n:Nat),K.lookup a=some o∧o.cls=.type "list"∧o.dict=none∧o.data=.seq its n∧its.size<=sizeLine∧Vals xs its.toList
noncomputable def SqT (K:PySem.W.Frag) (H:Hp) (a:Addr) (xs:List V):Prop:=
 Rd H a (.tup xs)∨
  ∃(o:Obj) (its:Array Value) (n:Nat),K.lookup a=some o∧o.cls=.type "tuple"∧o.data=.seq its n∧its.size<=sizeLine∧Vals xs its.toList
noncomputable def ET:Value->Option V
 |.none=>some .non
 |.bool b=>some (.bl b)
 |.int i _=>some (.int i)
 |.str x _=>some (.str x)
 |.bytes b _=>some (.byt b)
 |.float b _=>some (.flt b)
 |.ref a=>some (.ref a)
 |.type n=>some (.ty n)
 |_=>none
theorem RelV.abs (r:RelV x u):ET u=some x:=by
 cases x with
 |non=>cases r;rfl
 |bl _=>cases r;rfl
 |int _=>obtain ⟨t,rfl⟩:=r;rfl
 |str _=>obtain ⟨t,rfl⟩:=r;rfl
 |byt _=>obtain ⟨t,rfl⟩:=r;rfl
 |flt _=>obtain ⟨t,rfl⟩:=r;rfl
 |ref _=>cases r;rfl
 |ty _=>cases r;rfl
theorem RelV.inj {x y:V} {u:Value} (r:RelV x u) (q:RelV y u):x=y:=Gi (r.abs.symm.trans q.abs)
theorem Vals.inj:∀{xs ys:List V} {us:List Value},Vals xs us->Vals ys us->xs=ys
 |_,_,_,.nil,.nil=>rfl
 |_,_,_,.cons r t,.cons r' t'=>by rw [r.inj r',Vals.inj t t']
section
variable {X:Cx} {pins:List (Addr×Obj)} {σ:St} {H:Hp} {s:Shared} {a:Addr} {xs ys:List V}
theorem Inv.list (I:Inv X pins σ H s) (h:SqL X.K H a xs):∃its:List Value,Vals xs its∧PlainL s.heap a its.toArray∧xs.length<=sizeLine:=by
 rcases h with h|⟨o,its,n,hk,hc,hd,hs,hz,r⟩
 ·obtain ⟨z,its,n,r,e⟩:=h.ok I.hok;exact ⟨its,r,⟨_,n,e,rfl,rfl,rfl⟩,z⟩
 ·refine ⟨its.toList,r,⟨o,n,I.kIn a o hk,hc,hd,by simpa using hs⟩,?_⟩;have e:=r.length;simp only [Array.length_toList] at e;omega
theorem Inv.tuple (I:Inv X pins σ H s) (h:SqT X.K H a xs):∃its:List Value,Vals xs its∧IsTup s.heap a its.toArray∧xs.length<=sizeLine:=by
 rcases h with h|⟨o,its,n,hk,hc,hs,hz,r⟩
 ·obtain ⟨z,its,r,p⟩:=h.ok I.hok;exact ⟨its,r,p,z⟩
 ·refine ⟨its.toList,r,⟨o,I.kIn a o hk,hc,n,by simpa using hs⟩,?_⟩;have e:=r.length;simp only [Array.length_toList] at e;omega
theorem Inv.oq (I:Inv X pins σ H s) (h:SqL X.K H a xs) (h':SqL X.K H a ys):xs=ys:=by
 obtain ⟨its,r,⟨o,n,e,_,_,d⟩,_⟩:=I.list h;obtain ⟨its',r',⟨o',n',e',_,_,d'⟩,_⟩:=I.list h';rw [e] at e';cases e';rw [d] at d';injection d' with d1 _;have:its=its':=by simpa using congrArg Array.toList d1
 subst this;exact r.inj r'
theorem Inv.mF (I:Inv X pins σ H s) (h:SqT X.K H a xs) (h':SqT X.K H a ys):xs=ys:=by
 obtain ⟨its,r,⟨o,e,_,n,d⟩,_⟩:=I.tuple h;obtain ⟨its',r',⟨o',e',_,n',d'⟩,_⟩:=I.tuple h';rw [e] at e';cases e';rw [d] at d';injection d' with d1 _;have:its=its':=by simpa using congrArg Array.toList d1
 subst this;exact r.inj r'
end
noncomputable abbrev Cx.fH (X:Cx) (E:Value->Shared->Prop):Cx:={X with xe:=E}
noncomputable abbrev Cx.nox (X:Cx):Cx:=X.fH fun _ _=>False
theorem Cx.Ok.fH {X:Cx} (ok:X.Ok) (E:Value->Shared->Prop):(X.fH E).Ok:=
 ⟨ok.mod,ok.kind,ok.glob,ok.blt,ok.above,ok.inj,ok.has,ok.cab,ok.hd,ok.frames,ok.stk,ok.exf,ok.bs,ok.bsz,ok.gY,ok.jK,ok.c7,ok.frf⟩
theorem Cx.Ok.dH {X:Cx} {E:Value->Shared->Prop} (ok:(X.fH E).Ok):X.Ok:=
 ⟨ok.mod,ok.kind,ok.glob,ok.blt,ok.above,ok.inj,ok.has,ok.cab,ok.hd,ok.frames,ok.stk,ok.exf,ok.bs,ok.bsz,ok.gY,ok.jK,ok.c7,ok.frf⟩
section
variable {X:Cx} {pins:List (Addr×Obj)} {σ:St} {H:Hp} {s:Shared} {E:Value->Shared->Prop}
theorem Inv.fH (I:Inv X pins σ H s) (E:Value->Shared->Prop):Inv (X.fH E) pins σ H s:=⟨I.ok.fH E,I.os,I.bare,I.base,I.loc,I.cell,I.free,I.bX,I.pin,I.hok,I.len⟩
theorem Inv.dH (I:Inv (X.fH E) pins σ H s):Inv X pins σ H s:=⟨I.ok.dH,I.os,I.bare,I.base,I.loc,I.cell,I.free,I.bX,I.pin,I.hok,I.len⟩
theorem SP.dH (h:SP (X.fH E) pins D f s'):SP X pins D f s':=by
 cases f with
 |next=>obtain ⟨σ',H',I,q⟩:=h;exact ⟨σ',H',I.dH,q⟩
 |brk=>obtain ⟨σ',H',I,q⟩:=h;exact ⟨σ',H',I.dH,q⟩
 |cont=>obtain ⟨σ',H',I,q⟩:=h;exact ⟨σ',H',I.dH,q⟩
 |ret u=>obtain ⟨v,σ',H',I,r,q⟩:=h;exact ⟨v,σ',H',I.dH,r,q⟩
theorem PSs.nox {st:List Stmt} {t:TS} (h:PSs X.nox st t):PSs X st t:=fun pins s σ H D I hw=>
 AT (h pins s σ H D (I.fH _) hw) (fun _ _ q=>q.dH) fun _ _ z=>False.elim z
end
section
variable {X:Cx} {st:Stmt} {rest:List Stmt} {t u:TS} {e:Expr} {te:TE} {pos:Pos}
noncomputable def rH:TS:=fun D σ H=>D.nx σ H
noncomputable def FX (t u:TS):TS:=fun D σ H=>t {D with nx:=u D} σ H
theorem zV:PSs X [] rH:=fun _ _ σ H _ I h=>wpAny_execs_nil ⟨σ,H,I,h⟩
theorem hI (h1:PS X st t) (h2:PSs X rest u):PSs X (st::rest) (FX t u):=by
 intro pins s σ H D I h;refine wpAny_execs_cons (thn (h1 pins s σ H {D with nx:=u D} I h) fun f s1 q=>?_);cases f with
 |next=>
  obtain ⟨σ',H',I',q⟩:=q;exact h2 pins s1 σ' H' D I' q
 |ret v=>exact q
 |brk=>exact q
 |cont=>exact q
theorem zS:PS X (.Pass pos) rH:=fun _ _ σ H _ I h=>wpAny_Pass ⟨σ,H,I,h⟩
theorem Inv.quiet {pins:List (Addr×Obj)} {σ:St} {H:Hp} {s:Shared} (I:Inv X pins σ H s):interactive X.env=false:=by simp [interactive,I.ok.kind]
theorem CC {x j pos pos'}:PS X (.Expr (.Constant (.str x) j pos) pos') rH:=fun _ s σ H _ I h=>wpAny_Expr (Calls.Constant_str (show SP X _ _ .next {s with toks:=s.toks+1} from ⟨σ,H,I.tok _,h⟩)) I.quiet
noncomputable def EA (te:TE):TS:=fun D σ H=>te σ H fun _ H1=>D.nx σ H1
theorem gq (he:PE X e te) (hs:(swapsWith e none pos.line X.env=pure false)⁻¹):PS X (.Expr e pos) (EA te):=by
 intro pins s σ H D I h;exact wpAny_Expr_any (thn (he pins s σ H _ I h) fun v s1 ⟨x,H1,I1,r1,q1⟩=>⟨σ,H1,I1,q1⟩) I.quiet hs
noncomputable def FW (te:TE):TS:=fun D σ H=>te σ H D.rt
theorem kM (he:PE X e te):PS X (.Return (some e) pos) (FW te):=by
 intro pins s σ H D I h;exact wpAny_Return_some (thn (he pins s σ H _ I h) fun v s1 ⟨x,H1,I1,r1,q1⟩=>⟨x,σ,H1,I1,r1,q1⟩)
noncomputable def EI:TS:=fun D _ H=>D.rt .non H
theorem zU:PS X (.Return none pos) EI:=fun _ _ σ H _ I h=>wpAny_Return_none ⟨.non,σ,H,I,rfl,h⟩
noncomputable def FQ (c:TT) (t u:TS):TS:=fun D σ H=>c σ H fun b H1=>if b=true then t D σ H1 else u D σ H1
theorem xQ {c:Expr} {a b:List Stmt} {tc:TT} (hc:PT X c tc) (ha:PSs X a t) (hb:PSs X b u):PS X (.If c a b pos) (FQ tc t u):=by
 intro pins s σ H D I h;refine wpAny_If (thn (hc pins s σ H _ I h) fun d s1 ⟨H1,I1,q1⟩=>?_);cases d with
 |true=>exact ha pins s1 σ H1 D I1 q1
 |false=>exact hb pins s1 σ H1 D I1 q1
noncomputable def C5:TS:=fun _ _ _=>False
theorem mB:PSs X sts C5:=fun _ _ _ _ _ _ h=>h.elim
end
noncomputable abbrev TG:=V->St->Hp->(St->Hp->Prop)->Prop
noncomputable abbrev TGs:=List V->St->Hp->(St->Hp->Prop)->Prop
noncomputable def PG (X:Cx) (target:Expr) (t:TG):Prop:=
 ∀(pins:List (Addr×Obj)) (s:Shared) (σ:St) (H:Hp) (v:V) (u:Value) (Q:St->Hp->Prop),Inv X pins σ H s->RelV v u->t v σ H Q->
  wpAny (model X.prog X.w) X.A (assign target X.env u) (fun _ s'=>∃σ' H',Inv X pins σ' H' s'∧Q σ' H') X.xe s
noncomputable def PGs (X:Cx) (ts:List Expr) (t:TGs):Prop:=
 ∀(pins:List (Addr×Obj)) (s:Shared) (σ:St) (H:Hp) (vs:List V) (us:List Value) (Q:St->Hp->Prop),Inv X pins σ H s->Vals vs us->t vs σ H Q->
  wpAny (model X.prog X.w) X.A (assignInOrder ((assignEach ts X.env).map (·.2)) us) (fun _ s'=>∃σ' H',Inv X pins σ' H' s'∧Q σ' H') X.xe s
section
variable {X:Cx} {pos:Pos}
noncomputable def eJ (i:Nat):TG:=fun v σ H Q=>Q (σ.set i (some v)) H
theorem zJ (hN:X.N.Nodup) (hi:X.N[i]?=some x) (hx:Loc X.env.scope x) (hf:X.fn x=true∨X.env.scope.names.lookup x=some .local:=by first|exact .inl rfl|exact .inr rfl|assumption):PG X (.Name x pos) (eJ i):=by
 intro pins s σ H v u Q I r h;exact wpAny_assign_Name (d3 I hN hi hx r (fun s' I'=>⟨_,H,I',h⟩) hf)
noncomputable def Ff:TGs:=fun vs σ H Q=>vs=[]∧Q σ H
noncomputable def D2 (t:TG) (u:TGs):TGs:=fun vs σ H Q=>∃v r,vs=v::r∧t v σ H fun σ' H'=>u r σ' H' Q
theorem zK:PGs X [] Ff:=by
 intro pins s σ H vs us Q I r h;obtain ⟨e,h⟩:=h;subst e;cases r;exact assignInOrder_nil ⟨σ,H,I,h⟩
theorem wg {e:Expr} {es:List Expr} {t:TG} {u:TGs} (h1:PG X e t) (h2:PGs X es u)
  (hs:((assignEach (e::es) X.env).map (·.2)=assign e X.env::(assignEach es X.env).map (·.2))⁻¹):PGs X (e::es) (D2 t u):=by
 intro pins s σ H vs us Q I r h;obtain ⟨v,vr,e1,h⟩:=h;subst e1;cases r with
 |cons r rr=>
  rw [hs];refine assignInOrder_cons (thn (h1 pins s σ H _ _ _ I r h) fun _ s1 ⟨σ1,H1,I1,q1⟩=>?_);exact h2 pins s1 σ1 H1 _ _ Q I1 rr q1
noncomputable def Fg (K:PySem.W.Frag) (n:Nat) (t:TGs):TG:=fun v σ H Q=>∃a xs,v=.ref a∧SqT K H a xs∧xs.length=n∧t xs σ H Q
theorem Cw (hc:X.calm=true) (h:PGs X es t)
  (hn:((assignEach es X.env).length=n)⁻¹) (hst:((assignEach es X.env).findIdx? (·.1)=none)⁻¹):PG X (.Tuple es k pos) (Fg X.K n t):=by
 intro pins s σ H v u Q I r hw;obtain ⟨a,xs,e1,hq,hl,hw⟩:=hw;subst e1;cases r;obtain ⟨its,rv,ht,hz⟩:=I.tuple hq;refine assign_Tuple_tuple (I.ok.hd hc) ht (by simp [hn,←hl,rv.length]) hst fun h' hx=>?_;have I1:Inv X pins σ H {s with heap:=h'}:=I.kept (t':=s.toks) fun b o e=>hx b o (Gc (Cl e)) e;exact h pins _ σ H xs _ Q I1 (by simpa using rv) hw
noncomputable def lR (te:TE) (g:TG):TS:=fun D σ H=>te σ H fun x H1=>g x σ H1 D.nx
theorem ub {tg e:Expr} {te:TE} {g:TG} (he:PE X e te) (hg:PG X tg g) (hs:(swapsWithSole [tg] e pos.line X.env=pure false)⁻¹) (hw:(swappedStores [tg] e X.env=pure none)⁻¹)
  (h1:((assignEach [tg] X.env).map (·.2)=[assign tg X.env])⁻¹):PS X (.Assign [tg] e pos) (lR te g):=by
 intro pins s σ H D I h;refine wpAny_Assign_stores (thn (he pins s σ H _ I h) fun v s1 ⟨x,H1,I1,r1,q1⟩=>?_) hs hw;rw [h1];exact thn (hg pins s1 σ H1 x v _ I1 r1 q1) fun _ s2 q=>q
theorem oM {i:Nat} {x:Str} {e:Expr} {te:TE} {pos':Pos} (hN:X.N.Nodup) (hi:X.N[i]?=some x) (hx:Loc X.env.scope x) (he:PE X e te) (hs:(swapsWith e (some (.Name x pos')) pos.line X.env=pure false)⁻¹) (hf:X.fn x=true∨X.env.scope.names.lookup x=some .local:=by first|exact .inl rfl|exact .inr rfl|assumption):
  PS X (.Assign [.Name x pos'] e pos) (lR te (eJ i)):=by
 intro pins s σ H D I h;refine wpAny_Assign_Name (thn (he pins s σ H _ I h) fun v s1 ⟨y,H1,I1,r1,q1⟩=>?_) hs;exact d3 I1 hN hi hx r1 (fun s2 I2=>⟨_,H1,I2,q1⟩) hf
noncomputable def FV (i j:Nat) (ta:TA):TS:=fun D σ H=>ta σ H fun vs H1=>∃v w,vs=[v,w]∧D.nx ((σ.set i (some v)).set j (some w)) H1
theorem CH {i j:Nat} {x y:Str} {a b:Expr} {ta:TA} {px py pt:Pos} {kt k2 pt2} (hc:X.calm=true) (hN:X.N.Nodup) (hi:X.N[i]?=some x) (hj:X.N[j]?=some y) (hij:i≠j)
  (hx:X.env.scope.names.lookup x=some .local) (hy:X.env.scope.names.lookup y=some .local) (ha:PA X [a,b] ta)
  (hw:swappedStores [.Tuple [.Name x px,.Name y py] kt pt] (.Tuple [a,b] k2 pt2) X.env=pure (some [x,y]))
  (hs:(swapsWithSole [.Tuple [.Name x px,.Name y py] kt pt] (.Tuple [a,b] k2 pt2) pos.line X.env=pure false)⁻¹):
  PS X (.Assign [.Tuple [.Name x px,.Name y py] kt pt] (.Tuple [a,b] k2 pt2) pos) (FV i j ta):=by
 intro pins s σ H D I h;rw [exec_Assign_arm];refine At (wpAny_standAt ?_);rw [hs];refine At (AC ?_);rw [if_neg (by decide)];refine At (Tuple_ (thn (ha _ pins s σ H _ I h) fun us s1 ⟨vs,H1,I1,r1,q1⟩=>?_));obtain ⟨v,w,e1,q1⟩:=q1;subst e1;obtain ⟨u1,u2,rfl,rv,rw'⟩:∃u1 u2,us=[u1,u2]∧RelV v u1∧RelV w u2:=by
  cases r1 with
  |cons p q=>
   cases q with
   |cons p' q'=>
    cases q';exact ⟨_,_,rfl,p,p'⟩
 refine wpAny_newObj_type ?_ (by show 2<=sizeLine;decide);have I2:Inv X pins σ H1 {s1 with heap:=s1.heap.push {cls:=.type "tuple",data:=.seq [u1,u2].toArray}}:=I1.kept (t':=s1.toks) fun b o e=>BT _ e;rw [hw];refine At (AC ?_);show wpAny (model X.prog X.w) X.A (do rule "assign.swapped-stores";let items←unpackItems (.ref s1.heap.objs.size) 2 none;assignInOrder [fun v=>bindName X.env y v,fun v=>bindName X.env x v] items.reverse;pure Flow.next) _ _ _;refine At (wpAny_rule (At (unpackItems_tuple (items:=#[u1,u2]) (I.ok.hd hc) (IsTup.new s1.heap _) fun h' hx'=>?_)));have I3:=I2.kept (h':=h') (t':=s1.toks) fun b o e=>hx' b o (Gc (Cl e)) e;show wpAny _ _ (assignInOrder [fun v=>bindName X.env y v,fun v=>bindName X.env x v] [u2,u1]>>=fun _=>pure Flow.next) _ _ _;refine At (assignInOrder_cons (wpAny_bindName (d3 I3 hN hj (.inl hy) rw' (fun s2 I4=>?_) (.inr hy))));refine assignInOrder_cons (wpAny_bindName (d3 I4 hN hi (.inl hx) rv (fun s3 I5=>assignInOrder_nil (AC ?_)) (.inr hx)));rw [List.set_comm _ _ (Ne.symm hij)] at I5;exact ⟨_,H1,I5,q1⟩
end
section
variable {X:Cx} {pos:Pos}
noncomputable def C7 (c:TT) (tb:TS):TS:=fun D σ H=>∃W:Nat->St->Hp->Prop,(∃m,W m σ H)∧∀m σ H,W m σ H->
 c σ H fun b H1=>if b=true then ∃N:St->Hp->Prop,(∀σ' H',N σ' H'->∃m',m'<m∧W m' σ' H')∧tb {D with nx:=N,ct:=N,bk:=D.nx} σ H1 else D.nx σ H1
theorem wt {c:Expr} {body:List Stmt} {tc:TT} {tb:TS} (hp:PassesOwn (model X.prog X.w) X.A X.env X.xe) (hc:PT X c tc) (hb:PSs X body tb):PS X (.While c body [] pos) (C7 tc tb):=by
 intro pins s σ H D I h;obtain ⟨W,⟨m0,w0⟩,turn⟩:=h;refine wpAny_While (codeAny_whileLoop (fun n s'=>∃σ' H',Inv X pins σ' H' s'∧W n σ' H') ?_ m0 ⟨σ,H,I,w0⟩);rintro n s1 ⟨σ1,H1,I1,w1⟩;refine wpAny_passesOwn hp (thn (hc pins s1 σ1 H1 _ I1 (turn n σ1 H1 w1)) fun b s2 ⟨H2,I2,q2⟩=>?_);cases b with
 |true=>
  obtain ⟨N,hN,q2⟩:=q2;rw [if_pos rfl];refine wpAny_passesOwn hp (thn (hb pins s2 σ1 H2 _ I2 q2) fun f s3 q3=>?_);cases f with
  |next=>
   obtain ⟨σ3,H3,I3,n3⟩:=q3;obtain ⟨m',hm,w3⟩:=hN σ3 H3 n3;exact ⟨m',hm,σ3,H3,I3,w3⟩
  |cont=>
   obtain ⟨σ3,H3,I3,n3⟩:=q3;obtain ⟨m',hm,w3⟩:=hN σ3 H3 n3;exact ⟨m',hm,σ3,H3,I3,w3⟩
  |brk=>exact q3
  |ret v=>exact q3
 |false=>
  rw [if_neg Gh];exact wpAny_execs_nil ⟨σ1,H2,I2,q2⟩
end
structure It where
 go:Nat->Hp->Prop
 yld:Nat->Hp->V->Hp->Prop
 stop:Nat->Hp->Prop
noncomputable def bj (X:Cx) (pins:List (Addr×Obj)) (H:Hp) (b:Addr):Prop:=
 H b=none∧b≠X.env.locals∧b∉X.fs∧(b∈X.ex∨X.s₀.heap.objs.size<=b)∧(∀x c,X.env.cells.lookup x=some c->c≠b)∧∀p∈X.pn++pins,p.1≠b
theorem Inv.gM {X:Cx} {pins:List (Addr×Obj)} {σ:St} {H H':Hp} {s:Shared} {b:Addr} (I:Inv X pins σ H s) (hb:s.heap.objs.size<=b) (hn:H' b=none):bj X pins H' b:=by
 refine ⟨hn,Nat.ne_of_gt (F9 I.lt hb),I.B3 hb,.inr (Gb I.sz hb),fun x c e z=>?_,fun p hp z=>?_⟩
 ·obtain ⟨v,q⟩:=I.cell x c e;exact absurd (F9 q.lt (by rw [z];exact hb)) (Nat.lt_irrefl _)
 ·exact absurd (F9 (Cl (I.pin p hp).1) (by rw [z];exact hb)) (Nat.lt_irrefl _)
structure Turn (P:Program) (w:World) (K:PySem.W.Frag) (tg:Expr) (J:It) (fp:List Addr) (it:Addr) (tn:Nat->Heap->Prop):Prop where
 mem:it∈fp
 obj:∀i h,tn i h->∀b∈fp,∃o,h.get? b=some o∧∀v,o.data≠.cell v
 keep:∀i h h',tn i h->(∀b∈fp,∀o,h.get? b=some o->h'.get? b=some o)->tn i h'
 item:∀(X:Cx),X.prog=P->X.w=w->X.K=K->X.calm=true->∀(i:Nat) (pins:List (Addr×Obj)) (s:Shared) (σ:St) (H:Hp) (E:Value->Shared->Prop),Inv X pins σ H s->(∀b∈fp,bj X pins H b)->tn i s.heap->J.go i H->
  wpAny (model P w) X.A (pyNext (.ref it)) (fun r s1=>∃u,r=some u∧
   wpAny (model P w) X.A (letOwnedTupleGo tg (.ref it) u) (fun _ s2=>∃x H',Inv X pins σ H' s2∧RelV x u∧J.yld i H x H'∧tn (i+1) s2.heap∧∀b∈fp,H' b=none) E s1) E s
 done:∀(X:Cx),X.prog=P->X.w=w->X.K=K->X.calm=true->∀(i:Nat) (pins:List (Addr×Obj)) (s:Shared) (σ:St) (H:Hp) (E:Value->Shared->Prop),Inv X pins σ H s->(∀b∈fp,bj X pins H b)->tn i s.heap->J.stop i H->
  wpAny (model P w) X.A (pyNext (.ref it)) (fun r s1=>r=none∧Inv X pins σ H s1) E s
 self:∀(A:Around) (i:Nat) (s:Shared) (Q:Value->Shared->Prop) (E:Value->Shared->Prop),tn i s.heap->Q (.ref it) s->wpAny (model P w) A (pyIter (.ref it)) Q E s
noncomputable abbrev TI:=St->Hp->(It->Hp->Prop)->Prop
noncomputable def PIE (X:Cx) (pins:List (Addr×Obj)) (σ:St) (tg:Expr) (R:It->Hp->Prop) (itv:Value) (s2:Shared):Prop:=
 ∃(it:Addr) (fp:List Addr) (tn:Nat->Heap->Prop) (J:It) (H':Hp),itv=.ref it∧Inv X pins σ H' s2∧Turn X.prog X.w X.K tg J fp it tn∧tn 0 s2.heap∧(∀b∈fp,bj X pins H' b)∧R J H'
noncomputable def PI (X:Cx) (tg iter:Expr) (wi:TI):Prop:=
 ∀(pins:List (Addr×Obj)) (s:Shared) (σ:St) (H:Hp) (R:It->Hp->Prop),Inv X pins σ H s->wi σ H R->
  wpAny (model X.prog X.w) X.A (eval iter X.env) (fun v s1=>wpAny (model X.prog X.w) X.A (pyIter v) (PIE X pins σ tg R) X.xe s1) X.xe s
theorem mX (ho:s.heap.get? it=some o) (hc:o.cls=.type n) (hd:o.data=.fields vs)
  (hn:["enumerate","zip","dict_itemiterator","dict_reverseitemiterator","odict_iterator","itertools.zip_longest","itertools.pairwise"].contains n=false) (hQ:Q () s):wpAny M A (letOwnedTupleGo tg (.ref it) u) Q E s:=by
 unfold letOwnedTupleGo;cases tg<;>first
  |exact AC hQ
  |(cases u<;>first
    |exact AC hQ
    |(refine At (wpAny_load ho ?_)
      rw [hc,hd];show wpAny M A (if (["enumerate","zip","dict_itemiterator","dict_reverseitemiterator","odict_iterator","itertools.zip_longest","itertools.pairwise"].contains n&&vs[0]?==some (rawInt _))=true then _ else _) Q E s;rw [if_neg (by intro h;rw [hn,Bool.false_and] at h;cases h)];exact AC hQ))
noncomputable def Itl (K:PySem.W.Frag) (a:Addr):It:=
 ⟨fun i H=>∃xs x,SqL K H a xs∧xs[i]?=some x,fun i H x H'=>H'=H∧∀xs,SqL K H a xs->xs[i]?=some x,fun i H=>∃xs,SqL K H a xs∧xs.length<=i⟩
noncomputable def Itt (K:PySem.W.Frag) (a:Addr):It:=
 ⟨fun i H=>∃xs x,SqT K H a xs∧xs[i]?=some x,fun i H x H'=>H'=H∧∀xs,SqT K H a xs->xs[i]?=some x,fun i H=>∃xs,SqT K H a xs∧xs.length<=i⟩
noncomputable def Itr (lo:Int) (n:Nat):It:=⟨fun i _=>i<n,fun i H x H'=>H'=H∧x=.int (lo+i),fun i _=>n<=i⟩
theorem uA {P:Program} {w:World} {K:PySem.W.Frag} {tg:Expr} (a it:Addr):Turn P w K tg (Itl K a) [it] it (fun i h=>h.IsListIter it a i) where
 mem:=by simp
 obj:=fun i h st b hb=>by
  have e:b=it:=by simpa using hb
  subst e;obtain ⟨o,e,c,d⟩:=st;exact ⟨o,e,fun v z=>by rw [d] at z;cases z⟩
 keep:=fun i h h' st k=>st.at fun o e=>k it (by simp) o e
 item:=by
  intro X hP hw hK hc i pins s σ H E I hf st hg;subst hP hw hK;obtain ⟨xs,x,hq,hx⟩:=hg;obtain ⟨its,rv,p,hz⟩:=I.list hq;obtain ⟨u,hu,ru⟩:=rv.get hx;obtain ⟨f0,f1,f2,f3,f4,f5⟩:=hf it (by simp);refine wpAny_pyNext_list_item st p.isList (x:=u) (by simpa using hu) fun h' st' sb=>?_;have I1:Inv X pins σ H {s with heap:=h'}:=I.turned (t':=s.toks) (fun b o hb e=>(sb.2 b hb).trans e) f0 f1 f3 f4 f5;obtain ⟨o,e,c,d⟩:=id st';exact ⟨u,rfl,mX (s:={s with heap:=h'}) e c d (by decide) ⟨x,H,I1,ru,⟨rfl,fun ys hy=>by rw [I.oq hy hq];exact hx⟩,st',fun b hb=>(hf b hb).1⟩⟩
 done:=by
  intro X hP hw hK hc i pins s σ H E I hf st hg;subst hP hw hK;obtain ⟨xs,hq,hx⟩:=hg;obtain ⟨its,rv,p,hz⟩:=I.list hq;obtain ⟨f0,f1,f2,f3,f4,f5⟩:=hf it (by simp);have hl:=rv.length;exact wpAny_pyNext_list_end (I.ok.hd hc) st p.isList (by simp;omega) fun h' eb=>⟨rfl,I.turned (t':=s.toks) (fun b o hb e=>eb b o hb e) f0 f1 f3 f4 f5⟩
 self:=fun _ _ _ _ _ st h=>wpAny_pyIter_listiter st h
theorem rM {P:Program} {w:World} {K:PySem.W.Frag} {tg:Expr} (a it:Addr):Turn P w K tg (Itt K a) [it] it (fun i h=>h.IsTupleIter it a i) where
 mem:=by simp
 obj:=fun i h st b hb=>by
  have e:b=it:=by simpa using hb
  subst e;obtain ⟨o,e,c,d⟩:=st;exact ⟨o,e,fun v z=>by rw [d] at z;cases z⟩
 keep:=fun i h h' st k=>st.at fun o e=>k it (by simp) o e
 item:=by
  intro X hP hw hK hc i pins s σ H E I hf st hg;subst hP hw hK;obtain ⟨xs,x,hq,hx⟩:=hg;obtain ⟨its,rv,p,hz⟩:=I.tuple hq;obtain ⟨u,hu,ru⟩:=rv.get hx;obtain ⟨f0,f1,f2,f3,f4,f5⟩:=hf it (by simp);refine wpAny_pyNext_tuple_item st (show s.heap.IsTuple a its.toArray from p) (x:=u) (by simpa using hu) fun h' st' sb=>?_;have I1:Inv X pins σ H {s with heap:=h'}:=I.turned (t':=s.toks) (fun b o hb e=>(sb.2 b hb).trans e) f0 f1 f3 f4 f5;obtain ⟨o,e,c,d⟩:=id st';exact ⟨u,rfl,mX (s:={s with heap:=h'}) e c d (by decide) ⟨x,H,I1,ru,⟨rfl,fun ys hy=>by rw [I.mF hy hq];exact hx⟩,st',fun b hb=>(hf b hb).1⟩⟩
 done:=by
  intro X hP hw hK hc i pins s σ H E I hf st hg;subst hP hw hK;obtain ⟨xs,hq,hx⟩:=hg;obtain ⟨its,rv,p,hz⟩:=I.tuple hq;obtain ⟨f0,f1,f2,f3,f4,f5⟩:=hf it (by simp);have hl:=rv.length;exact wpAny_pyNext_tuple_end (I.ok.hd hc) st (show s.heap.IsTuple a its.toArray from p) (by simp;omega) fun h' eb=>⟨rfl,I.turned (t':=s.toks) (fun b o hb e=>eb b o hb e) f0 f1 f3 f4 f5⟩
 self:=fun _ _ _ _ _ st h=>wpAny_pyIter_tupleiter st h
theorem rL {P:Program} {w:World} {K:PySem.W.Frag} {tg:Expr} (it:Addr) (lo:Int) (n:Nat):Turn P w K tg (Itr lo n) [it] it (fun i h=>IsRangeIter h it (lo+(i:Nat)*1) ((n:Int) - (i:Nat)) 1) where
 mem:=by simp
 obj:=fun i h st b hb=>by
  have e:b=it:=by simpa using hb
  subst e;exact ⟨_,st,fun v z=>by
   have z':Data.fields _=Data.cell v:=z;cases z'⟩
 keep:=fun i h h' st k=>k it (by simp) _ st
 item:=by
  intro X hP hw hK hc i pins s σ H E I hf st hg;subst hP hw hK;obtain ⟨f0,f1,f2,f3,f4,f5⟩:=hf it (by simp);have W:=Walks.range (prog:=X.prog) (w:=X.w) (I.ok.hd hc) it lo 1 n;refine W.item i s _ _ hg st fun v h' tk hv st' kk=>?_;obtain ⟨t,rfl⟩:=hv;have I1:Inv X pins σ H {s with heap:=h',toks:=tk}:=I.turned (fun b o hb e=>kk b o (by simpa using hb) e) f0 f1 f3 f4 f5;refine ⟨_,rfl,mX (s:={s with heap:=h',toks:=tk}) (n:="range_iterator") st' rfl rfl (by decide) ⟨.int (lo+i),H,I1,⟨t,?_⟩,⟨rfl,rfl⟩,st',fun b hb=>(hf b hb).1⟩⟩;rw [Int.mul_one]
 done:=by
  intro X hP hw hK hc i pins s σ H E I hf st hg;subst hP hw hK;obtain ⟨f0,f1,f2,f3,f4,f5⟩:=hf it (by simp);exact wpAny_pyNext_range_end (I.ok.hd hc) st (by have:n<=i:=hg;omega) fun h' eb=>⟨rfl,I.turned (t':=s.toks) (fun b o hb e=>eb b o hb e) f0 f1 f3 f4 f5⟩
 self:=fun _ _ _ _ _ st h=>wpAny_pyIter_rangeiter st h
section
variable {X:Cx} {tg:Expr}
noncomputable def D6 (K:PySem.W.Frag) (tl:TE):TI:=fun σ H R=>tl σ H fun x H1=>∃a,x=.ref a∧(∃xs,SqL K H1 a xs)∧R (Itl K a) H1
noncomputable def Fi (K:PySem.W.Frag) (tl:TE):TI:=fun σ H R=>tl σ H fun x H1=>∃a,x=.ref a∧(∃xs,SqT K H1 a xs)∧R (Itt K a) H1
theorem zM {l:Expr} {tl:TE} (hl:PE X l tl):PI X tg l (D6 X.K tl):=by
 intro pins s σ H R I h;refine thn (hl pins s σ H _ I h) fun v s1 ⟨x,H1,I1,r1,q1⟩=>?_;obtain ⟨a,e,⟨xs,hq⟩,q⟩:=q1;subst e;cases r1;obtain ⟨its,rv,p,hz⟩:=I1.list hq;refine wpAny_pyIter_list p.isList ?_;refine ⟨s1.heap.objs.size,[s1.heap.objs.size],_,_,H1,rfl,I1.kept (t':=s1.toks) fun b o e=>BT _ e,uA a _,⟨_,Ch _ rfl,rfl,rfl⟩,fun b hb=>?_,q⟩;have e:b=s1.heap.objs.size:=by simpa using hb
 subst e;exact I1.gM (Gd _) (I1.hok.fresh (Gd _))
theorem Cz {l:Expr} {tl:TE} (hl:PE X l tl):PI X tg l (Fi X.K tl):=by
 intro pins s σ H R I h;refine thn (hl pins s σ H _ I h) fun v s1 ⟨x,H1,I1,r1,q1⟩=>?_;obtain ⟨a,e,⟨xs,hq⟩,q⟩:=q1;subst e;cases r1;obtain ⟨its,rv,p,hz⟩:=I1.tuple hq;refine wpAny_pyIter_tuple (show s1.heap.IsTuple a its.toArray from p) ?_;refine ⟨s1.heap.objs.size,[s1.heap.objs.size],_,_,H1,rfl,I1.kept (t':=s1.toks) fun b o e=>BT _ e,rM a _,⟨_,Ch _ rfl,rfl,rfl⟩,fun b hb=>?_,q⟩;have e:b=s1.heap.objs.size:=by simpa using hb
 subst e;exact I1.gM (Gd _) (I1.hok.fresh (Gd _))
theorem oQ {pins:List (Addr×Obj)} {σ:St} {H:Hp} {s:Shared} {R:It->Hp->Prop} {E:Value->Shared->Prop} {lo hi:Int} {t u v:Tok} {tk:Nat} (I:Inv X pins σ H s) (h1: -(2^62)<=lo) (h2:lo<2^62) (h3: -(2^62)<=hi) (h4:hi<2^62)
  (q:R (Itr lo (hi - lo).toNat) H):wpAny (model X.prog X.w) X.A (pyIter (.ref s.heap.objs.size)) (PIE X pins σ tg R) E {s with heap:=s.heap.push {cls:=.type "range",data:=.fields #[.int lo t,.int hi u,.int 1 v]},toks:=tk}:=by
 refine wpAny_pyIter_range (IsRange.new ..) (small_one h1 h2 h3 h4) ?_;have I1:Inv X pins σ H {s with heap:=s.heap.push {cls:=.type "range",data:=.fields #[.int lo t,.int hi u,.int 1 v]},toks:=tk}:=I.kept fun b o e=>BT _ e;refine ⟨(s.heap.push {cls:=.type "range",data:=.fields #[.int lo t,.int hi u,.int 1 v]}).objs.size,[(s.heap.push {cls:=.type "range",data:=.fields #[.int lo t,.int hi u,.int 1 v]}).objs.size],_,_,H,rfl,
  I1.kept (t':=tk) fun b o e=>BT _ e,rL _ lo (hi - lo).toNat,?_,fun b hb=>?_,q⟩
 ·have e1:lo+((0:Nat):Int)*1=lo:=by simp
  have e2:(((hi - lo).toNat:Nat):Int) - ((0:Nat):Int)=Builtin.Range.rangeSize lo hi 1:=by rw [rangeSize_one];split<;>omega
  show IsRangeIter _ _ (lo+((0:Nat):Int)*1) ((((hi - lo).toNat:Nat):Int) - ((0:Nat):Int)) 1;rw [e1,e2];exact Ch _ rfl
 ·have e:b=(s.heap.push {cls:=.type "range",data:=.fields #[.int lo t,.int hi u,.int 1 v]}).objs.size:=by simpa using hb
  subst e;exact I1.gM (Gd _) (I1.hok.fresh (Gd _))
noncomputable def D7 (ta:TA):TI:=fun σ H R=>ta σ H fun vs H1=>∃j:Int,vs=[.int j]∧ -(2^62)<=j∧j<2^62∧R (Itr 0 j.toNat) H1
noncomputable def D8 (ta:TA):TI:=fun σ H R=>ta σ H fun vs H1=>∃i j:Int,vs=[.int i,.int j]∧(-(2^62)<=i∧i<2^62∧ -(2^62)<=j∧j<2^62)∧R (Itr i (j - i).toNat) H1
theorem tU {a:Expr} {ta:TA} {p pos:Pos} (hg:Gl X "range") (hm:X.mg "range"=none) (ha:PA X [a] ta) (hs:(starEach [a] X.env=[(false,eval a X.env)])⁻¹):PI X tg (.Call (.Name "range" p) [a] [] pos) (D7 ta):=by
 intro pins s σ H R I h;refine Call_ (fA I hg hm boot_range (PyProof.Rows.callWith_type1 (thn (ha pos pins s σ H _ I h) fun us s1 ⟨vs,H1,I1,r1,q1⟩=>?_) hs rfl));obtain ⟨j,e,q1,q2,q⟩:=q1;subst e;cases r1 with
 |cons r rr=>
  cases rr;obtain ⟨t,rfl⟩:=r;exact call_range_1 (oQ I1 (by omega) (by omega) q1 q2 (by simpa using q))
theorem tV {a b:Expr} {ta:TA} {p pos:Pos} (hg:Gl X "range") (hm:X.mg "range"=none) (ha:PA X [a,b] ta) (hs:(starEach [a,b] X.env=[(false,eval a X.env),(false,eval b X.env)])⁻¹) (hs2:(starEach [b] X.env=[(false,eval b X.env)])⁻¹):
  PI X tg (.Call (.Name "range" p) [a,b] [] pos) (D8 ta):=by
 intro pins s σ H R I h;refine Call_ (fA I hg hm boot_range (PyProof.Rows.callWith_type1 (thn (ha pos pins s σ H _ I h) fun us s1 ⟨vs,H1,I1,r1,q1⟩=>?_) (by rw [hs,hs2]) (by rw [hs2];rfl)));obtain ⟨i,j,e,⟨q1,q2,q3,q4⟩,q⟩:=q1;subst e;cases r1 with
 |cons r rr=>
  cases rr with
  |cons r' rr=>
   cases rr;obtain ⟨t,rfl⟩:=r;obtain ⟨t',rfl⟩:=r';exact call_range_2 (oQ I1 q1 q2 q3 q4 q)
noncomputable def FP (wi:TI) (g:TG) (tb:TS):TS:=fun D σ H=>wi σ H fun J H1=>∃W:Nat->Nat->St->Hp->Prop,(∃m,W 0 m σ H1)∧∀i m σ H,W i m σ H->
 (J.stop i H∧D.nx σ H)∨(J.go i H∧∃N:St->Hp->Prop,(∀σ' H',N σ' H'->∃m',m'<m∧W (i+1) m' σ' H')∧∀x H',J.yld i H x H'->g x σ H' fun σ2 H2=>tb {D with nx:=N,ct:=N,bk:=D.nx} σ2 H2)
noncomputable def b6 (fp:List Addr) (h:Heap):List (Addr×Obj):=fp.filterMap fun b=>(h.get? b).map fun o=>(b,o)
theorem bJ {fp:List Addr} {h:Heap} {b:Addr} {o:Obj} (hb:b∈fp) (e:h.get? b=some o):(b,o)∈b6 fp h:=List.mem_filterMap.mpr ⟨b,hb,by rw [e];rfl⟩
theorem iP (hp:p∈b6 fp h):p.1∈fp∧h.get? p.1=some p.2:=by
 obtain ⟨b,hb,e⟩:=List.mem_filterMap.mp hp;cases q:h.get? b with
 |none=>rw [q] at e;cases e
 |some o=>
  rw [q] at e;have e':(b,o)=p:=Gi e;subst e';exact ⟨hb,q⟩
theorem Inv.pinned {pins:List (Addr×Obj)} {σ:St} {H:Hp} {s:Shared} {fp:List Addr} (I:Inv X pins σ H s) (hf:∀b∈fp,bj X pins H b) (ho:∀b∈fp,∃o,s.heap.get? b=some o∧∀v,o.data≠.cell v):Inv X (pins++b6 fp s.heap) σ H s:=
 I.lJ fun p hp=>(Fk.mp hp).elim (fun z=>I.pin p (Do _ z)) fun z=>by
  obtain ⟨hb,e⟩:=iP z;obtain ⟨f0,f1,f2,_⟩:=hf p.1 hb;obtain ⟨o,e',d⟩:=ho p.1 hb;rw [e] at e';cases e';exact ⟨e,f0,f1,f2,d⟩
theorem Inv.bZ {pins pl:List (Addr×Obj)} {σ:St} {H:Hp} {s:Shared} (I:Inv X (pins++pl) σ H s):Inv X pins σ H s:=I.lJ fun p hp=>I.pin p (Do _ (Ev _ hp))
theorem uc {iter:Expr} {body:List Stmt} {wi:TI} {g:TG} {tb:TS} {pos:Pos} (hp:PassesOwn (model X.prog X.w) X.A X.env X.xe) (hc:X.calm=true) (hi:PI X tg iter wi) (hg:PG X tg g) (hb:PSs X body tb)
  (hs:∀x,foldedSetIterable iter X.env x=pure x:=by intro _;rfl):PS X (.For tg iter body [] pos) (FP wi g tb):=by
 intro pins s σ H D I h;refine wpAny_For (thn (hi pins s σ H _ I h) fun v s1 h1=>thn h1 fun itv s2 h2=>?_) hs;obtain ⟨it,fp,tn,J,H2,e,I2,T,st2,f2,W,⟨m0,w0⟩,turn⟩:=h2;subst e;have stat:∀{H':Hp},(∀b∈fp,H' b=none)->∀b∈fp,bj X pins H' b:=fun hn b hb=>⟨hn b hb,(f2 b hb).2⟩
 refine codeAny_forLoop_any (fun n s'=>∃i σ' H',Inv X pins σ' H' s'∧tn i s'.heap∧(∀b∈fp,H' b=none)∧W i n σ' H') ?_ m0 ⟨0,σ,H2,I2,st2,fun b hb=>(f2 b hb).1,w0⟩;rintro n s3 ⟨i,σ3,H3,I3,st3,fr3,w3⟩;rcases turn i n σ3 H3 w3 with ⟨stop,qn⟩|⟨go,N,hN,step⟩
 ·refine wpAny_passesOwn hp (thn (T.done X rfl rfl rfl hc i pins s3 σ3 H3 X.xe I3 (stat fr3) st3 stop) fun r s4 ⟨hr,I4⟩=>?_);subst hr;exact wpAny_execs_nil ⟨σ3,H3,I4,qn⟩
 ·refine wpAny_passesOwn hp (thn (T.item X rfl rfl rfl hc i pins s3 σ3 H3 X.xe I3 (stat fr3) st3 go) fun r s4 ⟨u,hr,h4⟩=>?_);subst hr;refine wpAny_passesOwn hp (thn h4 fun _ s5 ⟨x,H5,I5,r5,y5,st5,fr5⟩=>?_);have I5':=I5.pinned (stat fr5) (T.obj _ _ st5);refine wpAny_passesOwn hp (thn (hg _ s5 σ3 H5 x u _ I5' r5 (step x H5 y5)) fun _ s6 ⟨σ6,H6,I6,q6⟩=>?_);refine wpAny_passesOwn hp (thn (hb _ s6 σ6 H6 _ I6 q6) fun f s7 q7=>?_);have again:∀{σ7:St} {H7:Hp},Inv X (pins++b6 fp s5.heap) σ7 H7 s7->N σ7 H7->∃m,m<n∧∃i σ' H',Inv X pins σ' H' s7∧tn i s7.heap∧(∀b∈fp,H' b=none)∧W i m σ' H':=fun {σ7 H7} I7 n7=>by
   obtain ⟨m',hm,w7⟩:=hN σ7 H7 n7;refine ⟨m',hm,i+1,σ7,H7,I7.bZ,T.keep _ _ _ st5 fun b hb o e=>(I7.pin (b,o) (Do _ (Do _ (bJ hb e)))).1,fun b hb=>?_,w7⟩;obtain ⟨o,e,d⟩:=T.obj _ _ st5 b hb;exact (I7.pin (b,o) (Do _ (Do _ (bJ hb e)))).2.1
  cases f with
  |next=>obtain ⟨σ7,H7,I7,n7⟩:=q7;exact again I7 n7
  |cont=>obtain ⟨σ7,H7,I7,n7⟩:=q7;exact again I7 n7
  |brk=>obtain ⟨σ7,H7,I7,q7⟩:=q7;exact ⟨σ7,H7,I7.bZ,q7⟩
  |ret v=>obtain ⟨x7,σ7,H7,I7,r7,q7⟩:=q7;exact ⟨x7,σ7,H7,I7.bZ,r7,q7⟩
end
noncomputable abbrev R2:=V->V->Hp->VK->Prop
noncomputable def OpR (X:Cx) (f:Value->Value->Sem Value) (r:R2):Prop:=
 ∀(pins:List (Addr×Obj)) (s:Shared) (σ:St) (H:Hp) (x y:V) (v u:Value) (Q:VK),Inv X pins σ H s->RelV x v->RelV y u->r x y H Q->
  wpAny (model X.prog X.w) X.A (f v u) (EP X pins σ Q) X.xe s
noncomputable def UnR (X:Cx) (f:Value->Sem Value) (r:V->Hp->VK->Prop):Prop:=
 ∀(pins:List (Addr×Obj)) (s:Shared) (σ:St) (H:Hp) (x:V) (v:Value) (Q:VK),Inv X pins σ H s->RelV x v->r x H Q->
  wpAny (model X.prog X.w) X.A (f v) (EP X pins σ Q) X.xe s
noncomputable def dw (X:Cx) (f:Value) (r:List V->Hp->VK->Prop):Prop:=
 ∀(pins:List (Addr×Obj)) (s:Shared) (σ:St) (H:Hp) (xs:List V) (us:List Value) (Q:VK),Inv X pins σ H s->Vals xs us->r xs H Q->
  wpAny (model X.prog X.w) X.A (call f us) (EP X pins σ Q) X.xe s
noncomputable def tOp (r:R2) (ta tb:TE):TE:=fun σ H Q=>ta σ H fun x H1=>tb σ H1 fun y H2=>r x y H2 Q
noncomputable def tUn (r:V->Hp->VK->Prop) (ta:TE):TE:=fun σ H Q=>ta σ H fun x H1=>r x H1 Q
noncomputable def rI (C:Int->Int->Prop) (g:Int->Int->V):R2:=fun x y H Q=>∃i j,x=.int i∧y=.int j∧C i j∧Q (g i j) H
noncomputable def rI0 (g:Int->Int->V):R2:=fun x y H Q=>∃i j,x=.int i∧y=.int j∧Q (g i j) H
noncomputable def rU (g:Int->V):V->Hp->VK->Prop:=fun x H Q=>∃i,x=.int i∧Q (g i) H
section
variable {X:Cx} {a b c:Expr} {ta tb tc:TE} {pos:Pos}
theorem uM (ha:PE X a ta) (hb:PE X b tb) {pins:List (Addr×Obj)} {s:Shared} {σ:St} {H:Hp} {R:V->V->Hp->Prop} (I:Inv X pins σ H s)
  (h:ta σ H fun x H1=>tb σ H1 fun y H2=>R x y H2) {Q:Value->Shared->Prop} {f:Value->Value->Sem Value}
  (hf:∀v u s2 x y H2,Inv X pins σ H2 s2->RelV x v->RelV y u->R x y H2->wpAny (model X.prog X.w) X.A (f v u) Q X.xe s2):
  wpAny (model X.prog X.w) X.A (eval a X.env) (fun v s₁=>wpAny (model X.prog X.w) X.A (eval b X.env) (fun u s₂=>wpAny (model X.prog X.w) X.A (f v u) Q X.xe s₂) X.xe s₁) X.xe s:=by
 refine thn (ha pins s σ H _ I h) fun v s1 ⟨x,H1,I1,r1,q1⟩=>?_;refine thn (hb pins s1 σ H1 _ I1 q1) fun u s2 ⟨y,H2,I2,r2,q2⟩=>?_;exact hf v u s2 x y H2 I2 r1 r2 q2
theorem Ek {op:Operator} {r:R2} (ho:OpR X (binaryOp op) r) (ha:PE X a ta) (hb:PE X b tb):PE X (.BinOp a op b pos) (tOp r ta tb):=by
 intro pins s σ H Q I h;exact wpAny_BinOp (uM ha hb I h fun v u s2 x y H2 I2 rx ry q=>ho pins s2 σ H2 x y v u Q I2 rx ry q)
theorem Em {op:UnaryOp} {r:V->Hp->VK->Prop} (ho:UnR X (unaryOp op) r) (ha:PE X a ta):PE X (.UnaryOp op a pos) (tUn r ta):=by
 intro pins s σ H Q I h;exact UnaryOp_ (thn (ha pins s σ H _ I h) fun v s1 ⟨x,H1,I1,r1,q1⟩=>ho pins s1 σ H1 x v Q I1 r1 q1)
theorem opI {f:Value->Value->Sem Value} {C:Int->Int->Prop} {g:Int->Int->Int}
  (rule:∀(i j:Int) (t u:Tok) (s:Shared) (Q:Value->Shared->Prop) (E:Value->Shared->Prop),C i j->Q (.int (g i j) s.toks) {s with toks:=s.toks+1}->wpAny (model X.prog X.w) X.A (f (.int i t) (.int j u)) Q E s):
  OpR X f (rI C fun i j=>.int (g i j)):=by
 intro pins s σ H x y v u Q I rx ry h;obtain ⟨i,j,rfl,rfl,hc,q⟩:=h;obtain ⟨t,rfl⟩:=rx;obtain ⟨t',rfl⟩:=ry;exact rule i j t t' s _ _ hc ⟨.int (g i j),H,I.tok _,⟨_,rfl⟩,q⟩
theorem B9 {f:Value->Value->Sem Value} {g:Int->Int->Int}
  (rule:∀(i j:Int) (t u:Tok) (s:Shared) (Q:Value->Shared->Prop) (E:Value->Shared->Prop),Q (.int (g i j) s.toks) {s with toks:=s.toks+1}->wpAny (model X.prog X.w) X.A (f (.int i t) (.int j u)) Q E s):
  OpR X f (rI0 fun i j=>.int (g i j)):=by
 intro pins s σ H x y v u Q I rx ry h;obtain ⟨i,j,rfl,rfl,q⟩:=h;obtain ⟨t,rfl⟩:=rx;obtain ⟨t',rfl⟩:=ry;exact rule i j t t' s _ _ ⟨.int (g i j),H,I.tok _,⟨_,rfl⟩,q⟩
theorem rD {f:Value->Value->Sem Value} {g:Int->Int->Bool}
  (rule:∀(i j:Int) (t u:Tok) (s:Shared) (Q:Value->Shared->Prop) (E:Value->Shared->Prop),Q (.bool (g i j)) s->wpAny (model X.prog X.w) X.A (f (.int i t) (.int j u)) Q E s):
  OpR X f (rI0 fun i j=>.bl (g i j)):=by
 intro pins s σ H x y v u Q I rx ry h;obtain ⟨i,j,rfl,rfl,q⟩:=h;obtain ⟨t,rfl⟩:=rx;obtain ⟨t',rfl⟩:=ry;exact rule i j t t' s _ _ ⟨.bl (g i j),H,I,rfl,q⟩
noncomputable def qr (i j:Int):Prop:=0<j∧j<1073741824
noncomputable def jt (i j:Int):Prop:=(-(2^64)<i∧i<2^64)∨(-(2^64)<j∧j<2^64)
theorem jt.ok {i j:Int} (h:jt i j):IntMulOk i j:=by
 rcases h with ⟨h1,h2⟩|⟨h1,h2⟩
 ·exact .of_left (intBits_le_64 h1 h2)
 ·exact .of_right (intBits_le_64 h1 h2)
theorem two_pow_nn (k:Nat):(0:Int)<=2^k:=by
 rw [two_pow_cast];exact Int.natCast_nonneg _
theorem Ca:OpR X (binaryOp .Add) (rI0 fun i j=>.int (i+j)):=B9 fun _ _ _ _ _ _ _ q=>add_int q
theorem Cj:OpR X (binaryOp .Sub) (rI0 fun i j=>.int (i - j)):=B9 fun _ _ _ _ _ _ _ q=>sub_int q
theorem Cf:OpR X (binaryOp .Mult) (rI jt fun i j=>.int (i*j)):=opI fun _ _ _ _ _ _ _ hc q=>mul_int q hc.ok
theorem zu:OpR X (binaryOp .FloorDiv) (rI qr fun i j=>.int (i / j)):=opI fun i j _ _ _ _ _ hc q=>by
 have h1:(0:Int)<j:=hc.1;have h2:j<1073741824:=hc.2;exact floordiv_int (by omega) (by rw [Int.fdiv_eq_ediv_of_nonneg i (by omega)];exact q) (.inl (PyProof.noPylong_small (by omega)))
theorem Ce:OpR X (binaryOp .Mod) (rI (fun _ j=>0<j) fun i j=>.int (i%j)):=opI fun i j _ _ _ _ _ hc q=>by
 have h1:(0:Int)<j:=hc;exact mod_int' (by omega) (by rw [Int.fmod_eq_emod_of_nonneg i (by omega)];exact q)
theorem Ci:OpR X (binaryOp .RShift) (rI (fun _ j=>0<=j) fun i j=>.int (i / 2^j.toNat)):=opI fun i j _ _ _ _ _ hc q=>
 rshift_int hc (by rw [Int.fdiv_eq_ediv_of_nonneg i (two_pow_nn _)];exact q)
theorem unI {f:Value->Sem Value} {g:Int->Int}
  (rule:∀(i:Int) (t:Tok) (s:Shared) (Q:Value->Shared->Prop) (E:Value->Shared->Prop),Q (.int (g i) s.toks) {s with toks:=s.toks+1}->wpAny (model X.prog X.w) X.A (f (.int i t)) Q E s):
  UnR X f (rU fun i=>.int (g i)):=by
 intro pins s σ H x v Q I rx h;obtain ⟨i,rfl,q⟩:=h;obtain ⟨t,rfl⟩:=rx;exact rule i t s _ _ ⟨.int (g i),H,I.tok _,⟨_,rfl⟩,q⟩
theorem Di:UnR X (unaryOp .USub) (rU fun i=>.int (-i)):=unI fun _ _ _ _ _ q=>neg_int q
end
noncomputable def rE:V->V->Bool
 |.non,.non=>true|.non,.int _=>true|.int _,.non=>true|.non,.bl _=>true|.bl _,.non=>true|.non,.str _=>true|.str _,.non=>true
 |.int _,.int _=>true|.bl _,.bl _=>true|.str _,.str _=>true|.byt _,.byt _=>true
 |.int _,.str _=>true|.str _,.int _=>true|.bl _,.str _=>true|.str _,.bl _=>true
 |_,_=>false
noncomputable def rEq:R2:=fun x y H Q=>rE x y=true∧Q (.bl (decide (x=y))) H
noncomputable def rNe:R2:=fun x y H Q=>rE x y=true∧Q (.bl (!decide (x=y))) H
theorem pG:decide (V.int i=V.int j)=(i==j):=by
 rw [Bool.eq_iff_iff];simp
theorem sk:decide (V.bl i=V.bl j)=(i==j):=by
 rw [Bool.eq_iff_iff];simp
theorem pH:decide (V.str i=V.str j)=(i==j):=by
 rw [Bool.eq_iff_iff];simp
theorem pF:decide (V.byt i=V.byt j)=(i.toList==j.toList):=by
 rw [Bool.eq_iff_iff];cases i;cases j;simp
section
variable {X:Cx} {a b c:Expr} {ta tb tc:TE} {pos:Pos}
theorem aF (I:Inv X pins σ H s) (q:Q (.bl k) H) (e:k=k'):EP X pins σ Q (.bool k') s:=by
 subst e;exact ⟨.bl k,H,I,rfl,q⟩
theorem Ee:OpR X (compareOp .Eq) rEq:=by
 intro pins s σ H x y v u Q I rx ry h;obtain ⟨hs,q⟩:=h;cases x with
 |non=>
  cases rx;cases y with
  |non=>cases ry;exact PySem.EqNone.eq_none_none (aF I q (by simp))
  |bl j=>cases ry;exact PySem.EqNone.eq_none_bool (aF I q (by simp))
  |int j=>obtain ⟨t',rfl⟩:=ry;exact PySem.EqNone.eq_none_int (aF I q (by simp))
  |str j=>obtain ⟨t',rfl⟩:=ry;exact PySem.EqNone.eq_none_str (aF I q (by simp))
  |_=>exact absurd (show false=true from hs) Gh
 |bl i=>
  cases rx;cases y with
  |non=>cases ry;exact PySem.EqNone.eq_bool_none (aF I q (by simp))
  |bl j=>cases ry;exact eq_bool (aF I q sk)
  |str j=>obtain ⟨t',rfl⟩:=ry;exact PySem.EqMixed.eq_bool_str (aF I q (by simp))
  |_=>exact absurd (show false=true from hs) Gh
 |int i=>
  obtain ⟨t,rfl⟩:=rx;cases y with
  |non=>cases ry;exact PySem.EqNone.eq_int_none (aF I q (by simp))
  |int j=>obtain ⟨t',rfl⟩:=ry;exact eq_int (aF I q pG)
  |str j=>obtain ⟨t',rfl⟩:=ry;exact PySem.EqMixed.eq_int_str (aF I q (by simp))
  |_=>exact absurd (show false=true from hs) Gh
 |str i=>
  obtain ⟨t,rfl⟩:=rx;cases y with
  |non=>cases ry;exact PySem.EqNone.eq_str_none (aF I q (by simp))
  |bl j=>cases ry;exact PySem.EqMixed.eq_str_bool (aF I q (by simp))
  |int j=>obtain ⟨t',rfl⟩:=ry;exact PySem.EqMixed.eq_str_int (aF I q (by simp))
  |str j=>obtain ⟨t',rfl⟩:=ry;exact eq_str (aF I q pH)
  |_=>exact absurd (show false=true from hs) Gh
 |byt i=>
  obtain ⟨t,rfl⟩:=rx;cases y with
  |byt j=>obtain ⟨t',rfl⟩:=ry;exact PySem.W.eq_bytes (aF I q pF)
  |_=>exact absurd (show false=true from hs) Gh
 |_=>cases y<;>exact absurd (show false=true from hs) Gh
theorem Eh:OpR X (compareOp .NotEq) rNe:=by
 intro pins s σ H x y v u Q I rx ry h;obtain ⟨hs,q⟩:=h;cases x with
 |non=>
  cases rx;cases y with
  |non=>cases ry;exact PySem.EqNone.ne_none_none (aF I q (by simp))
  |bl j=>cases ry;exact PySem.EqNone.ne_none_bool (aF I q (by simp))
  |int j=>obtain ⟨t',rfl⟩:=ry;exact PySem.EqNone.ne_none_int (aF I q (by simp))
  |str j=>obtain ⟨t',rfl⟩:=ry;exact PySem.EqNone.ne_none_str (aF I q (by simp))
  |_=>exact absurd (show false=true from hs) Gh
 |bl i=>
  cases rx;cases y with
  |non=>cases ry;exact PySem.EqNone.ne_bool_none (aF I q (by simp))
  |bl j=>cases ry;exact ne_bool (aF I q (congrArg not sk))
  |str j=>obtain ⟨t',rfl⟩:=ry;exact PySem.EqMixed.ne_bool_str (aF I q (by simp))
  |_=>exact absurd (show false=true from hs) Gh
 |int i=>
  obtain ⟨t,rfl⟩:=rx;cases y with
  |non=>cases ry;exact PySem.EqNone.ne_int_none (aF I q (by simp))
  |int j=>obtain ⟨t',rfl⟩:=ry;exact ne_int (aF I q (congrArg not pG))
  |str j=>obtain ⟨t',rfl⟩:=ry;exact PySem.EqMixed.ne_int_str (aF I q (by simp))
  |_=>exact absurd (show false=true from hs) Gh
 |str i=>
  obtain ⟨t,rfl⟩:=rx;cases y with
  |non=>cases ry;exact PySem.EqNone.ne_str_none (aF I q (by simp))
  |bl j=>cases ry;exact PySem.EqMixed.ne_str_bool (aF I q (by simp))
  |int j=>obtain ⟨t',rfl⟩:=ry;exact PySem.EqMixed.ne_str_int (aF I q (by simp))
  |str j=>obtain ⟨t',rfl⟩:=ry;exact ne_str (aF I q (congrArg not pH))
  |_=>exact absurd (show false=true from hs) Gh
 |byt i=>
  obtain ⟨t,rfl⟩:=rx;cases y with
  |byt j=>obtain ⟨t',rfl⟩:=ry;exact PySem.W.ne_bytes (aF I q (congrArg not pF))
  |_=>exact absurd (show false=true from hs) Gh
 |_=>cases y<;>exact absurd (show false=true from hs) Gh
theorem xJ:OpR X (compareOp .Lt) (rI0 fun i j=>.bl (decide (i<j))):=rD fun _ _ _ _ _ _ _ q=>lt_int q
theorem xI:OpR X (compareOp .LtE) (rI0 fun i j=>.bl (decide (i<=j))):=rD fun _ _ _ _ _ _ _ q=>le_int q
theorem Eg:OpR X (compareOp .Gt) (rI0 fun i j=>.bl (decide (j<i))):=rD fun _ _ _ _ _ _ _ q=>gt_int q
theorem Ef:OpR X (compareOp .GtE) (rI0 fun i j=>.bl (decide (j<=i))):=rD fun _ _ _ _ _ _ _ q=>ge_int q
theorem tM:OpR X (compareOp .Is) (fun x y H Q=>y=.non∧Q (.bl (decide (x=.non))) H):=by
 intro pins s σ H x y v u Q I rx ry h;obtain ⟨rfl,q⟩:=h;cases ry;refine is_none_gen (aF I q ?_);cases x<;>first
  |(cases rx;rfl)
  |(obtain ⟨t,rfl⟩:=rx;rfl)
theorem pZ:OpR X (compareOp .IsNot) (fun x y H Q=>y=.non∧Q (.bl (!decide (x=.non))) H):=by
 intro pins s σ H x y v u Q I rx ry h;obtain ⟨rfl,q⟩:=h;cases ry;refine isnot_none_gen (aF I q ?_);cases x<;>first
  |(cases rx;rfl)
  |(obtain ⟨t,rfl⟩:=rx;rfl)
theorem bC (b:Expr) (h: ~~~(op≠.In)) (h2: ~~~(op≠.NotIn)):behindInMarks op b=false:=by
 have e1:(op==CmpOp.In)=false:=by cases op<;>first|rfl|exact absurd rfl h
 have e2:(op==CmpOp.NotIn)=false:=by cases op<;>first|rfl|exact absurd rfl h2
 cases b<;>simp [behindInMarks,e1,e2]
theorem zD (ho:OpR X (compareOp op) r) (ha:PE X a ta) (hb:PE X b tb) (hm:behindInMarks op b=false):PE X (.Compare a [op] [b] pos) (tOp r ta tb):=by
 intro pins s σ H Q I h;exact wpAny_Compare1 (uM ha hb I h fun v u s2 x y H2 I2 rx ry q=>ho pins s2 σ H2 x y v u Q I2 rx ry q) hm
noncomputable def EJ (t:TE):TT:=fun σ H Q=>t σ H fun x H'=>∃k,x=.bl k∧Q k H'
theorem zW {op:CmpOp} {r:R2} (ho:OpR X (compareOp op) r) (ha:PE X a ta) (hb:PE X b tb) (hm:behindInMarks op b=false):PT X (.Compare a [op] [b] pos) (EJ (tOp r ta tb)):=by
 intro pins s σ H Q I h;refine wpAny_isTrue_Compare1 (thn (ha pins s σ H _ I h) fun v s1 ⟨x,H1,I1,r1,q1⟩=>thn (hb pins s1 σ H1 _ I1 q1) fun u s2 ⟨y,H2,I2,r2,q2⟩=>
  thn (ho pins s2 σ H2 x y v u _ I2 r1 r2 q2) fun c s3 ⟨z,H3,I3,r3,k,e,q3⟩=>?_) hm
 subst e;cases r3;exact wpAny_truthy_bool ⟨H3,I3,q3⟩
noncomputable def C2 (r r':R2) (ta tb tc:TE):TE:=fun σ H Q=>ta σ H fun x H1=>tb σ H1 fun y H2=>r x y H2 fun z H3=>∃k,z=.bl k∧
 (if k=true then tc σ H3 fun w' H4=>r' y w' H4 Q else Q (.bl false) H3)
theorem v8 {op op':CmpOp} {r r':R2} (ho:OpR X (compareOp op) r) (ho':OpR X (compareOp op') r') (ha:PE X a ta) (hb:PE X b tb) (hc:PE X c tc)
  (hm:lastMarks [op,op'] [b,c]=false:=by with_unfolding_all rfl):PE X (.Compare a [op,op'] [b,c] pos) (C2 r r' ta tb tc):=by
 intro pins s σ H Q I h;refine Compare_chain (thn (ha pins s σ H _ I h) fun v s1 ⟨x,H1,I1,r1,q1⟩=>chain_link (thn (hb pins s1 σ H1 _ I1 q1) fun u s2 ⟨y,H2,I2,r2,q2⟩=>
  thn (ho pins s2 σ H2 x y v u _ I2 r1 r2 q2) fun d s3 ⟨z,H3,I3,r3,k,e,q3⟩=>?_)) hm
 subst e;cases r3;refine wpAny_truthy_bool ?_;cases k with
 |false=>exact ite_ff ⟨.bl false,H3,I3,rfl,q3⟩
 |true=>exact ite_tt (chain_last (thn (hc pins s3 σ H3 _ I3 q3) fun w' s4 ⟨z',H4,I4,r4,q4⟩=>ho' pins s4 σ H4 y z' u w' Q I4 r2 r4 q4))
theorem ky:(sizeLine:Nat)<2^63:=by rw [sizeLine_eq];decide
theorem vals1 (r:Vals [x] us):∃u,us=[u]∧RelV x u:=by
 cases r with
 |cons r1 r2=>cases r2;exact ⟨_,rfl,r1⟩
theorem uW:dw X (.builtin "abs") (fun xs H Q=>∃i,xs=[.int i]∧Q (.int (if i<0 then -i else i)) H):=by
 intro pins s σ H xs us Q I r h;obtain ⟨i,rfl,q⟩:=h;obtain ⟨u,rfl,t,rfl⟩:=vals1 r;exact call_abs_int fun u tk=>⟨.int (if i<0 then -i else i),H,I.tok _,⟨_,rfl⟩,q⟩
end
structure jy (h:Heap) (x dx C:Addr) (mA:Str->Option Value):Prop where
 obj:h.get? x=some (PySem.W.instObj C dx)
 ns:h.Ns1 dx mA
 ne:dx≠x
theorem mw {h:Heap} {dx:Addr} {mA:Str->Option Value} (n:h.Ns1 dx mA):∃od,h.get? dx=some od∧∀name,PySem.W.lookIn name od=some (mA name):=by
 obtain ⟨o,es,ep,ho,hd,hk,_,hm⟩:=n;refine ⟨o,ho,fun name=>?_⟩;have e:=hm name;unfold nsFind findBy at e;rw [←Array.find?_toList] at e;unfold PySem.W.lookIn;rw [hd];dsimp only;split
 ·rename_i y q;rw [q] at e;exact congrArg some e
 ·rename_i q;rw [q] at e;have a:es.toList.any (·.refKey)=false:=by
   rw [List.any_eq_false];intro y hy;obtain ⟨z,t,hkey⟩:=hk y (Array.mem_toList_iff.mp hy);simp [DictEntry.refKey,hkey]
  have a':¬es.toList.any (·.refKey)=true:=by rw [a];exact Gh
  rw [if_neg a'];exact congrArg some e
theorem jy.look (I:jy h x dx C mA):∃od,PySem.W.InstAt h x (PySem.W.instObj C dx) C (some od)∧∀name,PySem.W.lookIn name od=some (mA name):=
 let ⟨od,ho,hl⟩:=mw I.ns
 ⟨od,⟨I.obj,rfl,rfl,ho⟩,hl⟩
section
variable {prog:Program} {w:World} {A:Around} {E:Value->Shared->Prop} {s:Shared} {K:PySem.W.Frag} {x dx C f:Addr} {mA:Str->Option Value} {name:Str} {v:Value}
theorem get_map (X:K.In s.heap) (I:jy s.heap x dx C mA) (hg:PySem.W.plainGet K C name=true) (hh:PySem.W.hasDictIn K C=true)
  (ha:PySem.W.findIn K (.ref C) name=some none) (hv:mA name=some v) (hv':PySem.W.handedIn v=true) (h:Q v {s with toks:=s.toks+1}):
  wpAny (model prog w) A (getAttr (.ref x) name expr) Q E s:=by
 obtain ⟨od,J,hl⟩:=I.look;exact PySem.W.get_value X J (PySem.W.plainGet_of hg).1 (PySem.W.findObj_own hh ha rfl (by rw [hl,hv])) hv' h
theorem vG (X:K.In s.heap) (I:jy s.heap x dx C mA) (hg:PySem.W.plainGet K C name=true)
  (hf:PySem.W.findIn K (.ref C) name=some (some (.ref f))) (ht:PySem.W.isFn K (.ref f)=true) (hv:mA name=none) (h:Q (.ref f,[.ref x]) s):
  wpAny (model prog w) A (getMethod (.ref x) name pl) Q E s:=by
 obtain ⟨od,J,hl⟩:=I.look;exact PySem.W.method_fn X J (PySem.W.plainGet_of hg).1 (PySem.W.plainGet_of hg).2 hf (beq_iff_eq.mp ht) (by show (PySem.W.lookIn name od).map (·.isSome)=some false;rw [hl,hv];rfl) h
theorem Ae (X:K.In s.heap) (I:jy s.heap x dx C mA)
  (hs:PySem.W.findIn K (.ref C) "__setattr__"=some (some (.builtin "object.__setattr__"))) (hp:PySem.W.plainOver K C=true) (ht:PySem.W.takerIn K C name=some none) (hh:PySem.W.hasDictIn K C=true)
  (hw:PySem.Within mA ns) (hsz:ns.length<=sizeLine)
  (h:∀h',jy h' x dx C (fun y=>if y=name then some v else mA y)->Heap.SameBut dx s.heap h'->Q () {s with heap:=h',toks:=s.toks+2}):
  wpAny (model prog w) A (setAttr (.ref x) name v) Q E s:=by
 obtain ⟨od,J,hl⟩:=I.look;refine PySem.W.set_plain X J hs (PySem.W.osa_open (s:={s with toks:=s.toks+1}) (r:=none) X J hp ht fun b=>?_);obtain ⟨cd,hc,hd'⟩:=PySem.W.any_some hh;have hx:s.heap.get? x=some ⟨.ref C,some dx,.plain,#[]⟩:=I.obj;refine At (AC (At (At (wpAny_loadPart hx (At (PySem.W.Looks.here (s:={s with toks:=s.toks+1}) (PySem.W.looks_clsIn X hc) ?_))))));rw [hd'];refine AC (a:=some dx) (At (AC (At ?_)));refine wpAny_nsSet1 (s:={s with toks:=s.toks+1}) I.ns fun h' hn2 hs2=>?_;obtain ⟨oD,esD,epD,hoD,hdD,hcD⟩:=hn2.count (PySem.Within.cons name v hw);refine At (wpAny_lookBehind hoD (by rw [hdD];exact pastItsLine_dict (Gb hcD (by rw [List.length_cons];omega))) ?_);exact AC (h _ ⟨(hs2.2 _ (Ne.symm I.ne)).trans I.obj,hn2,I.ne⟩ hs2)
theorem ou (X:K.In s.heap) (hm:PySem.W.makesIn K C=true)
  (hi:PySem.W.findIn K (.ref C) "__init__"=some (some (.ref f))) (hf:PySem.W.typeIn K (.ref f)=some (.type "function"))
  (h:codeAny (model prog w) (A.under (.builtin "type.__call__" ⟨.ref C::vs,kw⟩)) (.call (.ref f) ⟨.ref (s.heap.objs.size+1)::vs,kw⟩) (PySem.W.InitBack (s.heap.objs.size+1) R)
   {s with heap:=(s.heap.push PySem.W.emptyDict).push (PySem.W.instObj C s.heap.objs.size)}):
  codeAny (model prog w) A (.call (.ref C) ⟨vs,kw⟩) R s:=by
 obtain ⟨hh,g,d,t,os⟩:=s;exact PySem.W.make_core (PySem.W.makes_of X hm) (PySem.W.looks_findIn X hi) (fun self=>PySem.W.bind_fn X self hf) (.inl rfl) h
end
noncomputable def b_ (f:Str) (v:V):List (Str×V)->List (Str×V)
 |[]=>[(f,v)]
 |(g,x)::r=>if g=f then (g,v)::r else (g,x)::b_ f v r
theorem jo (f g:Str) (v:V):∀fs:List (Str×V),(b_ f v fs).lookup g=if g=f then some v else fs.lookup g
 |[]=>by
  show List.lookup g [(f,v)]=_
  by_cases h:g=f
  ·have hb:(g==f)=true:=beq_iff_eq.mpr h;simp only [List.lookup,hb,if_pos h]
  ·have hb:(g==f)=false:=beq_eq_false_iff_ne.mpr h;simp only [List.lookup,hb,if_neg h]
 |(k,x)::r=>by
  have ih:=jo f g v r;rw [show b_ f v ((k,x)::r)=(if k=f then (k,v)::r else (k,x)::b_ f v r) from rfl]
  by_cases hk:k=f
  ·rw [if_pos hk]
   by_cases h:g=k
   ·have hb:(g==k)=true:=beq_iff_eq.mpr h;simp only [List.lookup,hb,if_pos (h.trans hk)]
   ·have hb:(g==k)=false:=beq_eq_false_iff_ne.mpr h;simp only [List.lookup,hb,if_neg (fun e:g=f=>h (e.trans hk.symm))]
  ·rw [if_neg hk]
   by_cases h:g=k
   ·have hb:(g==k)=true:=beq_iff_eq.mpr h;simp only [List.lookup,hb,if_neg (fun e:g=f=>hk (h.symm.trans e))]
   ·have hb:(g==k)=false:=beq_eq_false_iff_ne.mpr h;simp only [List.lookup,hb];exact ih
theorem iH (f:Str) (v:V):∀fs:List (Str×V),f∈(b_ f v fs).map (·.1)∧∀g,g∈fs.map (·.1)->g∈(b_ f v fs).map (·.1)
 |[]=>⟨by simp [b_],fun g h=>by simp at h⟩
 |(k,x)::r=>by
  obtain ⟨i1,i2⟩:=iH f v r;rw [show b_ f v ((k,x)::r)=(if k=f then (k,v)::r else (k,x)::b_ f v r) from rfl]
  by_cases hk:k=f
  ·rw [if_pos hk];subst hk;exact ⟨by simp,fun g h=>by simpa using h⟩
  ·rw [if_neg hk];refine ⟨?_,fun g h=>?_⟩
   ·rw [List.map_cons];exact EQ _ i1
   ·rw [List.map_cons] at h ⊢;rcases Fr.mp h with e|e
    ·exact Fr.mpr (.inl e)
    ·exact EQ _ (i2 g e)
theorem jn (f:Str) (v:V):∀fs:List (Str×V),(b_ f v fs).length<=fs.length+1
 |[]=>by simp [b_]
 |(k,x)::r=>by
  have ih:=jn f v r;rw [show b_ f v ((k,x)::r)=(if k=f then (k,v)::r else (k,x)::b_ f v r) from rfl]
  by_cases hk:k=f
  ·rw [if_pos hk,List.length_cons,List.length_cons];omega
  ·rw [if_neg hk,List.length_cons,List.length_cons];omega
theorem bQ.some_of (r:bQ (some v) o):∃u,o=some u∧RelV v u:=by
 cases o with
 |none=>exact (show False from r).elim
 |some u=>exact ⟨u,rfl,r⟩
theorem bQ.none_of (r:bQ none o):o=none:=by
 cases o with
 |none=>rfl
 |some u=>exact (show False from r).elim
theorem sZ (r:RelV v u):PySem.W.handedIn u=true:=by
 cases v with
 |non=>cases (show u=Value.none from r);rfl
 |bl b=>cases (show u=Value.bool b from r);rfl
 |int i=>obtain ⟨t,e⟩:=(show ∃t,u=Value.int i t from r);cases e;rfl
 |str x=>obtain ⟨t,e⟩:=(show ∃t,u=Value.str x t from r);cases e;rfl
 |byt b=>obtain ⟨t,e⟩:=(show ∃t,u=Value.bytes b t from r);cases e;rfl
 |flt b=>obtain ⟨t,e⟩:=(show ∃t,u=Value.float b t from r);cases e;rfl
 |ref a=>cases (show u=Value.ref a from r);rfl
 |ty n=>cases (show u=Value.type n from r);rfl
section
variable {P:Program} {w:World} {H H':Hp} {h h':Heap} {a C dx:Addr} {fs fs':List (Str×V)}
theorem i8 (hok:HOk P w H h) (e:H a=some (.ins C dx fs)):∃mA,jy h a dx C mA∧(∀f,bQ (fs.lookup f) (mA f))∧PySem.Within mA (fs.map (·.1))∧fs.length<=1000∧H dx=some (.own a):=by
 obtain ⟨d,z,ne,ob,mA,n,r,q⟩:=(show aX P w H h a (.ins C dx fs) from hok a _ e)
 exact ⟨mA,⟨ob,n,ne⟩,r,q,z,d⟩
end
structure Cls (K:PySem.W.Frag) (C:Addr):Prop where
 pg:PySem.W.plainGet K C Str.empty=true
 hd:PySem.W.hasDictIn K C=true
 po:PySem.W.plainOver K C=true
 sa:PySem.W.findIn K (.ref C) "__setattr__"=some (some (.builtin "object.__setattr__"))
theorem Cls.get {K:PySem.W.Frag} {C:Addr} (c:Cls K C) (f:Str):PySem.W.plainGet K C f=true:=c.pg
noncomputable def b5 (K:PySem.W.Frag) (C:Addr) (f:Str):Prop:=PySem.W.findIn K (.ref C) f=some none
theorem b5.EK {K:PySem.W.Frag} {C:Addr} {f:Str} (n:b5 K C f):PySem.W.takerIn K C f=some none:=by
 unfold PySem.W.takerIn;rw [show PySem.W.findIn K (.ref C) f=some none from n];rfl
structure Meth (K:PySem.W.Frag) (C:Addr) (m:Str) (f:Addr):Prop where
 at_:PySem.W.findIn K (.ref C) m=some (some (.ref f))
 fn:PySem.W.isFn K (.ref f)=true
 kp:PySem.W.keepIn K (.ref f)=true
section
variable {X:Cx} {pins:List (Addr×Obj)} {σ:St} {H:Hp} {s:Shared} {a C dx:Addr} {fs:List (Str×V)} {f:Str} {v:V} {A:Around} {E:Value->Shared->Prop}
theorem qM {b:Bool} {Q:Value->Shared->Prop} (I:Inv X pins σ H s) (e:H a=some (.ins C dx fs)) (c:Cls X.K C) (n:b5 X.K C f) (l:fs.lookup f=some v)
  (h:∀u s',Inv X pins σ H s'->RelV v u->Q u s'):wpAny (model X.prog X.w) A (getAttr (.ref a) f b) Q E s:=by
 obtain ⟨mA,O,r,_,_,_⟩:=i8 I.hok e;obtain ⟨u,hu,ru⟩:=bQ.some_of (v:=v) (o:=mA f) (by rw [←l];exact r f);exact get_map I.kIn O (c.get f) c.hd n hu (sZ ru) (h u _ (I.tok _) ru)
theorem eK {m:Str} {g:Addr} {pl:Sem Bool} {Q:Value×List Value->Shared->Prop} (I:Inv X pins σ H s) (e:H a=some (.ins C dx fs)) (c:Cls X.K C) (k:Meth X.K C m g) (l:fs.lookup m=none)
  (h:Q (.ref g,[.ref a]) s):wpAny (model X.prog X.w) A (getMethod (.ref a) m pl) Q E s:=by
 obtain ⟨mA,O,r,_,_,_⟩:=i8 I.hok e;have hn:mA m=none:=bQ.none_of (by rw [←l];exact r m);exact vG I.kIn O (c.get m) k.at_ k.fn hn h
theorem rF {y:V} {u:Value} {Q:Unit->Shared->Prop} (I:Inv X pins σ H s) (e:H a=some (.ins C dx fs)) (c:Cls X.K C) (n:b5 X.K C f) (hl:fs.length<1000) (ry:RelV y u)
  (h:∀s',Inv X pins σ (upd H a (.ins C dx (b_ f y fs))) s'->Q () s'):wpAny (model X.prog X.w) A (setAttr (.ref a) f u) Q E s:=by
 obtain ⟨mA,O,r,wi,_,ho⟩:=i8 I.hok e;have hz:(fs.map (·.1)).length<=sizeLine:=by rw [F6,sizeLine_eq];omega
 refine Ae I.kIn O c.sa c.po n.EK c.hd wi hz fun h' O' sb=>h _ ?_;have hd:∃o,h'.get? dx=some o:=let ⟨o,_,_,e',_⟩:=O'.ns;⟨o,e'⟩
 refine I.write (x:=a) (e:=dx) (by rw [e];exact True.intro) (.inr ho) (fun b q hb z=>(sb.2 b hb).trans z) hd ?_;refine ⟨by rw [ah O.ne];exact ho,?_,O.ne,O'.obj,_,O'.ns,fun g=>?_,fun g hg=>?_⟩
 ·have:=jn f y fs;omega
 ·show bQ ((b_ f y fs).lookup g) (if g=f then some u else mA g);rw [jo]
  by_cases q:g=f
  ·rw [if_pos q,if_pos q];exact ry
  ·rw [if_neg q,if_neg q];exact r g
 ·by_cases q:g=f
  ·rw [q];exact (iH f y fs).1
  ·refine (iH f y fs).2 g (wi g fun z=>hg ?_);show (if g=f then some u else mA g)=none;rw [if_neg q];exact z
theorem Inv.made (I:Inv X pins σ H s):Inv X pins σ (upd (upd H s.heap.objs.size (.own (s.heap.objs.size+1))) (s.heap.objs.size+1) (.ins C s.heap.objs.size []))
  {s with heap:=(s.heap.push PySem.W.emptyDict).push (PySem.W.instObj C s.heap.objs.size)}:=by
 have e1:(s.heap.push PySem.W.emptyDict).get? s.heap.objs.size=some PySem.W.emptyDict:=Ch s.heap rfl;have e2:((s.heap.push PySem.W.emptyDict).push (PySem.W.instObj C s.heap.objs.size)).get? (s.heap.objs.size+1)=some (PySem.W.instObj C s.heap.objs.size):=by
  have:=Ch (s.heap.push PySem.W.emptyDict) (o:=PySem.W.instObj C s.heap.objs.size) rfl
  rwa [Heap.size_push] at this
 have e3:(s.heap.push PySem.W.emptyDict).Ns s.heap.objs.size (fun _=>none):=⟨PySem.W.emptyDict,#[],_,e1,rfl,(fun e he=>absurd he (by simp)),fun _=>rfl⟩
 have I1:=I.laid (a:=s.heap.objs.size) (o:=.own (s.heap.objs.size+1)) (h':=s.heap.push PySem.W.emptyDict) (t':=s.toks) (fun b u q=>BT _ q) (Gd _) ⟨_,e1⟩;refine I1.laid (a:=s.heap.objs.size+1) (o:=.ins C s.heap.objs.size []) (t':=s.toks) (fun b u q=>BT _ q) (Nat.le_of_eq (Heap.size_push _ _)) ?_;have ne:s.heap.objs.size≠s.heap.objs.size+1:=Gc (Nat.lt_succ_self _);refine ⟨by rw [ah ne,aD],Nat.zero_le _,ne,e2,fun _=>none,(Heap.Ns1.of_empty e3).at fun o q=>BT _ q,fun _=>True.intro,fun y hy=>absurd rfl hy⟩
theorem xZ {prog:Program} {w:World} {env:Env} {e:Expr} {f:Str} {pos:Pos} {s:Shared} {Q:Value->Shared->Prop} (hb:attributeBase e f env (eval e env)=eval e env)
  (h:wpAny (model prog w) A (eval e env) (fun o s₁=>wpAny (model prog w) A (getAttr o f true) Q E s₁) E s):wpAny (model prog w) A (eval (.Attribute e f pos) env) Q E s:=
 Attribute_any_ h (by rw [arm_eval_Attribute,hb])
end
noncomputable def FO (K:PySem.W.Frag) (ta:TE) (f:Str):TE:=fun σ H Q=>ta σ H fun x H1=>∃a C dx fs v,x=.ref a∧H1 a=some (.ins C dx fs)∧Cls K C∧b5 K C f∧fs.lookup f=some v∧Q v H1
noncomputable def FI (K:PySem.W.Frag) (ta tv:TE) (f:Str):TS:=fun D σ H=>tv σ H fun y H1=>ta σ H1 fun x H2=>∃a C dx fs,x=.ref a∧H2 a=some (.ins C dx fs)∧Cls K C∧b5 K C f∧fs.length<1000∧
 D.nx σ (upd H2 a (.ins C dx (b_ f y fs)))
section
variable {X:Cx} {o e value:Expr} {f:Str} {pos pos' tpos:Pos} {ta tv:TE}
theorem Cp (he:PE X e ta) (hb:attributeBase e f X.env (eval e X.env)=eval e X.env):PE X (.Attribute e f pos) (FO X.K ta f):=by
 intro pins s σ H Q I h;refine xZ hb (thn (he pins s σ H _ I h) fun u s1 ⟨x,H1,I1,rx,a,C,dx,fs,v,ex,ea,c,n,l,q⟩=>?_);subst ex;obtain rfl:u=Value.ref a:=rx;exact qM I1 ea c n l fun u' s2 I2 ru=>⟨v,H1,I2,ru,q⟩
theorem CF (ha:PE X o ta) (hv:PE X value tv) (hs:swapsWith value (some (.Attribute o f pos')) pos.line X.env=pure false):PS X (.Assign [.Attribute o f pos'] value pos) (FI X.K ta tv f):=by
 intro pins s σ H D I h;refine plainObj_wpAny_Assign_Attribute (thn (hv pins s σ H _ I h) fun u s1 ⟨y,H1,I1,ry,q⟩=>thn (ha pins s1 σ H1 _ I1 q) fun ov s2 ⟨x,H2,I2,rx,a,C,dx,fs,ex,ea,c,n,l,q2⟩=>?_) hs;subst ex;obtain rfl:ov=Value.ref a:=rx;exact rF I2 ea c n l ry fun s3 I3=>⟨σ,_,I3,q2⟩
end
structure aE (k:Nat) (A:Around):Prop where
 hd:A.handled=none
 dp:A.depth+3*k+5<recursionLimit
 un:A.units+16*k+200<cLine
theorem aE.mono (r:aE k A) (h:j<=k):aE j A:=⟨r.hd,by have:=r.dp;omega,by have:=r.un;omega⟩
theorem aE.deeper (r:aE (k+1) A) (env:Env):aE k (A.deeper env):=
 ⟨r.hd,by have:=r.dp;show A.depth+1+3*k+5<_;omega,by have:=r.un;show A.units+3+16*k+200<_;omega⟩
theorem q_ {A:Around} {C:Addr} {us:List Value} {kw:List (Str×Value)}:(A.under (.builtin "type.__call__" ⟨.ref C::us,kw⟩)).depth=A.depth+1:=by
 first|rfl|simp [Around.under,Code.weight,Code.isCreation,Code.isGuard,Code.isCaller,Code.frames,Code.isFrame,guardIds]
theorem rg {A:Around} {C:Addr} {us:List Value} {kw:List (Str×Value)}:(A.under (.builtin "type.__call__" ⟨.ref C::us,kw⟩)).units=A.units+1:=by
 first|rfl|simp [Around.under,Code.cUnits,Code.frames,Code.isFrame]
theorem aE.make (r:aE (k+1) A) (C:Addr) (us:List Value) (kw:List (Str×Value)):aE k (A.under (.builtin "type.__call__" ⟨.ref C::us,kw⟩)):=
 ⟨r.hd,by have:=r.dp;rw [q_];omega,by have:=r.un;rw [rg];omega⟩
theorem aE.depth (r:aE k A):A.depth<recursionLimit:=by have:=r.dp;omega
theorem aE.units (r:aE k A):A.units+64<cLine:=by have:=r.un;omega
noncomputable def rJ:TA:=fun _ H Q=>Q [] H
noncomputable def Ez (ta:TE) (tr:TA):TA:=fun σ H Q=>ta σ H fun x H1=>tr σ H1 fun xs H2=>Q (x::xs) H2
section
variable {X:Cx} {e:Expr} {es:List Expr} {te:TE} {t:TA} {pos:Pos}
theorem oH:PA X [] rJ:=fun _ _ _ _ H Q I h=>Calls.spliced_nil ⟨[],H,I,.nil,h⟩
theorem lI (ha:PE X e te) (hr:PA X es t) (hs:(starEach (e::es) X.env=(false,eval e X.env)::starEach es X.env)⁻¹):PA X (e::es) (Ez te t):=by
 intro pos pins s σ H Q I h;rw [hs];show wpAny _ _ (spliced ((false,eval e X.env)::backTo pos (starEach es X.env))) _ _ s;refine Calls.spliced_cons (thn (ha pins s σ H _ I h) fun u s1 ⟨x,H1,I1,r1,q1⟩=>?_);exact thn (hr pos pins s1 σ H1 _ I1 q1) fun us s2 ⟨xs,H2,I2,r2,q2⟩=>⟨x::xs,H2,I2,.cons r1 r2,q2⟩
noncomputable def FY (t:TA):TE:=fun σ H Q=>t σ H fun xs H1=>xs.length<=sizeLine∧∀p,H1 p=none->Q (.ref p) (upd H1 p (.tup xs))
noncomputable def FR (t:TA):TE:=fun σ H Q=>t σ H fun xs H1=>xs.length<=sizeLine∧∀p,H1 p=none->Q (.ref p) (upd H1 p (.lst xs))
theorem Cv {x1} (h:PA X es t):PE X (.Tuple es x1 pos) (FY t):=by
 intro pins s σ H Q I hq;refine wpAny_Tuple_spliced (thn (h pos pins s σ H _ I hq) fun us s1 ⟨xs,H1,I1,r,z,q⟩=>⟨by rw [←r.length];exact z,?_⟩);have hf:H1 s1.heap.objs.size=none:=I1.hok.fresh (Gd _);refine ⟨.ref s1.heap.objs.size,upd H1 s1.heap.objs.size (.tup xs),I1.laid (t':=s1.toks) (fun b u e=>BT _ e) (Gd _) ?_,rfl,q _ hf⟩;exact ⟨z,us,r,⟨_,Ch _ rfl,rfl,_,rfl⟩⟩
theorem tS (h:PA X es t):PE X (.List es pos) (FR t):=by
 intro pins s σ H Q I hq;refine wpAny_List_spliced (thn (h pos pins s σ H _ I hq) fun us s1 ⟨xs,H1,I1,r,z,q⟩=>⟨by rw [←r.length];exact z,?_⟩);have hf:H1 s1.heap.objs.size=none:=I1.hok.fresh (Gd _);refine ⟨.ref s1.heap.objs.size,upd H1 s1.heap.objs.size (.lst xs),I1.laid (t':=s1.toks) (fun b u e=>BT _ e) (Gd _) ?_,rfl,q _ hf⟩;exact ⟨z,us,0,r,Ch _ rfl⟩
end
noncomputable abbrev Sp:=List V->Hp->VK->XK->Prop
noncomputable abbrev CXT:=List Env->Hp->Shared->XK->Value->Shared->Prop
structure jv (P:Program) (w:World) (K:PySem.W.Frag) (mg:Str->Option Value) (base:Heap) (A:Around) (outer:List Env) (s:Shared) (H:Hp):Prop where
 frames:A.frames=some outer
 mod:Mod K mg base
 bs:∀b o,base.get? b=some o->s.heap.get? b=some o∧H b=none
 bsz:base.objs.size<=s.heap.objs.size
 c7:s.heap.FunFrames base outer
 frf:∀b∈frs outer,H b=none
 hok:HOk P w H s.heap
 bare:AllBare s.gens
noncomputable def CE (outer:List Env) (P:Program) (w:World) (H:Hp) (s:Shared) (Q:VK) (u:Value) (s':Shared):Prop:=
 ∃v H',s'.os=s.os∧AllBare s'.gens∧Un (frs outer) [] H H' s.heap s'.heap∧HOk P w H' s'.heap∧RelV v u∧Q v H'
noncomputable def CR (CX:CXT) (outer:List Env) (P:Program) (w:World) (H:Hp) (s:Shared) (Q:VK) (E:XK) (r:Result) (s':Shared):Prop:=
 match r with
 |.ok (.ret u)=>CE outer P w H s Q u s'
 |.ok _=>False
 |.error e=>CX outer H s E e s'
structure aG (P:Program) (w:World) (K:PySem.W.Frag) (mg:Str->Option Value) (base:Heap) (CX:CXT) (k:Nat) (f:Addr) (fd:FuncData) (ps:List Str) (sp:Sp):Prop where
 len:∀vs H Q E,sp vs H Q E->vs.length=ps.length
 run:∀(A:Around) (outer:List Env) (s:Shared) (H:Hp) (args:Args) (us:List Value) (vs:List V) (Q:VK) (E:XK),aE k A->jv P w K mg base A outer s H->BindsTo s fd args (ps.zip us)->Vals vs us->sp vs H Q E->
  codeAny (model P w) A (.call (.ref f) args) (CR CX outer P w H s Q E) s
theorem jv.make {P:Program} {w:World} {K:PySem.W.Frag} {mg:Str->Option Value} {base:Heap} {A:Around} {outer:List Env} {s:Shared} {H:Hp} (e:jv P w K mg base A outer s H) (C:Addr) (us:List Value) (kw:List (Str×Value)):
  jv P w K mg base (A.under (.builtin "type.__call__" ⟨.ref C::us,kw⟩)) outer s H:=⟨by first|exact e.frames|(simpa [Around.under,Code.envs,Code.isFrame,pushEnvs] using e.frames),e.mod,e.bs,e.bsz,e.c7,e.frf,e.hok,e.bare⟩
section
variable {X:Cx} {pins:List (Addr×Obj)} {σ:St} {H:Hp} {s s':Shared}
theorem Inv.qI (I:Inv X pins σ H s):jv X.prog X.w X.K X.mg X.base X.A X.stack s H:=
 ⟨I.ok.frames,I.ok.mod,I.bs,Gb I.ok.bsz I.sz,I.stack,I.lQ,I.hok,I.bare⟩
theorem Inv.after (I:Inv X pins σ H s) (h:CE X.stack X.prog X.w H s Q u s'):EP X pins σ Q u s':=by
 obtain ⟨v,H',os,bare,un,hok,r,q⟩:=h;obtain ⟨hh,g,d,t,os'⟩:=s';obtain rfl:os'=s.os:=os;exact ⟨v,H',I.call (h':=hh) (g':=g) (d':=d) (t':=t) (ch:=[]) un hok bare (fun b z=>absurd z (by simp)),r,q⟩
end
noncomputable def Ey (sp:Sp) (dvs:List V) (E:XK) (t:TA):TE:=fun σ H Q=>t σ H fun vs H1=>sp (vs++dvs) H1 Q E
noncomputable def xU (C:Addr) (m:Str) (sp:Sp) (dvs:List V) (E:XK) (ta:TE) (t:TA):TE:=fun σ H Q=>ta σ H fun x H1=>∃a dx fs,x=.ref a∧H1 a=some (.ins C dx fs)∧fs.lookup m=none∧
 t σ H1 fun vs H2=>sp (x::(vs++dvs)) H2 Q E
noncomputable def EC (C:Addr) (sp:Sp) (dvs:List V) (E:XK) (t:TA):TE:=fun σ H Q=>t σ H fun vs H1=>∀x dx,H1 x=none->H1 dx=none->dx≠x->
 sp (.ref x::(vs++dvs)) (upd (upd H1 dx (.own x)) x (.ins C dx [])) (fun v H2=>v=.non∧Q (.ref x) H2) E
noncomputable def Binds (K:PySem.W.Frag) (fd:FuncData) (ps:List Str) (ds:List Value):Prop:=
 ∀(s:Shared) (us:List Value),K.In s.heap->(us++ds).length=ps.length->BindsTo s fd ⟨us,[]⟩ (ps.zip (us++ds))
theorem Binds.all {K:PySem.W.Frag} {fd:FuncData} {ps:List Str} (h:∀us:List Value,us.length=ps.length->bindArgs fd ⟨us,[]⟩=pure (ps.zip us)):Binds K fd ps []:=fun s us _ hl=>by
 rw [List.append_nil] at hl ⊢;exact .of_eq (h us hl)
noncomputable def Passes (CX:CXT) (X:Cx) (E:XK):Prop:=∀(pins:List (Addr×Obj)) (σ:St) (H:Hp) (s:Shared) (e:Value) (s':Shared),Inv X pins σ H s->CX X.stack H s E e s'->X.xe e s'
section
variable {X:Cx} {CX:CXT} {k:Nat} {f C:Addr} {fd:FuncData} {ps:List Str} {sp:Sp} {dvs:List V} {ds:List Value} {E:XK} {x m:Str} {p pos apos:Pos} {e o:Expr} {es:List Expr} {ta:TE} {t:TA}
theorem oU {pins:List (Addr×Obj)} {σ:St} {H:Hp} {s:Shared} {Q:VK} {us:List Value} {vs:List V} (F:aG X.prog X.w X.K X.mg X.base CX k f fd ps sp) (hr:aE k X.A) (hb:Binds X.K fd ps ds) (hd:Vals dvs ds) (hx:Passes CX X E)
  (I:Inv X pins σ H s) (r:Vals vs us) (h:sp (vs++dvs) H Q E):wpAny (model X.prog X.w) X.A (call (.ref f) us) (EP X pins σ Q) X.xe s:=by
 have r2:Vals (vs++dvs) (us++ds):=r.append hd;have hl:(us++ds).length=ps.length:=by rw [←r2.length];exact F.len _ _ _ _ h
 refine wpAny_call (codeAny_mono (F.run X.A X.stack s H ⟨us,[]⟩ (us++ds) (vs++dvs) Q E hr I.qI (hb s us I.kIn hl) r2 h) fun r s' hq=>?_);cases r with
 |error e=>exact hx pins σ H s e s' I hq
 |ok fl=>
  cases fl with
  |ret u=>exact I.after hq
  |next=>exact False.elim hq
  |brk=>exact False.elim hq
  |cont=>exact False.elim hq
theorem p8 (F:aG X.prog X.w X.K X.mg X.base CX k f fd ps sp) (hr:aE k X.A) (hg:Gl X x) (hm:X.mg x=some (.ref f)) (hk:PySem.W.keepIn X.K (.ref f)=true) (hb:Binds X.K fd ps ds) (hd:Vals dvs ds) (hx:Passes CX X E)
  (ha:PA X (e::es) t) (hdb: ~~~((x==("__debug__":Str))=false)) (he:(starEach (e::es) X.env=(false,eval e X.env)::starEach es X.env)⁻¹) (hpl:((backTo pos (starEach es X.env)).any (·.1)=false)⁻¹):
  PE X (.Call (.Name x p) (e::es) [] pos) (Ey sp dvs E t):=by
 intro pins s σ H Q I h;refine wpAny_Call_Name_kw (dS I hg hm ?_ hdb);refine PySem.W.callWith_K (h₀:=X.base) I.ok.mod.kin hk (thn (ha pos pins s σ H _ I h) fun us s1 ⟨vs,H1,I1,r,q⟩=>⟨I1.kIn,?_⟩) he hpl;exact oU F hr hb hd hx I1 r q
theorem qe (he:PE X o ta) (c:Cls X.K C) (hm:Meth X.K C m f) (F:aG X.prog X.w X.K X.mg X.base CX k f fd ps sp) (hr:aE k X.A) (hb:Binds X.K fd ps ds) (hd:Vals dvs ds) (hx:Passes CX X E) (ha:PA X (e::es) t)
  (hst:(starEach (e::es) X.env=(false,eval e X.env)::starEach es X.env)⁻¹) (hpl:((backTo pos (starEach es X.env)).any (·.1)=false)⁻¹)
  (ht:(eval (.Call (.Attribute o m apos) (e::es) [] pos) X.env=(do
   let ov←eval o X.env
   standAt apos.atName
   let (f,first)←holding [ov] (getMethod ov m pl)
   callWith pos f first (backTo pos (starEach (e::es) X.env)) (backToKw pos (keywordEach [] X.env))))⁻¹):
  PE X (.Call (.Attribute o m apos) (e::es) [] pos) (xU C m sp dvs E ta t):=by
 intro pins s σ H Q I h;refine PySem.W.methodCall_KW (pl:=pl) (thn (he pins s σ H _ I h) fun u s1 ⟨x,H1,I1,rx,a,dx,fs,ex,ea,l,q⟩=>?_) ht;subst ex;obtain rfl:u=Value.ref a:=rx;refine eK I1 ea c hm l ?_;refine PySem.W.callWith_K (first:=[.ref a]) (h₀:=X.base) I.ok.mod.kin hm.kp (thn (ha pos pins s1 σ H1 _ I1 q) fun us s2 ⟨vs,H2,I2,r,q2⟩=>⟨I2.kIn,?_⟩) hst hpl;exact oU (us:=.ref a::us) (vs:=.ref a::vs) F hr hb hd hx I2 (.cons rfl r) q2
theorem oJ (he:PE X o ta) (c:Cls X.K C) (hm:Meth X.K C m f) (F:aG X.prog X.w X.K X.mg X.base CX k f fd ps sp) (hr:aE k X.A) (hb:Binds X.K fd ps ds) (hd:Vals dvs ds) (hx:Passes CX X E)
  (ht:(eval (.Call (.Attribute o m apos) [] [] pos) X.env=(do
   let ov←eval o X.env
   standAt apos.atName
   let (f,first)←holding [ov] (getMethod ov m pl)
   callWith pos f first (backTo pos (starEach [] X.env)) (backToKw pos (keywordEach [] X.env))))⁻¹):
  PE X (.Call (.Attribute o m apos) [] [] pos) (xU C m sp dvs E ta rJ):=by
 intro pins s σ H Q I h;refine PySem.W.methodCall_KW (pl:=pl) (thn (he pins s σ H _ I h) fun u s1 ⟨x,H1,I1,rx,a,dx,fs,ex,ea,l,q⟩=>?_) ht;subst ex;obtain rfl:u=Value.ref a:=rx;refine eK I1 ea c hm l ?_;exact PySem.W.callWith_K0 (first:=[.ref a]) I1.kIn hm.kp (oU (us:=[.ref a]) (vs:=[.ref a]) F hr hb hd hx I1 (.cons rfl .nil) q)
structure Mk (K:PySem.W.Frag) (C f:Addr):Prop where
 makes:PySem.W.makesIn K C=true
 init:PySem.W.findIn K (.ref C) "__init__"=some (some (.ref f))
 fn:PySem.W.isFn K (.ref f)=true
 kp:PySem.W.keepIn K (.ref C)=true
theorem wB (M:Mk X.K C f) (F:aG X.prog X.w X.K X.mg X.base CX k f fd ps sp) (hr:aE (k+1) X.A) (hb:Binds X.K fd ps ds) (hd:Vals dvs ds)
  (hx:Passes CX X E) (I:Inv X pins σ H s) (r:Vals vs us)
  (h:∀x dx,H x=none->H dx=none->dx≠x->sp (.ref x::(vs++dvs)) (upd (upd H dx (.own x)) x (.ins C dx [])) (fun v H2=>v=.non∧Q (.ref x) H2) E):
  wpAny (model X.prog X.w) X.A (call (.ref C) us) (EP X pins σ Q) X.xe s:=by
 have hq:=h (s.heap.objs.size+1) s.heap.objs.size (I.hok.fresh (Nat.le_succ _)) (I.hok.fresh (Gd _)) (Gc (Nat.lt_succ_self _));have I2:=Inv.made (C:=C) I;have r2:Vals (V.ref (s.heap.objs.size+1)::(vs++dvs)) (Value.ref (s.heap.objs.size+1)::(us++ds)):=.cons rfl (r.append hd);have hl:(Value.ref (s.heap.objs.size+1)::us++ds).length=ps.length:=by
  have e:=r2.length;rw [F.len _ _ _ _ hq] at e;exact e.symm
 refine wpAny_call (ou (f:=f) I.kIn M.makes M.init (beq_iff_eq.mp M.fn) (codeAny_mono (F.run _ X.stack _ _ ⟨Value.ref (s.heap.objs.size+1)::us,[]⟩ (Value.ref (s.heap.objs.size+1)::(us++ds)) _ _ E (hr.make C us [])
  (I2.qI.make C us []) (hb _ (Value.ref (s.heap.objs.size+1)::us) I2.kIn hl) r2 hq) fun r s' hq'=>?_))
 cases r with
 |error e=>exact hx pins σ _ _ e s' I2 hq'
 |ok fl=>
  cases fl with
  |ret u=>
   obtain ⟨v,H',I3,rv,ev,q3⟩:=I2.after hq';subst ev;exact ⟨rv,⟨V.ref (s.heap.objs.size+1),H',I3,rfl,q3⟩⟩
  |next=>exact False.elim hq'
  |brk=>exact False.elim hq'
  |cont=>exact False.elim hq'
theorem zF (M:Mk X.K C f) (F:aG X.prog X.w X.K X.mg X.base CX k f fd ps sp) (hr:aE (k+1) X.A) (hg:Gl X x) (hm:X.mg x=some (.ref C)) (hb:Binds X.K fd ps ds) (hd:Vals dvs ds) (hx:Passes CX X E)
  (ha:PA X (e::es) t) (hdb: ~~~((x==("__debug__":Str))=false)) (he:(starEach (e::es) X.env=(false,eval e X.env)::starEach es X.env)⁻¹) (hpl:((backTo pos (starEach es X.env)).any (·.1)=false)⁻¹):
  PE X (.Call (.Name x p) (e::es) [] pos) (EC C sp dvs E t):=by
 intro pins s σ H Q I h;refine wpAny_Call_Name_kw (dS I hg hm ?_ hdb);refine PySem.W.callWith_K (h₀:=X.base) I.ok.mod.kin M.kp (thn (ha pos pins s σ H _ I h) fun us s1 ⟨vs,H1,I1,r,q⟩=>⟨I1.kIn,?_⟩) he hpl;exact wB M F hr hb hd hx I1 r q
end
noncomputable def PK (X:Cx) (kws:List Keyword) (t:TA):Prop:=
 ∀(pos:Pos) (pins:List (Addr×Obj)) (s:Shared) (σ:St) (H:Hp) (Q:List V->Hp->Prop),Inv X pins σ H s->t σ H Q->wpAny (model X.prog X.w) X.A (evalAll ((backToKw pos (keywordEach kws X.env)).map (·.2))) (AP X pins σ Q) X.xe s
structure bP (N P:List Str) (sc:Scope):Prop where
 kind:sc.kind=.function
 co:sc.isCoroutine=false
 gen:sc.isGenerator=false
 nd:N.Nodup
 pre:N.take P.length=P
 par:∀x∈P,sc.names.lookup x=some .local∨sc.names.lookup x=some .cell
 B2:∀y∈sc.names,y.2≠.free
theorem lY {kindOf:Str->Option NameKind} {x:Str}:∀{binds:List (Str×Value)} {m:Str->Option Value},(∀v,(x,v)∉binds)->bindL kindOf binds m x=m x
 |[],_,_=>rfl
 |(n,v)::r,m,h=>by
  unfold bindL;rw [lY fun w hw=>h w (EQ _ hw)];split
  ·have:x≠n:=by rintro rfl;exact h v Fa
   simp [this]
  ·rfl
theorem lW {kindOf:Str->Option NameKind} {x:Str}:∀{binds:List (Str×Value)} {m:Str->Option Value},(∀v,(x,v)∉binds)->bindC kindOf binds m x=m x
 |[],_,_=>rfl
 |(n,v)::r,m,h=>by
  unfold bindC;rw [lW fun w hw=>h w (EQ _ hw)];split
  ·rfl
  ·have:x≠n:=by rintro rfl;exact h v Fa
   simp [this]
theorem lX {kindOf:Str->Option NameKind} {x:Str} {v:Value}:∀{P:List Str} {vs:List Value} {i:Nat} {m:Str->Option Value},P.Nodup->P[i]?=some x->vs[i]?=some v->kindOf x=some .local->
  bindL kindOf (P.zip vs) m x=some v
 |[],_,_,_,_,h,_,_=>by simp at h
 |_::_,[],_,_,_,_,h,_=>by simp at h
 |p::P,w::vs,0,m,nd,h1,h2,hk=>by
  simp at h1 h2;subst h1;subst h2;show bindL kindOf ((p,w)::P.zip vs) m p=_;unfold bindL;rw [lY fun v hv=>(List.nodup_cons.mp nd).1 (List.of_mem_zip hv).1,if_pos hk];simp
 |p::P,w::vs,i+1,m,nd,h1,h2,hk=>by
  show bindL kindOf ((p,w)::P.zip vs) m x=_;unfold bindL;exact lX (i:=i) (List.nodup_cons.mp nd).2 (by simpa using h1) (by simpa using h2) hk
theorem lV {kindOf:Str->Option NameKind} {x:Str} {v:Value}:∀{P:List Str} {vs:List Value} {i:Nat} {m:Str->Option Value},P.Nodup->P[i]?=some x->vs[i]?=some v->kindOf x≠some .local->
  bindC kindOf (P.zip vs) m x=some v
 |[],_,_,_,_,h,_,_=>by simp at h
 |_::_,[],_,_,_,_,h,_=>by simp at h
 |p::P,w::vs,0,m,nd,h1,h2,hk=>by
  simp at h1 h2;subst h1;subst h2;show bindC kindOf ((p,w)::P.zip vs) m p=_;unfold bindC;rw [lW fun v hv=>(List.nodup_cons.mp nd).1 (List.of_mem_zip hv).1,if_neg hk];simp
 |p::P,w::vs,i+1,m,nd,h1,h2,hk=>by
  show bindC kindOf ((p,w)::P.zip vs) m x=_;unfold bindC;exact lV (i:=i) (List.nodup_cons.mp nd).2 (by simpa using h1) (by simpa using h2) hk
noncomputable def start (N:List Str) (vs:List V):St:=vs.map some++List.replicate (N.length - vs.length) none
noncomputable def b9 (CX:CXT) (P:Program) (w:World) (K:PySem.W.Frag) (mg:Str->Option Value) (base:Heap) (N:List Str) (qual:Str) (scope:Scope) (f:Addr) (cd:Value) (A:Around) (outer:List Env) (s:Shared) (H:Hp) (E:XK):Cx where
 prog:=P
 w:=w
 K:=K
 mg:=mg
 base:=base
 A:=A.deeper (envOfC qual scope s.heap.objs.size f cd)
 N:=N
 s₀:=s
 H₀:=H
 env:=envOfC qual scope s.heap.objs.size f cd
 outer:=outer
 stack:=envOfC qual scope s.heap.objs.size f cd::outer
 ex:=[]
 calm:=true
 fn:=fun _=>true
 pn:=[]
 xe:=fun e s'=>wpAny (model P w) (A.deeper (envOfC qual scope s.heap.objs.size f cd)) (leaving (envOfC qual scope s.heap.objs.size f cd) e) (fun _ s''=>CX outer H s E e s'') (fun e' s''=>CX outer H s E e' s'') s'
theorem nJ {sc:Scope} {n:Nat} {x:Str} (h:sc.names.lookup x=some .cell):∃c,(cellsFrom n sc.names []).lookup x=some c:=by
 have q:=PySem.W.cellsFrom_some sc.names n [] (.inl h);exact Option.isSome_iff_exists.mp q
theorem tj {CX:CXT} {P:Program} {w:World} {K:PySem.W.Frag} {mg:Str->Option Value} {base:Heap} {N ps:List Str} {qual:Str} {scope:Scope} {f:Addr} {cd:Value} {A:Around} {outer:List Env} {s s1:Shared} {H:Hp} {E:XK} {us:List Value} {vs:List V}
  (S:bP N ps scope) (hd:A.handled=none) (e0:jv P w K mg base A outer s H) (hl:vs.length=ps.length) (r:Vals vs us)
  (x:InCallC s s.heap.objs.size (bindL (envOfC qual scope s.heap.objs.size f cd).kindOf (ps.zip us) fun _=>none) (cellsFrom (s.heap.objs.size+1) scope.names []) (bindC (envOfC qual scope s.heap.objs.size f cd).kindOf (ps.zip us) fun _=>none) s1):
  Inv (b9 CX P w K mg base N qual scope f cd A outer s H E) [] (start N vs) H s1:=by
 have hpl:ps.length<=N.length:=by have:=congrArg List.length S.pre;rw [List.length_take] at this;omega
 obtain ⟨h1,tk,rfl,hk⟩:=x.done;have noA:∀b:Addr,b∉(b9 CX P w K mg base N qual scope f cd A outer s H E).ex:=fun b z=>absurd (show b∈([]:List Addr) from z) (by simp);refine ⟨⟨e0.mod,S.kind,rfl,rfl,Gd _,fun y z c h1 h2=>?_,fun y hy=>?_,fun y c _ h=>?_,fun _=>hd,Around.frames_deeper e0.frames,.inr ⟨rfl,rfl⟩,fun b z=>absurd z (noA b),e0.bs,e0.bsz,fun b _ _=>noA b,fun b z=>absurd z (noA b),e0.c7,e0.frf⟩,
  rfl,e0.bare,Un.kept hk,⟨_,x.toInCall.ns,fun i y v h1 h2 h3=>?_⟩,fun y c h=>⟨_,x.cell y c h⟩,e0.hok.fresh (Gd _),fun y c h=>?_,fun p hp=>absurd (show p∈([]:List (Addr×Obj)) from hp) (by simp),e0.hok.kept hk,?_⟩
 ·exact name_of_addr x.apart (PySem.mem_of_lookup h1) (PySem.mem_of_lookup h2)
 ·have hy:scope.names.lookup y=some .cell∨scope.names.lookup y=some .free:=hy;rcases hy with hy|hy
  ·exact nJ hy
  ·exact absurd rfl (S.B2 _ (PySem.mem_of_lookup hy))
 ·exact Nat.le_of_lt (x.above y c (PySem.mem_of_lookup h))
 ·have hi:i<vs.length:=by
   unfold start at h2
   by_cases hi:i<vs.length
   ·exact hi
   ·rw [List.getElem?_append_right (by simpa using hi)] at h2;rw [List.getElem?_replicate] at h2;split at h2<;>cases h2
  have ha:vs[i]?=some v:=by
   unfold start at h2;rw [List.getElem?_append_left (by simpa using hi),List.getElem?_map] at h2;cases e:vs[i]? with
   |none=>rw [e] at h2;cases h2
   |some a=>rw [e] at h2;cases h2;rfl
  obtain ⟨u,hu,rv⟩:=r.get ha;have hp:ps[i]?=some y:=by
   rw [←S.pre,List.getElem?_take_of_lt (by omega)];exact h1
  have ndP:ps.Nodup:=by rw [←S.pre];exact S.nd.sublist (List.take_sublist _ _)
  refine ⟨u,rv,?_⟩;rcases S.par y (List.mem_of_getElem? hp) with k|k
  ·exact .inl ⟨k,lX ndP hp hu k⟩
  ·obtain ⟨c,e⟩:=nJ (n:=s.heap.objs.size+1) k;refine .inr ⟨.inl k,c,e,?_⟩;have q:=x.cell y c e;rw [lV ndP hp hu (by show scope.names.lookup y≠_;rw [k];decide)] at q;exact q
 ·exact e0.hok.fresh (Nat.le_of_lt (x.above y c (PySem.mem_of_lookup h)))
 ·unfold start;show _=N.length;rw [F5,F6,List.length_replicate];omega
theorem xa {CX:CXT} {P:Program} {w:World} {K:PySem.W.Frag} {mg:Str->Option Value} {base:Heap} {k:Nat} {f:Addr} {name qual:Str} {params:Arguments} {body:List Stmt} {scope:Scope} {dV kV doc pm cdv ct oc:Value} {an od:Option Addr}
  {osl:Array (Option Value)} {N ps:List Str} {sp:Sp} (lk:K.lookup f=some ⟨oc,od,.func (PySem.W.fnOf name qual params body scope dV kV doc pm an cdv ct),osl⟩) (hcd:PySem.W.codeIn K cdv qual=true) (S:bP N ps scope)
  (len:∀vs H Q E,sp vs H Q E->vs.length=ps.length)
  (hbody:∀(A:Around) (outer:List Env) (s:Shared) (H:Hp) (vs:List V) (Q:VK) (E:XK),aE k (A.deeper (envOfC qual scope s.heap.objs.size f cdv))->sp vs H Q E->
   ∃t,PSs (b9 CX P w K mg base N qual scope f cdv A outer s H E) body t∧t {nx:=fun _ H'=>Q .non H',rt:=Q} (start N vs) H):
  aG P w K mg base CX (k+1) f (PySem.W.fnOf name qual params body scope dV kV doc pm an cdv ct) ps sp:=by
 refine ⟨len,fun A outer s H args us vs Q E hr e0 hb r hsp=>?_⟩;have hl:=len _ _ _ _ hsp;have KX:K.In s.heap:=e0.mod.kin.keeps fun b o e=>(e0.bs b o e).1;have lim:s.heap.NoLimit:=e0.mod.nolimit.keeps fun b o e=>(e0.bs b o e).1;have hkind:∀y∈ps.zip us,scope.names.lookup y.1=some .local∨(scope.names.lookup y.1=some .cell∧((cellsFrom (s.heap.objs.size+1) scope.names []).lookup y.1).isSome=true):=fun ⟨n,v⟩ hy=>by
  rcases S.par n (List.of_mem_zip hy).1 with q|q
  ·exact .inl q
  ·exact .inr ⟨q,PySem.W.cellsFrom_some _ _ _ (.inl q)⟩
 refine codeAny_call_function hr.depth (KX _ _ lk) rfl S.co S.gen rfl (PySem.W.codeRec_of KX hcd) (hb _ _ _ _ ?_);refine wpAny_newFunctionEnv_cells S.kind hkind fun env he s1 x=>?_;subst he;refine ⟨lim.keeps x.toInCall.keep,codeAny_func ?_⟩;obtain ⟨t,ht,hq⟩:=hbody A outer s H vs Q E (hr.deeper _) hsp;have I:Inv (b9 CX P w K mg base N qual scope f cdv A outer s H E) [] (start N vs) H s1:=tj S hr.hd e0 hl r x;refine AT (ht [] s1 (start N vs) H _ I hq) (fun fl s' hs=>?_) fun e s' hs=>hs;have fin:∀{σ':St} {H':Hp} {v:V} {u:Value},Inv (b9 CX P w K mg base N qual scope f cdv A outer s H E) [] σ' H' s'->RelV v u->Q v H'->CE outer P w H s Q u s':=
  fun {σ' H' v u} J rv q=>⟨v,H',J.os,J.bare,J.base,J.hok,rv,q⟩
 cases fl with
 |ret u=>
  obtain ⟨v,σ',H',J,rv,q⟩:=hs;exact fin J rv q
 |next=>
  obtain ⟨σ',H',J,q⟩:=hs;exact fin (v:=V.non) (u:=Value.none) J rfl q
 |brk=>
  obtain ⟨_,_,_,q⟩:=hs;exact False.elim q
 |cont=>
  obtain ⟨_,_,_,q⟩:=hs;exact False.elim q
section
variable {X:Cx} {x:Str} {p pos:Pos} {e:Expr} {es:List Expr} {t:TA} {id T:String} {r:List V->Hp->VK->Prop}
noncomputable def tCB (r:List V->Hp->VK->Prop) (t:TA):TE:=fun σ H Q=>t σ H fun vs H1=>r vs H1 Q
theorem v7 (hc:dw X (.builtin id) r) (hg:Gl X x) (hm:X.mg x=none) (hv:bootBuiltins x=some (.builtin id)) (ha:PA X (e::es) t) (hn: ~~~(x≠"__name__")) (hdb: ~~~((x==("__debug__":Str))=false))
  (he:(starEach (e::es) X.env=(false,eval e X.env)::starEach es X.env)⁻¹) (hpl:((backTo pos (starEach es X.env)).any (·.1)=false)⁻¹):PE X (.Call (.Name x p) (e::es) [] pos) (tCB r t):=by
 intro pins s σ H Q I h;refine wpAny_Call_Name_kw (fA I hg hm hv ?_ hn hdb);exact PyProof.Rows.callWith_builtin1 (thn (ha pos pins s σ H _ I h) fun us s1 ⟨vs,H1,I1,r1,q1⟩=>hc pins s1 σ H1 vs us Q I1 r1 q1) he hpl
theorem mz (hc:dw X (.type T) r) (hg:Gl X x) (hm:X.mg x=none) (hv:bootBuiltins x=some (.type T)) (ha:PA X (e::es) t) (hn: ~~~(x≠"__name__")) (hdb: ~~~((x==("__debug__":Str))=false))
  (he:(starEach (e::es) X.env=(false,eval e X.env)::starEach es X.env)⁻¹) (hpl:((backTo pos (starEach es X.env)).any (·.1)=false)⁻¹):PE X (.Call (.Name x p) (e::es) [] pos) (tCB r t):=by
 intro pins s σ H Q I h;refine wpAny_Call_Name_kw (fA I hg hm hv ?_ hn hdb);exact PyProof.Rows.callWith_type1 (thn (ha pos pins s σ H _ I h) fun us s1 ⟨vs,H1,I1,r1,q1⟩=>hc pins s1 σ H1 vs us Q I1 r1 q1) he hpl
end
end L2
namespace HT
open PySem PyProof.Rows
section
variable {prog:Program} {w:World} {A:Around} {E:Value->Shared->Prop} {s:Shared}
theorem yf (ht:IsTup s.heap t vs.toArray) (hb:IsTup s.heap b ws.toArray) (hv:vs≠[])
  (h1:ws=[]->Q (.ref t) s) (h2:ws≠[]->Q (.ref s.heap.objs.size) {s with heap:=s.heap.push {cls:=.type "tuple",data:=.seq (vs++ws).toArray}})
  (hsz:vs.length+ws.length<=sizeLine):wpAny (model prog w) A (binaryOp .Add (.ref t) (.ref b)) Q E s:=by
 obtain ⟨⟨cls,dd,data,sl⟩,ho,hc,n,hd⟩:=id ht;obtain ⟨⟨cls2,dd2,data2,sl2⟩,ho2,hc2,n2,hd2⟩:=id hb;simp only at hc hd hc2 hd2;subst hc hd hc2 hd2;have e:vs.toArray++ws.toArray=(vs++ws).toArray:=by simp
 by_cases hw:ws=[]
 ·exact concat_meets ⟨_,ho,rfl⟩ ⟨_,ho2,rfl⟩ noFill_tuple_add seq_tuple_add PySem.F.slot_tuple_add PySem.F.entry_tuple_add (PySem.F.args_tuple_add_2 _ _)
   (tuple_addW1 t b vs.toArray ws.toArray n n2 dd dd2 sl sl2 (by simpa using hv) (by simp [hw])) ⟨ho,ho2,h1 hw⟩
 ·refine concat_meets ⟨_,ho,rfl⟩ ⟨_,ho2,rfl⟩ noFill_tuple_add seq_tuple_add PySem.F.slot_tuple_add PySem.F.entry_tuple_add (PySem.F.args_tuple_add_2 _ _)
   (tuple_addW2 t b vs.toArray ws.toArray n n2 dd dd2 sl sl2 (by simpa using hv) (by simpa using hw) (by rw [List.size_toArray,List.size_toArray];exact hsz)) ⟨ho,ho2,?_⟩
  rw [e];exact h2 hw
noncomputable def sIx (n d:Nat):Option Int->Nat
 |none=>d
 |some v=>if v<0 then (v+(n:Int)).toNat else min v.toNat n
end
end HT
namespace L2
open PySem PySem.Spec PyProof.Rows
noncomputable abbrev TO:=St->Hp->(Option Int->Hp->Prop)->Prop
noncomputable def PO (X:Cx) (e:Option Expr) (t:TO):Prop:=
 ∀(pins:List (Addr×Obj)) (s:Shared) (σ:St) (H:Hp) (Q:Option Int->Hp->Prop),Inv X pins σ H s->t σ H Q->
  wpAny (model X.prog X.w) X.A (evalPart e X.env) (fun u s'=>∃o H',Inv X pins σ H' s'∧IsPart u o∧Q o H') X.xe s
noncomputable def Ah:TO:=fun _ H Q=>Q none H
noncomputable def EH (t:TE):TO:=fun σ H Q=>t σ H fun x H1=>∃i,x=.int i∧Q (some i) H1
section
variable {X:Cx} {e:Expr} {te:TE} {lo hi:Option Expr} {tl th:TO} {pos p2:Pos}
theorem zO:PO X none Ah:=by
 intro pins s σ H Q I h;rw [evalPart_none];exact AC ⟨none,H,I,.none,h⟩
theorem zP (h:PE X e te):PO X (some e) (EH te):=by
 intro pins s σ H Q I hw;rw [evalPart_some];refine thn (h pins s σ H _ I hw) fun u s1 ⟨x,H1,I1,r1,q1⟩=>?_;obtain ⟨i,rfl,q⟩:=q1;obtain ⟨t,rfl⟩:=r1;exact ⟨some i,H1,I1,.int i t,q⟩
noncomputable def Es (K:PySem.W.Frag):R2:=fun x y H Q=>∃a b xs ys,x=.ref a∧y=.ref b∧SqT K H a xs∧SqT K H b ys∧xs≠[]∧xs.length+ys.length<=sizeLine∧
 (ys=[]->Q (.ref a) H)∧(ys≠[]->∀p,H p=none->Q (.ref p) (upd H p (.tup (xs++ys))))
theorem Vals.lF (r:Vals xs us):us=[]↔xs=[]:=by
 cases r with
 |nil=>simp
 |cons _ _=>simp
theorem zt:OpR X (binaryOp .Add) (Es X.K):=by
 intro pins s σ H x y v u Q I rx ry h;obtain ⟨a,b,xs,ys,rfl,rfl,ha,hb,hx,hz,q1,q2⟩:=h;cases rx;cases ry;obtain ⟨its,r1,p1,_⟩:=I.tuple ha;obtain ⟨its2,r2,p2,_⟩:=I.tuple hb;refine HT.yf p1 p2 (fun z=>hx (r1.lF.mp z)) (fun z=>⟨.ref a,H,I,rfl,q1 (r2.lF.mp z)⟩) (fun z=>?_) (by rw [←r1.length,←r2.length];exact hz);refine ⟨.ref s.heap.objs.size,_,I.laid (t':=s.toks) (o:=.tup (xs++ys)) (fun b ob q=>BT _ q) (Gd _) ?_,rfl,q2 (fun w=>z (r2.lF.mpr w)) _ (I.hok.fresh (Gd _))⟩;exact ⟨by rw [F5];exact hz,_,r1.append r2,IsTup.new _ _⟩
end
noncomputable def ixN (n:Nat) (i:Int):Option Nat:=if 0<=i then (if i<n then some i.toNat else none) else if -(n:Int)<=i then some (i+n).toNat else none
noncomputable def atI {α:Type} (xs:List α) (i:Int):Option α:=(ixN xs.length i).bind fun j=>xs[j]?
theorem y7 (h:ixN n i=some j):seqIndex? i n=some j∧j<n∧ -(n:Int)<=i∧i<n:=by
 unfold ixN at h
 by_cases h0:0<=i
 ·rw [if_pos h0] at h
  by_cases h1:i<n
  ·rw [if_pos h1] at h;have e:i.toNat=j:=Gi h;exact ⟨by rw [seqIndex_of h0 h1,e],by omega,by omega,h1⟩
  ·rw [if_neg h1] at h;cases h
 ·rw [if_neg h0] at h
  by_cases h1: -(n:Int)<=i
  ·rw [if_pos h1] at h;have e:(i+n).toNat=j:=Gi h;exact ⟨by rw [seqIndex_neg (by omega) h1,e],by omega,h1,by omega⟩
  ·rw [if_neg h1] at h;cases h
theorem pv {α:Type} {xs:List α} {i:Int} {v:α} (h:atI xs i=some v):∃j,seqIndex? i xs.length=some j∧xs[j]?=some v∧j<xs.length∧ -(xs.length:Int)<=i∧i<xs.length:=by
 unfold atI at h;cases e:ixN xs.length i with
 |none=>rw [e] at h;cases h
 |some j=>
  rw [e] at h;obtain ⟨h1,h2,h3,h4⟩:=y7 e;exact ⟨j,h1,h,h2,h3,h4⟩
theorem pw {α:Type} {xs:List α} {j:Nat} {v:α} (h:xs[j]?=some v):atI xs (j:Int)=some v:=by
 have hj:j<xs.length:=(FS.mp h).1;have e:ixN xs.length (j:Int)=some j:=by
  unfold ixN;rw [if_pos (by omega),if_pos (by omega)];simp
 unfold atI;rw [e];exact h
noncomputable def k6 (b:Expr):Prop:=∀o i,subscripted b false o i=operate [o,i] (getItem o i)
noncomputable def IxR (X:Cx) (r:R2):Prop:=
 ∀(value slice:Expr) (pins:List (Addr×Obj)) (s:Shared) (σ:St) (H:Hp) (x y:V) (v u:Value) (Q:VK),Inv X pins σ H s->RelV x v->RelV y u->r x y H Q->
  subscripted slice false v u=operate [v,u] (getItem v u)->wpAny (model X.prog X.w) X.A (subscriptTail value slice v u) (EP X pins σ Q) X.xe s
noncomputable def MtR (X:Cx) (id:String) (r:V->List V->Hp->VK->Prop):Prop:=
 ∀(pins:List (Addr×Obj)) (s:Shared) (σ:St) (H:Hp) (x:V) (xs:List V) (v:Value) (us:List Value) (Q:VK),Inv X pins σ H s->RelV x v->Vals xs us->r x xs H Q->
  wpAny (model X.prog X.w) X.A (call (.builtin id) (v::us)) (EP X pins σ Q) X.xe s
section
variable {X:Cx} {a b:Expr} {ta tb:TE} {pos:Pos}
theorem xN (hr:IxR X r) (ha:PE X a ta) (hb:PE X b tb) (hs:k6 b):PE X (.Subscript a b pos) (tOp r ta tb):=by
 intro pins s σ H Q I h;exact Subscript_ (uM ha hb I h fun v u s2 x y H2 I2 rx ry q=>hr a b pins s2 σ H2 x y v u Q I2 rx ry q (hs _ _))
noncomputable def FG (K:PySem.W.Frag):R2:=fun x y H Q=>∃p xs i v,x=.ref p∧y=.int i∧SqL K H p xs∧atI xs i=some v∧Q v H
noncomputable def FH (K:PySem.W.Frag):R2:=fun x y H Q=>∃p xs i v,x=.ref p∧y=.int i∧SqT K H p xs∧atI xs i=some v∧Q v H
theorem y8:IxR X (FG X.K):=by
 intro value slice pins s σ H x y v u Q I rx ry h hs;obtain ⟨p,xs,i,z,rfl,rfl,hq,he,q⟩:=h;cases rx;obtain ⟨t,rfl⟩:=ry;obtain ⟨its,r,pl,hz⟩:=I.list hq;obtain ⟨j,h1,h2,h3,h4,h5⟩:=pv he;obtain ⟨w,ew,rw'⟩:=r.get h2;have hl:=r.length;have hn:=ky;have fin:EP X pins σ Q w s:=⟨z,H,I,rw',q⟩
 by_cases h0:0<=i
 ·have hj:i.toNat=j:=by
   rw [seqIndex_of h0 h5] at h1;exact Gi h1
  exact item_listR pl.isList h0 (by omega) (by rw [hj];simpa using ew) fin hs
 ·have hj:(i+(its.toArray.size:Int)).toNat=j:=by
   rw [seqIndex_neg (by omega) h4] at h1;rw [List.size_toArray,←hl];exact Gi h1
  exact subscriptTail_builtinR (x:=w) pl.isList.typeIs slot_list_getitem.lookup
   (wpAny_getItem_list_neg (Q:=fun r s'=>r=w∧EP X pins σ Q r s') pl.isList (by omega) (by rw [List.size_toArray]<;>omega) (by omega) (by rw [hj];simpa using ew) ⟨rfl,fin⟩) hs
theorem BE:IxR X (FH X.K):=by
 intro value slice pins s σ H x y v u Q I rx ry h hs;obtain ⟨p,xs,i,z,rfl,rfl,hq,he,q⟩:=h;cases rx;obtain ⟨t,rfl⟩:=ry;obtain ⟨its,r,pl,hz⟩:=I.tuple hq;obtain ⟨j,h1,h2,h3,h4,h5⟩:=pv he;obtain ⟨w,ew,rw'⟩:=r.get h2;have hl:=r.length;have hn:=ky;have fin:EP X pins σ Q w s:=⟨z,H,I,rw',q⟩
 exact subscriptTail_builtinR (x:=w) pl.typeIs slot_tuple_getitem.lookup
  (getItem_tuple (j:=j) (Q:=fun r s'=>r=w∧EP X pins σ Q r s') pl (by omega) (by omega) (by rw [List.size_toArray,←hl];exact h1) (by simpa using ew) ⟨rfl,fin⟩) hs
theorem nE:dw X (.builtin "len") (fun xs H Q=>∃p ys,xs=[.ref p]∧(SqL X.K H p ys∨SqT X.K H p ys)∧Q (.int ys.length) H):=by
 intro pins s σ H xs us Q I r h;obtain ⟨p,ys,rfl,hq,q⟩:=h;obtain ⟨u,rfl,rx⟩:=vals1 r;cases rx;have hn:=ky;rcases hq with hq|hq
 ·obtain ⟨its,r',pl,hz⟩:=I.list hq;have hlen:=r'.length;exact Calls.call_len_list pl.isList (by simp only [List.size_toArray]<;>omega) ⟨.int ys.length,H,I.tok _,⟨s.toks+1,by rw [List.size_toArray,hlen]⟩,q⟩
 ·obtain ⟨its,r',pl,hz⟩:=I.tuple hq;have hlen:=r'.length;exact len_tuple pl (by simp only [List.size_toArray]<;>omega) ⟨.int ys.length,H,I.tok _,⟨s.toks+1,by rw [List.size_toArray,hlen]⟩,q⟩
theorem mL:dw X (.type "tuple") (fun xs H Q=>∃p ys,xs=[.ref p]∧((SqL X.K H p ys∧∀l,H l=none->Q (.ref l) (upd H l (.tup ys)))∨(SqT X.K H p ys∧Q (.ref p) H))):=by
 intro pins s σ H xs us Q I r h;obtain ⟨p,ys,rfl,h⟩:=h;obtain ⟨u,rfl,rx⟩:=vals1 r;cases rx;rcases h with ⟨hq,q⟩|⟨hq,q⟩
 ·obtain ⟨its,r',pl,hz⟩:=I.list hq;have hlen:=r'.length;refine call_tuple_list pl.isList (fun h' kp=>?_) (by simp only [List.size_toArray]<;>omega);have I1:Inv X pins σ H {s with heap:=h'}:=I.kept (t':=s.toks) kp;have I2:Inv X pins σ (upd H h'.objs.size (.tup ys)) {s with heap:=h'.push {cls:=.type "tuple",data:=.seq its.toArray}}:=
   I1.laid (t':=s.toks) (fun b o e=>BT _ e) (Gd _) (show aX X.prog X.w _ _ _ (.tup ys) from ⟨hz,its,r',IsTup.new _ _⟩)
  exact ⟨.ref h'.objs.size,_,I2,rfl,q _ (I1.hok.fresh (Gd _))⟩
 ·obtain ⟨its,r',pl,hz⟩:=I.tuple hq;exact call_tuple_same pl ⟨.ref p,H,I,rfl,q⟩
noncomputable def tyV (K:PySem.W.Frag) (T:String) (x:V) (H:Hp):Prop:=match x with
 |.str _=>T="str"
 |.int _=>T="int"
 |.ref p=>(T="list"∧∃xs,SqL K H p xs)∨(T="tuple"∧∃o,K.lookup p=some o∧o.cls=.type "tuple"∧o.dict=none)∨
   (T="dict"∧((∃kvs,H p=some (.dK kvs))∨∃kvs,H p=some (.dT kvs)))∨(T="set"∧∃S n,H p=some (.set S n))
 |_=>False
theorem Dh (I:Inv X pins σ H s) (r:RelV x v) (ty:tyV X.K T x H):
  s.TypeIs v T∧∀a,v=.ref a->∃ob,s.heap.get? a=some ob∧ob.dict=none:=by
 cases x with
 |str z=>
  obtain ⟨t,rfl⟩:=r;cases (show T="str" from ty);exact ⟨typeIs_str s z t,fun _ e=>nomatch e⟩
 |int i=>
  obtain ⟨t,rfl⟩:=r;cases (show T="int" from ty);exact ⟨typeIs_int s i t,fun _ e=>nomatch e⟩
 |ref p=>
  cases r;rcases ty with ⟨rfl,xs,hq⟩|⟨rfl,o,hk,hc,hd⟩|⟨rfl,hk⟩|⟨rfl,S,n,hk⟩
  ·obtain ⟨its,_,pl,_⟩:=I.list hq;refine ⟨pl.isList.typeIs,fun a e=>?_⟩;cases e;obtain ⟨o,n,e,c,hd,_⟩:=pl;exact ⟨o,e,hd⟩
  ·refine ⟨⟨o,I.kIn p o hk,hc⟩,fun a e=>?_⟩;cases e;exact ⟨o,I.kIn _ o hk,hd⟩
  ·have z:∃o,s.heap.get? p=some o∧o.ExactDict:=by
    rcases hk with ⟨kvs,hk⟩|⟨kvs,hk⟩
    ·obtain ⟨_,_,_,_,o,_,_,e,ex,_⟩:=I.hok p _ hk;exact ⟨o,e,ex⟩
    ·obtain ⟨_,_,_,_,o,_,_,e,ex,_⟩:=I.hok p _ hk;exact ⟨o,e,ex⟩
   obtain ⟨o,e,ex⟩:=z;refine ⟨⟨o,e,ex.1⟩,fun a e2=>?_⟩;cases e2;exact ⟨o,e,ex.2.1⟩
  ·obtain ⟨o,_,_,_,e,ex,_⟩:=I.hok p _ hk;refine ⟨⟨o,e,ex.1⟩,fun a e2=>?_⟩;cases e2;exact ⟨o,e,ex.2.1⟩
 |_=>exact False.elim ty
noncomputable def tBM (K:PySem.W.Frag) (T:String) (r:V->List V->Hp->VK->Prop) (to:TE) (t:TA):TE:=fun σ H Q=>to σ H fun x H1=>tyV K T x H1∧t σ H1 fun xs H2=>r x xs H2 Q
variable {o e:Expr} {es:List Expr} {to:TE} {t:TA} {name:Str} {apos cpos:Pos} {T id:String} {r:V->List V->Hp->VK->Prop}
theorem xM (pa:PlainAttrs T) (slot:Slot T name id) (hty:typeOf (.builtin id)=pure (.type "method_descriptor")) (hm:MtR X id r) (ho:PE X o to) (ha:PA X (e::es) t)
  (hbase:(attributeBase o name X.env (eval o X.env)=eval o X.env)⁻¹)
  (hfew:(((backTo cpos (starEach (e::es) X.env)).all (fun x=>!x.1)&&(backToKw cpos (keywordEach [] X.env)).all (fun x=>x.1.isSome)
   &&decide ((e::es).length+([]:List Keyword).length+(if ([]:List Keyword).isEmpty then 0 else 1)<30))=true)⁻¹)
  (hline:((apos.endLine==cpos.line)=true)⁻¹) (hs:(starEach (e::es) X.env=(false,eval e X.env)::starEach es X.env)⁻¹) (hplain:((backTo cpos (starEach es X.env)).any (·.1)=false)⁻¹):
  PE X (.Call (.Attribute o name apos) (e::es) [] cpos) (tBM X.K T r to t):=by
 intro pins s σ H Q I h;refine wpAny_Call_method_late hbase hfew hline rfl (thn (ho pins s σ H _ I h) fun v s1 ⟨x,H1,I1,r1,ty,q1⟩=>?_);obtain ⟨h1,h2⟩:=Dh I1 r1 ty;refine ⟨T,id,pa,slot,hty,h1,h2,?_⟩;have hA:=ha cpos pins s1 σ H1 _ I1 q1;rw [hs] at hA ⊢;refine Calls.callWith_builtin (by show (false||(backTo cpos (starEach es X.env)).any (·.1))=false;rw [hplain]<;>rfl) (Calls.evalArgs_plain ?_);exact thn hA fun us s2 ⟨vs,H2,I2,r2,q2⟩=>hm pins s2 σ H2 x vs v us Q I2 r1 r2 q2
end
noncomputable def MtM (X:Cx) (id:String) (r:V->List V->Hp->VK->Prop):Prop:=
 ∀(pins:List (Addr×Obj)) (s:Shared) (σ:St) (H:Hp) (x:V) (xs:List V) (v:Value) (us:List Value) (Q:VK),Inv X pins σ H s->RelV x v->Vals xs us->r x xs H Q->
  wpAny (model X.prog X.w) X.A (call (.builtin id) (v::us)) (EP X pins σ Q) X.xe s
theorem Vals.one:∀{x:V} {us:List Value},Vals [x] us->∃u,us=[u]∧RelV x u
 |_,_,.cons r .nil=>⟨_,rfl,r⟩
section
variable {X:Cx} {pins:List (Addr×Obj)} {σ:St} {H:Hp} {s:Shared} {l b:Addr} {xs ys zs:List V}
theorem Inv.BV {its its':List Value} {n:Nat} {f:Array Value->Array Value} {t':Nat} (I:Inv X pins σ H s) (hH:H l=some (.lst xs))
  (e:s.heap.get? l=some {cls:=.type "list",data:=.seq its.toArray n}) (hf:f its.toArray=its'.toArray) (hv:Vals ys its') (hz:ys.length<=sizeLine):
  Inv X pins σ (upd H l (.lst ys)) {s with heap:=s.heap.update l (Obj.mapSeq f),toks:=t'}:=by
 have q:=PySem.IsL.update e f;rw [hf] at q;refine I.write (x:=l) (e:=l) (by rw [hH];exact trivial) (.inl rfl) (fun b' u hb hu=>(Heap.get?_update_other s.heap (Obj.mapSeq f) (Ne.symm hb)).trans hu) ⟨_,q⟩ ?_;exact ⟨hz,its',_,hv,q⟩
theorem Inv.vR (I:Inv X pins σ H s) (hH:H l=some (.lst xs)):xs.length<=sizeLine∧∃(its:List Value) (n:Nat),Vals xs its∧xs.length=its.length∧s.heap.get? l=some {cls:=.type "list",data:=.seq its.toArray n}:=by
 obtain ⟨z,its,n,r,e⟩:=I.hok l _ hH;exact ⟨z,its,n,r,r.length,e⟩
theorem vX (h:n<=sizeLine):Builtin.List.listTooLong n=false:=by
 unfold Builtin.List.listTooLong;exact Gf (by omega)
end
section
variable {X:Cx}
noncomputable def z8:V->List V->Hp->VK->Prop:=fun x vs H Q=>∃l xs y,x=.ref l∧vs=[y]∧H l=some (.lst xs)∧xs.length<sizeLine∧Q .non (upd H l (.lst (xs++[y])))
theorem tJ:MtM X "list.append" z8:=by
 intro pins s σ H x vs v us Q I rx rv h;obtain ⟨l,xs,y,rfl,rfl,hH,hz,q⟩:=h;cases rx;obtain ⟨u,rfl,ru⟩:=rv.one;obtain ⟨z,its,n,r,hl,e⟩:=I.vR hH;refine call_meets F.slot_list_append ⟨_,e,rfl⟩ F.entry_list_append (F.args_list_append_2 _ _) (PySem.list_append l its.toArray n u (by rw [List.size_toArray];omega)) ⟨e,?_⟩;refine ⟨.non,_,I.BV (its':=its++[u]) hH e (by simp) (r.append (.cons ru .nil)) ?_,rfl,q⟩;rw [F5,List.length_singleton];omega
noncomputable def z9:V->List V->Hp->VK->Prop:=fun x vs H Q=>∃l b xs zs,x=.ref l∧vs=[.ref b]∧H l=some (.lst xs)∧H b=some (.lst zs)∧xs.length+zs.length<=sizeLine∧Q .non (upd H l (.lst (xs++zs)))
theorem tK:MtM X "list.extend" z9:=by
 intro pins s σ H x vs v us Q I rx rv h;obtain ⟨l,b,xs,zs,rfl,rfl,hH,hB,hz,q⟩:=h;cases rx;obtain ⟨u,rfl,ru⟩:=rv.one;cases ru;obtain ⟨z,its,n,r,hl,e⟩:=I.vR hH;obtain ⟨z2,its2,n2,r2,hl2,e2⟩:=I.vR hB;have hsz:its.toArray.size+its2.toArray.size<=sizeLine:=by rw [List.size_toArray,List.size_toArray];omega
 have hlong:¬(!its.toArray.isEmpty&&Builtin.List.listTooLong (its.toArray.size+its2.toArray.size))=true:=by
  rw [vX hsz,Bool.and_false];exact Gh
 refine call_meets F.slot_list_extend ⟨_,e,rfl⟩ F.entry_list_extend (F.args_list_extend_2 _ _)
  (AutoSeq1.list_extend_list_list_0 l its.toArray n b its2.toArray n2 hlong (by rw [List.size_toArray];omega) (by omega)) ⟨e,e2,?_⟩
 refine ⟨.non,_,I.BV (its':=its++its2) hH e (by simp) (r.append r2) ?_,rfl,q⟩;rw [F5];omega
end
end L2
namespace Att
open PySem PySem.W PySem.Calls PyProof.Rows
theorem kn:∀(ns:List Int) (vs:List Value),WellAll P h vs (ns.map WData.int)->IntsAre vs ns:=by
 intro ns
 induction ns with
 |nil=>
  intro vs w;rw [List.map_nil] at w;cases w;exact .nil
 |cons n ns ih=>
  intro vs w;rw [List.map_cons] at w;cases w with
  |cons a b=>
   cases a;exact .cons _ _ (ih _ b)
theorem uk {l:OpenLaw} {n:Nat} (hn:l.most=some n) {P:Params} {h:Heap} {args:List WData} {vals:List Value}
  (hpre:l.row.toRowW.claim.pre args=true) (hwl:WellAll P h vals args):
  ∃a vs ns,vals=[Value.ref a]∧args=[WData.list (ns.map WData.int)]∧h.get? a=some {cls:=.type "list",data:=.seq vs.toArray}∧IntsAre vs ns∧ns.length<=n:=by
 have hsh:WShape.hasAll [] args [.list .int]=true:=(pre_splitW hpre).1;have hc:l.pre.holds [] {args:=args}=true:=(pre_splitW hpre).2;obtain ⟨d,r,rfl,h1,h2⟩:=hasAllW_cons hsh;obtain rfl:=hasAllW_nil h2;obtain ⟨xs,rfl,h3⟩:=hasW_list h1;obtain ⟨ns,rfl⟩:=items_int h3;have hlen:ns.length<=n:=by
  unfold OpenLaw.pre at hc;have h4:(WTm.not (.lt (.lit (.int (n:Int))) (.len (.arg 0)))).holds [] {args:=[.list (ns.map .int)]}=true:=by
   have h4:=(holds_andW hc).1;rw [hn] at h4;exact h4
  have h5:=condW_of h4 (w_not (w_lt w_lit (w_len_list (w_arg rfl))));rw [F6] at h5;refine Nat.le_of_not_lt fun q=>?_;have q':(n:Int)<((ns.length:Nat):Int):=by omega
  first
   |(rw [Ge q'] at h5;exact absurd h5 (by decide))
   |(simp at h5;omega)
 cases hwl with
 |cons w1 w2=>
  cases w2;cases w1 with
  |list ho hall=>exact ⟨_,_,ns,rfl,rfl,ho,kn ns _ hall,hlen⟩
theorem tZ (l:OpenLaw) (args:List WData):l.row.toRowW.claim.post args (.bool true) args=true:=
 postW_of (r:=l.row.toRowW) (X:=(true==true))
  (show WShape.has [] (.bool true) .bool=true by first|rfl|decide|simp [WShape.has,WShape.arms,WShape.armsAll])
  (show (WTm.eq .res (.lit (.bool true))).value [] {args:=args,res:=some (.bool true),after:=args}=some (.bool (true==true)) from w_eq_bool (w_res rfl) w_lit) rfl
theorem pf {l:OpenLaw} {n:Nat} {q:Program} {loose:List Str} {XP:(Str->Option Value)->Heap->Prop} {YP:World->Heap->Prop} {d:DefRec}
  (hn:l.most=some n) (hdf:d.params.defaults=[])
  (call:∀(w:World) (s₀ s₁:Shared) (mg mb:Str->Option Value) (fa:Addr) (o:Obj) (pm cd doc:Value) (a:Addr) (vs:List Value) (ns:List Int),
   Ground q loose [] XP w s₀ mg mb s₁.heap->YP w s₁.heap->
   s₁.heap.get? fa=some o->o.data=.func (docDef d.name d.params d.body d.scope pm cd doc)->s₁.heap.CodeRec cd d.name->mg d.name=some (.ref fa)->
   s₁.heap.get? a=some {cls:=.type "list",data:=.seq vs.toArray}->IntsAre vs ns->ns.length<=n->s₁.gens=#[]->
   codeAny (model l.prog w) callerA (.call (.ref fa) ⟨[.ref a],[]⟩) (fun r s'=>r=.ok (.ret (.bool true))∧OldK s₁.heap s'.heap∧s'.os=s₁.os∧AllBare s'.gens) s₁):
  WalkO q loose XP YP l.row.toRowW d [] (fun f vs=>PySem.call f vs):=by
 intro w s₀ s₁ mg mb G Y fa o pm cd doc dV kV ho hd hcd hD hmg hg args vals as hpre hlay hrd hwl hlo;obtain rfl:dV=.none:=Dflts.none hD hdf;obtain rfl:kV=.none:=Dflts.noKw hD;obtain ⟨a,vs,ns,rfl,rfl,hobj,hints,hlen⟩:=uk hn hpre hwl;refine enter_call (codeAny_mono (call w s₀ s₁ mg mb fa o pm cd doc a vs ns G Y ho (fd_plain hd) hcd hmg hobj hints hlen hg) fun r s' hq=>?_);obtain ⟨rfl,h2,h3,h4⟩:=hq;exact ⟨.inl ⟨.bool true,.bool true,[],rfl,fun _=>rfl,.bool true,tZ l _,fun _=>⟨List.Pairwise.nil,fun _ hm=>(nomatch hm)⟩⟩,h2,h3,h4⟩
end Att
namespace L2
open PySem PySem.Spec PyProof.Rows
theorem mH:∀{vs:List Value} {ns:List Int},IntsAre vs ns->Vals (ns.map V.int) vs
 |_,_,.nil=>.nil
 |_,_,.cons n t h=>.cons ⟨t,rfl⟩ (mH h)
noncomputable def uK (H:Hp):Prop:=∀b,H b=none∨∃o xs,H b=some (.frz o (.lst xs))
theorem vN {P:Program} {w:World} {K:PySem.W.Frag} {mg mb:Str->Option Value} {CX:CXT} {k:Nat} {fa a:Addr} {fd:FuncData} {x:Str} {sp:Sp} {s₁:Shared} {vs:List Value} {ns:List Int}
  (KX:K.In s₁.heap) (hns:s₁.heap.Ns mainGlobals mg) (hb:s₁.heap.Ns builtinsNs mb) (hbb:∀x:Str,x≠"__name__"->mb x=bootBuiltins x) (hlim:s₁.heap.NoLimit) (hg:s₁.gens=#[])
  (ha:s₁.heap.get? a=some {cls:=.type "list",data:=.seq vs.toArray}) (hi:IntsAre vs ns) (hl:ns.length<=sizeLine) (hr:aE k callerA)
  (F:∀base:Heap,K.In base->base.Ns mainGlobals mg->aG P w K mg base CX k fa fd [x] sp) (hbind:∀(s:Shared) (u:Value),BindsTo s fd ⟨[u],[]⟩ [(x,u)])
  (hsp:∀H:Hp,uK H->SqL K H a (ns.map V.int)->sp [.ref a] H (fun v _=>v=.bl true) fun _ _ _=>False)
  (hCX:∀H e s',CX [] H s₁ (fun _ _ _=>False) e s'->False):
  codeAny (model P w) callerA (.call (.ref fa) ⟨[.ref a],[]⟩) (fun r s'=>r=.ok (.ret (.bool true))∧OldK s₁.heap s'.heap∧s'.os=s₁.os∧AllBare s'.gens) s₁:=by
 have rv:=mH hi;have lenV:=hi.length;have core:∀H:Hp,uK H->SqL K H a (ns.map V.int)->HOk P w H s₁.heap->(∀b,H b≠none->b=a)->(H a≠none->K.lookup a=none)->
   codeAny (model P w) callerA (.call (.ref fa) ⟨[.ref a],[]⟩) (fun r s'=>r=.ok (.ret (.bool true))∧OldK s₁.heap s'.heap∧s'.os=s₁.os∧AllBare s'.gens) s₁:=by
  intro H hO hS hok hA hK;have base_of:∀{b:Addr} {o:Obj},s₁.heap.get? b=some o->H b=none->(gO s₁.heap H).get? b=some o:=fun e n=>vJ e n;have noA:∀{b:Addr} {o:Obj} {es:Array DictEntry} {ep:Nat},s₁.heap.get? b=some o->o.data=.dict es ep->H b=none:=fun {b o es ep} e d=>by
   cases q:H b with
   |none=>rfl
   |some u=>
    have e':b=a:=hA b (by rw [q];simp);subst e';rw [ha] at e;cases e;have d':Data.seq vs.toArray _=Data.dict es ep:=d;cases d'
  have nsK:∀{b:Addr} {m:Str->Option Value},s₁.heap.Ns b m->(gO s₁.heap H).Ns b m:=fun {b m} ⟨o,es,ep,e,d,r⟩=>⟨o,es,ep,base_of e (noA e d),d,r⟩
  have hKb:K.In (gO s₁.heap H):=fun b o e=>base_of (KX b o e) (by
   cases q:H b with
   |none=>rfl
   |some u=>
    have e':b=a:=hA b (by rw [q];simp);subst e';rw [hK (by rw [q];simp)] at e;cases e)
  have hM:Mod K mg (gO s₁.heap H):=⟨hKb,nsK hns,⟨mb,nsK hb,hbb⟩,let ⟨mc,h1,h2⟩:=hlim;⟨mc,nsK h1,h2⟩⟩
  have e0:jv P w K mg (gO s₁.heap H) callerA [] s₁ H:=⟨rfl,hM,fun b o e=>zq e,Nat.le_of_eq (s_ _ _),trivial,fun b hb=>absurd (show b∈([]:List Addr) from hb) (by simp),hok,.of_eq hg⟩
  refine codeAny_mono ((F _ hKb (nsK hns)).run callerA [] s₁ H ⟨[.ref a],[]⟩ [.ref a] [.ref a] _ _ hr e0 (hbind s₁ (.ref a)) (.cons rfl .nil) (hsp H hO hS)) fun r s' h=>?_;cases r with
  |error e=>exact (hCX H e s' h).elim
  |ok fl=>
   cases fl with
   |next=>exact False.elim h
   |brk=>exact False.elim h
   |cont=>exact False.elim h
   |ret u=>
    obtain ⟨v,H',os,bare,un,hok',r',q⟩:=h;have q':v=.bl true:=q;subst q';obtain rfl:u=Value.bool true:=r';refine ⟨rfl,OldK.of_keep fun b o e=>?_,os,bare⟩;cases q:H b with
    |none=>exact un.keep b o e q (by intro z;exact absurd (show b∈([]:List Addr) from z) (by simp)) (by simp)
    |some u=>
     rcases hO b with z|⟨ob,xs,z⟩
     ·rw [q] at z;cases z
     ·have z2:=un.fj b ob _ z;obtain ⟨e1,_⟩:=hok b _ z;obtain ⟨e2,_⟩:=hok' b _ z2;rw [e] at e1;cases e1;exact e2
 cases hk:K.lookup a with
 |some o=>
  have e:=KX a o hk;rw [ha] at e;cases e;refine core (fun _=>none) (fun _=>.inl rfl) (.inr ⟨_,vs.toArray,_,hk,rfl,rfl,rfl,by rw [List.size_toArray,lenV];exact hl,by simpa using rv⟩) (fun b u z=>by have z':(none:Option HO)=some u:=z;cases z') (fun b z=>absurd rfl z) fun z=>absurd rfl z
 |none=>
  refine core (fun b=>if b=a then some (.frz {cls:=.type "list",data:=.seq vs.toArray} (.lst (ns.map V.int))) else none) (fun b=>?_) (.inl (.inr ⟨{cls:=.type "list",data:=.seq vs.toArray},if_pos rfl⟩)) (fun b u z=>?_) (fun b z=>?_) fun _=>hk
  ·by_cases hb:b=a
   ·exact .inr ⟨_,_,if_pos hb⟩
   ·exact .inl (if_neg hb)
  ·by_cases hb:b=a
   ·have z':=(if_pos hb).symm.trans z;cases z';subst hb;exact ⟨ha,by rw [F6];exact hl,vs,_,rv,ha⟩
   ·have z':=(if_neg hb).symm.trans z;cases z'
  ·by_cases hb:b=a
   ·exact hb
   ·exact absurd (if_neg hb) z
noncomputable abbrev KOf {K:PySem.W.Frag} {h:Heap} (_:K.In h):PySem.W.Frag:=K
theorem Am {l:PySem.W.OpenLaw} {n k:Nat} {q:Program} {loose:List Str} {XP:(Str->Option Value)->Heap->Prop} {YP:World->Heap->Prop} {d:DefRec} {K:Params->PySem.W.Frag} {CX:World->CXT} {sp:World->Sp} {x:Str}
  (hn:l.most=some n) (hn2:n<=sizeLine) (hdf:d.params.defaults=[]) (hr:aE k callerA)
  (hY:∀(w:World) (h:Heap),YP w h->(K w.params).In h)
  (F:∀(w:World) (mg:Str->Option Value) (fa:Addr) (h:Heap),(K w.params).In h->h.Ns mainGlobals mg->mg d.name=some (.ref fa)->
   ∃fd:FuncData,(∀(s:Shared) (u:Value),BindsTo s fd ⟨[u],[]⟩ [(x,u)])∧
    ∀base:Heap,(K w.params).In base->base.Ns mainGlobals mg->aG l.prog w (K w.params) mg base (CX w) k fa fd [x] (sp w))
  (hsp:∀(w:World) (H:Hp) (a:Addr) (ns:List Int),ns.length<=n->uK H->SqL (K w.params) H a (ns.map V.int)->sp w [.ref a] H (fun v _=>v=.bl true) fun _ _ _=>False)
  (hCX:∀(w:World) (H:Hp) (s:Shared) (e:Value) (s':Shared),CX w [] H s (fun _ _ _=>False) e s'->False):
  PySem.W.WalkO q loose XP YP l.row.toRowW d [] (fun f vs=>PySem.call f vs):=by
 refine Att.pf hn hdf fun w s₀ s₁ mg mb fa o pm cd doc a vs ns G Y ho hd hcd hmg hobj hints hlen hg=>?_;have KX:=hY w _ Y;obtain ⟨fd,hb,hF⟩:=F w mg fa _ KX G.T.g hmg;exact vN KX G.T.g G.T.b G.T.builtins G.T.nolimit hg hobj hints (Gb hlen hn2) hr hF hb (fun H hO hS=>hsp w H a ns hlen hO hS) fun H e s'=>hCX w H s₁ e s'
end L2
namespace L2
open PySem PySem.Spec PyProof.Rows
noncomputable def inClass (s:Stmt) (j:Nat):Stmt:=match s with
 |.ClassDef _ _ _ body _ _ _ _ _ _ _=>body.getD j (.Pass ⟨0,0,0,0⟩)
 |_=>.Pass ⟨0,0,0,0⟩
noncomputable def dj (s:Stmt):Arguments:=match s with
 |.FunctionDef _ a _ _ _ _ _ _ _ _=>a
 |_=>{posonlyargs:=[],args:=[],vararg:=none,kwonlyargs:=[],kw_defaults:=[],kwarg:=none,defaults:=[]}
noncomputable def a7 (s:Stmt):List Stmt:=match s with
 |.FunctionDef _ _ b _ _ _ _ _ _ _=>b
 |_=>[]
noncomputable def aj (s:Stmt):Scope:=match s with
 |.FunctionDef _ _ _ _ _ _ sc _ _ _=>sc
 |_=>{kind:=.function,names:=[],isGenerator:=false,isCoroutine:=false}
noncomputable abbrev CX0:CXT:=fun _ _ _ _ _ _=>False
noncomputable abbrev E0:XK:=fun _ _ _=>False
theorem gZ:Passes CX0 X E0:=fun _ _ _ _ _ _ _ h=>h.elim
structure Fun (K:PySem.W.Frag) (x qual:Str) (st:Stmt) (f:Addr) (fd:FuncData):Prop where
 ex:∃(oc:Value) (od:Option Addr) (kV doc pm:Value) (an:Option Addr) (cdv ct:Value) (osl:Array (Option Value)),
  fd=PySem.W.fnOf x qual (dj st) (a7 st) (aj st) .none kV doc pm an cdv ct∧K.lookup f=some ⟨oc,od,.func fd,osl⟩∧PySem.W.codeIn K cdv qual=true
 kp:PySem.W.keepIn K (.ref f)=true
section
variable {P:Program} {w:World} {K:PySem.W.Frag} {mg:Str->Option Value} {base:Heap}
theorem Fun.ok {x qual:Str} {st:Stmt} {f:Addr} {fd:FuncData} {N ps:List Str} {k:Nat} {sp:Sp} (F:Fun K x qual st f fd) (S:bP N ps (aj st)) (len:∀vs H Q E,sp vs H Q E->vs.length=ps.length)
  (hbody:∀(cdv:Value) (A:Around) (outer:List Env) (s:Shared) (H:Hp) (vs:List V) (Q:VK) (E:XK),aE k (A.deeper (envOfC qual (aj st) s.heap.objs.size f cdv))->sp vs H Q E->
   ∃t,PSs (b9 CX0 P w K mg base N qual (aj st) f cdv A outer s H E).nox (a7 st) t∧t {nx:=fun _ H'=>Q .non H',rt:=Q} (start N vs) H):aG P w K mg base CX0 (k+1) f fd ps sp:=by
 obtain ⟨oc,od,kV,doc,pm,an,cdv,ct,osl,rfl,lk,hcd⟩:=F.ex;refine xa lk hcd S len fun A outer s H vs Q E hr hsp=>?_;obtain ⟨t,h,q⟩:=hbody cdv A outer s H vs Q E hr hsp;exact ⟨t,h.nox,q⟩
theorem Fun.binds {x qual:Str} {st:Stmt} {f:Addr} {fd:FuncData} {ps:List Str} (F:Fun K x qual st f fd)
  (h:∀(kV doc pm:Value) (an:Option Addr) (cdv ct:Value) (us:List Value),us.length=ps.length->bindArgs (PySem.W.fnOf x qual (dj st) (a7 st) (aj st) .none kV doc pm an cdv ct) ⟨us,[]⟩=pure (ps.zip us)):Binds K fd ps []:=by
 obtain ⟨oc,od,kV,doc,pm,an,cdv,ct,osl,rfl,lk,hcd⟩:=F.ex;exact .all (h kV doc pm an cdv ct)
theorem sX {x qual:Str} {st:Stmt} {f:Addr} {oc:Value} {od an:Option Addr} {osl:Array (Option Value)} {kV doc pm cdv ct:Value} (l:K.lookup f=some ⟨oc,od,.func (PySem.W.fnOf x qual (dj st) (a7 st) (aj st) .none kV doc pm an cdv ct),osl⟩)
  (c:PySem.W.codeIn K cdv qual=true) (k:PySem.W.keepIn K (.ref f)=true):Fun K x qual st f (PySem.W.fnOf x qual (dj st) (a7 st) (aj st) .none kV doc pm an cdv ct):=⟨⟨oc,od,kV,doc,pm,an,cdv,ct,osl,rfl,l,c⟩,k⟩
end
theorem fT {A B:Prop} (h:B):if false=true then A else B:=by
 rw [if_neg Gh];exact h
theorem fx {A B:Prop} (h:A):if true=true then A else B:=by
 rw [if_pos rfl];exact h
section
variable {κ:Type} [DecidableEq κ]
theorem bQ.tq {o:Option V} {u:Option Value} (r:bQ o u):o.isSome=u.isSome:=by
 cases o with
 |none=>cases u with
  |none=>rfl
  |some _=>exact (show False from r).elim
 |some _=>cases u with
  |none=>exact (show False from r).elim
  |some _=>rfl
theorem bQ.getD {o:Option V} {u:Option Value} {d:V} {d':Value} (r:bQ o u) (rd:RelV d d'):RelV (o.getD d) (u.getD d'):=by
 cases o with
 |none=>cases u with
  |none=>exact rd
  |some _=>exact (show False from r).elim
 |some _=>cases u with
  |none=>exact (show False from r).elim
  |some _=>exact r
end
section
variable {X:Cx} {pins:List (Addr×Obj)} {σ:St} {H:Hp} {s:Shared} {a:Addr} {y v:V} {u r:Value} {o:Option V} {A:Around} {E:Value->Shared->Prop}
theorem Inv.big (I:Inv X pins σ H s):sysModules<s.heap.objs.size:=by
 have h:mainGlobals<s.heap.objs.size:=(I.mod.glob.keeps I.bk).lt;exact Nat.lt_trans (by decide) h
theorem yj {h':Heap} {t':Nat} {ob:HO} (I:Inv X pins σ H s) (mu:Mut (H a)) (hs:Heap.SameBut a s.heap h') (he:∃q,h'.get? a=some q) (new:aX X.prog X.w (upd H a ob) h' a ob):
  Inv X pins σ (upd H a ob) {s with heap:=h',toks:=t'}:=
 I.write (x:=a) (e:=a) mu (.inl rfl) (fun b q hb z=>(hs.2 b hb).trans z) he new
end
noncomputable def qu (i:Expr):Prop:=∀ov iv,subscripted i false ov iv=operate [ov,iv] (getItem ov iv)
theorem Af {prog:Program} {w:World} {A:Around} {E:Value->Shared->Prop} {s:Shared} {env:Env} {value slice:Expr} {pos:Pos} {T id:String} {Q:Value->Shared->Prop}
  (hl:typeLookup (.type T) "__getitem__"=pure (some (.builtin id))) (hs:qu slice)
  (h:wpAny (model prog w) A (eval value env) (fun o s₁=>wpAny (model prog w) A (eval slice env) (fun i s₂=>s₂.TypeIs o T∧wpAny (model prog w) A (getItem o i) Q E s₂) E s₁) E s):
  wpAny (model prog w) A (eval (.Subscript value slice pos) env) Q E s:=by
 refine Subscript_ (AT h (fun o s₁ h₁=>AT h₁ (fun i s₂ h₂=>?_) fun _ _ x=>x) fun _ _ x=>x);obtain ⟨hT,h₂⟩:=h₂;unfold subscriptTail;refine At ?_;rw [getitemInPython_of_ne hT.not_modules];refine At (wpAny_specialOf hT hl ?_);have fin:wpAny (model prog w) A (subscripted slice false o i) (fun r s₃=>wpAny (model prog w) A (letTemporaryGo value o r>>=fun _=>pure r) Q E s₃) E s₂:=by
  rw [hs o i];exact wpAny_operating (AT h₂ (fun r s₃ h₃=>At (wpAny_letTemporaryGo (AC h₃))) fun _ _ x=>x)
 first
  |exact AC (At fin)
  |exact At (AC (At fin))
  |exact At fin
structure M1 (X:Cx) (o:Expr) (m:Str) (apos:Pos) (e:Expr) (cpos:Pos):Prop where
 base:attributeBase o m X.env (eval o X.env)=eval o X.env
 few:((backTo cpos (starEach [e] X.env)).all (fun x=>!x.1)&&(backToKw cpos (keywordEach [] X.env)).all (fun x=>x.1.isSome)
  &&decide (([e]:List Expr).length+([]:List Keyword).length+(if ([]:List Keyword).isEmpty then 0 else 1)<30))=true
 line:(apos.endLine==cpos.line)=true
 trees:backTo cpos (starEach [e] X.env)=[(false,eval e X.env)]
end L2
set_option autoImplicit true
set_option relaxedAutoImplicit true
namespace CT
open PySem
noncomputable def cP (env:Env):List (Str×NameKind)->List (Str×Addr)->List (Str×Addr)
 |[],acc=>acc
 |(n,k)::r,acc=>if k==.free then cP env r ((n,(env.cells.lookup n).getD 0)::acc) else cP env r acc
theorem qE (f:Str×NameKind->List (Str×Addr)->Sem (ForInStep (List (Str×Addr))))
  (hf:∀n k acc,f (n,k) acc=if k==.free then (do let c←cellOf env n;pure (.yield ((n,c)::acc))) else pure (.yield acc)):
  ∀(names:List (Str×NameKind)) (acc:List (Str×Addr)),(∀x∈names,x.2=.free->∃c,env.cells.lookup x.1=some c)->forIn names acc f=pure (cP env names acc)
 |[],acc,_=>by rw [List.forIn_nil];rfl
 |(n,k)::r,acc,h=>by
  have hr:∀x∈r,x.2=.free->∃c,env.cells.lookup x.1=some c:=fun x hx=>h x (EQ _ hx);rw [List.forIn_cons,hf];unfold cP
  by_cases hk:(k==NameKind.free)=true
  ·rw [if_pos hk,if_pos hk];obtain ⟨c,hc⟩:=h (n,k) Fa (beq_iff_eq.mp hk);have hc':env.cells.lookup n=some c:=hc;rw [hc'];simp only [cellOf,hc',pure_bind,Option.getD_some];exact qE f hf r _ hr
  ·rw [if_neg hk,if_neg hk];simp only [pure_bind];exact qE f hf r _ hr
theorem cV (h:∀x∈scope.names,x.2=.free->∃c,env.cells.lookup x.1=some c):closureFor scope env=pure (cP env scope.names []):=by
 simp only [closureFor];rw [qE (env:=env) _ (fun n k acc=>by cases hk:k==NameKind.free<;>simp [hk]) _ _ h];rfl
theorem ik {α:Type} {x:Str} {v:α}:∀{l:List (Str×α)},(l.map (·.1)).Nodup->(x,v)∈l->l.lookup x=some v
 |(k,u)::r,hn,hm=>by
  rw [List.map_cons,List.nodup_cons] at hn;rw [List.lookup_cons];rcases Fr.mp hm with e|hm
  ·cases e;simp
  ·have:x≠k:=fun e=>hn.1 (e▸FB.mpr ⟨(x,v),hm,rfl⟩);rw [beq_false_of_ne this];exact ik hn.2 hm
theorem fX {α:Type} {x:Str} {v:α}:∀{l:List (Str×α)},(x,v)∈l->∃u,l.lookup x=some u
 |(k,u)::r,hm=>by
  rw [List.lookup_cons];rcases Fr.mp hm with e|hm
  ·cases e;exact ⟨v,by simp⟩
  ·cases x==k with
   |true=>exact ⟨u,rfl⟩
   |false=>exact fX hm
theorem jC:∀{names:List (Str×NameKind)} {acc:List (Str×Addr)},p∈acc->p∈cP env names acc
 |[],_,h=>h
 |(n,k)::r,acc,h=>by
  unfold cP;split
  ·exact jC (EQ _ h)
  ·exact jC h
theorem jD:∀{names:List (Str×NameKind)} {acc:List (Str×Addr)},(∀x∈names,x.2=.free->∃c,env.cells.lookup x.1=some c)->(n,c)∈cP env names acc->
  (n,c)∈acc∨(env.cells.lookup n=some c∧(n,NameKind.free)∈names)
 |[],_,_,h=>.inl h
 |(m,k)::r,acc,hf,h=>by
  have hr:∀x∈r,x.2=.free->∃c,env.cells.lookup x.1=some c:=fun x hx=>hf x (EQ _ hx);unfold cP at h;split at h
  ·rename_i hk;have hk':k=.free:=beq_iff_eq.mp hk;obtain ⟨c',hc⟩:=hf (m,k) Fa hk';have hc':env.cells.lookup m=some c':=hc;rcases jD hr h with h|⟨h1,h2⟩
   ·rcases Fr.mp h with e|h
    ·rw [hc'] at e;cases e;exact .inr ⟨hc',by rw [hk'];exact Fa⟩
    ·exact .inl h
   ·exact .inr ⟨h1,EQ _ h2⟩
  ·rcases jD hr h with h|⟨h1,h2⟩
   ·exact .inl h
   ·exact .inr ⟨h1,EQ _ h2⟩
theorem nK (hc:env.cells.lookup n=some c):∀{names:List (Str×NameKind)} {acc:List (Str×Addr)},(n,NameKind.free)∈names->(n,c)∈cP env names acc
 |(m,k)::r,acc,h=>by
  unfold cP;rcases Fr.mp h with e|h
  ·cases e;rw [if_pos (by decide),hc];exact jC Fa
  ·split<;>exact nK hc h
theorem bI:∀(names:List (Str×NameKind)) (n:Nat) (acc:List (Str×Addr)),cellsFrom n names acc=cellsFrom n names []++acc
 |[],_,_=>rfl
 |(m,k)::r,n,acc=>by
  unfold cellsFrom;split
  ·rw [bI r (n+1) ((m,n)::acc),bI r (n+1) [(m,n)],F8];rfl
  ·exact bI r n acc
theorem eF:∀{names:List (Str×NameKind)} {n:Nat} {acc:List (Str×Addr)},(x,c)∈cellsFrom n names acc->(x,c)∈acc∨(x,NameKind.cell)∈names
 |[],_,_,h=>.inl h
 |(m,k)::r,n,acc,h=>by
  unfold cellsFrom at h;split at h
  ·rename_i hk;have hk':k=.cell:=beq_iff_eq.mp hk;rcases eF h with h|h
   ·rcases Fr.mp h with e|h
    ·cases e;exact .inr (by rw [hk'];exact Fa)
    ·exact .inl h
   ·exact .inr (EQ _ h)
  ·rcases eF h with h|h
   ·exact .inl h
   ·exact .inr (EQ _ h)
theorem eE:∀{names:List (Str×NameKind)} {n:Nat} {acc:List (Str×Addr)},(x,NameKind.cell)∈names->∃c,(x,c)∈cellsFrom n names acc
 |(m,k)::r,n,acc,h=>by
  unfold cellsFrom;rcases Fr.mp h with e|h
  ·cases e;rw [if_pos (by decide),bI];exact ⟨n,Do _ Fa⟩
  ·split
   ·exact eE h
   ·exact eE h
theorem lookup_map2 {α β:Type} {f:Str->α->β} {x:Str}:∀{l:List (Str×α)},(l.map fun p=>(p.1,f p.1 p.2)).lookup x=(l.lookup x).map (f x)
 |[]=>rfl
 |(n,k)::r=>by
  rw [List.map_cons,List.lookup_cons,List.lookup_cons]
  by_cases hx:x=n
  ·subst hx;simp
  ·rw [beq_false_of_ne hx];exact lookup_map2
noncomputable def kin (env:Env) (x:Str) (k:NameKind):NameKind:=if (k==NameKind.free&&env.scope.kind==.function&&env.kindOf x==some .cell)=true then .cell else k
theorem lL {env:Env} {x:Str} {names:List (Str×NameKind)}:
  (names.map fun (n,k)=>if (k==NameKind.free&&env.scope.kind==.function&&env.kindOf n==some .cell) then (n,NameKind.cell) else (n,k)).lookup x=(names.lookup x).map (kin env x):=by
 rw [←lookup_map2 (f:=kin env)]
 congr 1
 refine List.map_congr_left fun p _=>?_;obtain ⟨n,k⟩:=p;show (if _ then _ else _)=(n,if _ then _ else _)
 split<;>rfl
theorem mR
  (h:Q {scope:=scope,locals:=s.heap.objs.size,globals:=globals,cells:=cellsFrom (s.heap.objs.size+1) scope.names cl,qual:=qual,func:=none,code:=env.code,frame:=env.frame,builtins:=env.builtins}
   {s with heap:=pushCells (s.heap.push {cls:=.type "dict",data:=.dict #[]}) scope.names}):
  wpAny M A (newFunctionEnv scope globals cl [] qual none .none (some env)) Q E s:=by
 simp only [newFunctionEnv,Option.isSome_some,if_true];refine At (wpAny_alloc ?_);refine At (wpAny_layCells _ (fun name kind cells=>by cases hkc:kind==NameKind.cell<;>simp [hkc]) _ _ _ _ ?_);rw [show ({s with heap:=s.heap.push {cls:=.type "dict",data:=.dict #[]}}:Shared).heap.objs.size=s.heap.objs.size+1 from Heap.size_push ..];simp only [List.forIn_nil,pure_bind];exact AC h
noncomputable def a_ (elt:Expr) (gens:List Comprehension) (scope:Scope) (pos:Pos) (d:Nat) (acc:Value) (env:Env):Sem Unit:=
 match gens[d+1]? with
 |some g'=>do
  let x←eval g'.iter env
  standAt g'.iter.pos
  let x←if g'.is_async !=0 then foldedIterable g'.iter x else foldedSetIterable g'.iter env x
  let _←runOwn (.compStart (.ListComp elt gens scope pos) (d+1) (←holding [x] (if g'.is_async !=0 then asyncIter x else pyIter x)) acc env) env
 |none=>do let _←call (.builtin "list.append") [acc,←eval elt env]
theorem d8 (elt:Expr) (gens:List Comprehension) (scope:Scope) (pos:Pos) (d:Nat) (it acc:Value) (env:Env) (hg:gens[d]?=some ⟨tg,iter,ifs,0⟩):
  compTurn (.ListComp elt gens scope pos) d it acc env=(standAt iter.pos>>=fun _=>pyNext it>>=fun r=>match r with
   |none=>pure (.done .next)
   |some v=>letOwnedTupleGo tg it v>>=fun _=>assign tg env v>>=fun _=>
    (forIn ifs true fun c r=>if r=true then do let ok←isTrue c env (eval c env);pure (ForInStep.yield ok) else pure (ForInStep.yield r))>>=fun ok=>
     (if ok=true then a_ elt gens scope pos d acc env else pure ())>>=fun _=>again (.compLoop (.ListComp elt gens scope pos) d it acc env)):=by
 unfold compTurn a_;simp only [hg,show ((0:Int) !=0)=false from rfl,Bool.false_eq_true,if_false]
 congr 1
 funext _
 congr 1
 funext r
 cases r with
 |none=>rfl
 |some v=>
  dsimp only
  congr 1;funext _
  congr 1;funext _
  congr 1;funext ok
  cases ok with
  |false=>simp
  |true=>
   simp only [if_true];cases gens[d+1]? with
   |none=>rfl
   |some g'=>
    by_cases ha:(g'.is_async !=0)=true
    ·simp [ha,bind_assoc]
    ·simp [ha,bind_assoc]
section
variable {prog:Program} {w:World} {A:Around} {R:Result->Shared->Prop} {s:Shared}
theorem e_ (hg:gens[d]?=some ⟨tg,iter,ifs,0⟩)
  (h0:codeAny (model prog w) A (.compLoop (.ListComp elt gens scope pos) d it acc env) R s)
  (h:wpAny (model prog w) A (pyIter it) (fun it' s'=>codeAny (model prog w) A (.compLoop (.ListComp elt gens scope pos) d it' acc env) R s') (notedBy (model prog w) A env fun x s'=>R (.error x) s') s):
  codeAny (model prog w) A (.compStart (.ListComp elt gens scope pos) d it acc env) R s:=by
 refine codeAny_of_tree ?_;show wpAny _ _ ((compStart (.ListComp elt gens scope pos) d it acc env).onRaise (fun x=>do noteFrame x env;standAt theWindowsPlace)) _ _ s;refine wpAny_notedAt ?_;unfold compStart;have e:(clausesOf (.ListComp elt gens scope pos))[d]?=some ⟨tg,iter,ifs,0⟩:=hg;rw [e];show wpAny _ _ (ask>>=_) _ _ s;refine At (wpAny_askSetting (wpAny_ite ?_));split
 ·first
   |exact At (AC (AC (And.intro rfl h0)))
   |exact AC (And.intro rfl h0)
 ·first
   |exact At (wpAny_rule (At (wpAny_standAt (At (AT h (fun it' s' h'=>AC (And.intro rfl h')) fun _ _ x=>x)))))
   |(refine At (wpAny_rule ?_);show wpAny _ _ (standAt iter.pos>>=_) _ _ s;exact At (wpAny_standAt (At (AT h (fun it' s' h'=>AC (And.intro rfl h')) fun _ _ x=>x))))
end
end CT
set_option autoImplicit true
set_option relaxedAutoImplicit true
namespace CT
open PySem PySem.Spec L2
open PyProof.Rows hiding St
noncomputable def bM (X:Cx) (scope:Scope) (n0:Nat):Env:=
 {scope:=relabel scope X.env,locals:=n0+1,globals:=X.env.globals,cells:=cellsFrom (n0+2) scope.names (cP X.env scope.names []),qual:=X.env.qual,func:=none,code:=X.env.code,frame:=X.env.frame,builtins:=X.env.builtins}
structure CS (X:Cx) (scope:Scope) (own:List Str) (cap:List (Str×Nat)):Prop where
 kind:scope.kind=.function
 nd:(scope.names.map (·.1)).Nodup
 fr:∀x∈scope.names,x.2=.free->X.env.kindOf x.1=some .cell∨X.env.kindOf x.1=some .free
 FF:∀x∈own,(x,NameKind.local)∈scope.names∨(x,NameKind.cell)∈scope.names
 EW:∀p∈cap,X.N[p.2]?=some p.1∧(p.1,NameKind.free)∈scope.names
 nN:(own++cap.map (·.1)).Nodup
noncomputable def cX (X:Cx) (scope:Scope) (own:List Str) (cap:List (Str×Nat)) (pins:List (Addr×Obj)) (s₂:Shared) (H₂:Hp) (fp:List Addr):Cx:=
 {prog:=X.prog,w:=X.w,K:=X.K,mg:=X.mg,base:=X.base,A:=X.A,N:=own++cap.map (·.1),s₀:=s₂,H₀:=H₂,env:=bM X scope s₂.heap.objs.size,outer:=X.stack,stack:=X.stack,ex:=fp,
  fn:=fun x=>decide (x∈own),calm:=X.calm,pn:=X.pn++pins,xe:=fun _ _=>False}
noncomputable def cS (own:List Str) (cap:List (Str×Nat)) (σ:St):St:=own.map (fun _=>none)++cap.map fun p=>(σ[p.2]?).join
section
variable {X:Cx} {scope:Scope} {own:List Str} {cap:List (Str×Nat)} {pins:List (Addr×Obj)} {σ:St} {H:Hp} {s:Shared} {fp:List Addr}
theorem CS.lk (cs:CS X scope own cap) (h:(x,k)∈scope.names):scope.names.lookup x=some k:=ik cs.nd h
theorem CS.uniq (cs:CS X scope own cap) (h:(x,k)∈scope.names) (h':(x,k')∈scope.names):k=k':=Gi ((cs.lk h).symm.trans (cs.lk h'))
theorem jj:(bM X scope n0).kindOf x=(scope.names.lookup x).map (kin X.env x):=lL
theorem eZ:∀{names:List (Str×NameKind)} {n:Nat} {acc:List (Str×Addr)},(x,c)∈cellsFrom n names acc->(x,c)∈acc∨n<=c
 |[],_,_,h=>.inl h
 |(m,k)::r,n,acc,h=>by
  unfold cellsFrom at h;split at h
  ·rcases eZ h with h|h
   ·rcases Fr.mp h with e|h
    ·cases e;exact .inr (Gd _)
    ·exact .inl h
   ·exact .inr (Nat.le_of_succ_le h)
  ·exact eZ h
theorem CS.lq (cs:CS X scope own cap) (ok:X.Ok):∀x∈scope.names,x.2=.free->∃c,X.env.cells.lookup x.1=some c:=fun x hx e=>ok.has x.1 (cs.fr x hx e)
theorem CS.bw (cs:CS X scope own cap) (ok:X.Ok) (h:(bM X scope n0).cells.lookup x=some c):
  ((x,NameKind.cell)∈scope.names∧n0+2<=c∧(x,c)∈cellsFrom (n0+2) scope.names [])∨((x,NameKind.free)∈scope.names∧X.env.cells.lookup x=some c):=by
 have hm:(x,c)∈cellsFrom (n0+2) scope.names (cP X.env scope.names []):=mem_of_lookup h;rw [bI] at hm;rcases Fk.mp hm with hm|hm
 ·refine .inl ⟨?_,?_,hm⟩
  ·rcases eF hm with z|z
   ·cases z
   ·exact z
  ·rcases eZ hm with z|z
   ·cases z
   ·exact z
 ·rcases jD (cs.lq ok) hm with z|⟨z1,z2⟩
  ·cases z
  ·exact .inr ⟨z2,z1⟩
theorem CS.nG (cs:CS X scope own cap) (ok:X.Ok) (hx:(x,NameKind.free)∈scope.names) (hc:X.env.cells.lookup x=some c):(bM X scope n0).cells.lookup x=some c:=by
 have hm:(x,c)∈cellsFrom (n0+2) scope.names (cP X.env scope.names []):=by
  rw [bI];exact Do _ (nK hc hx)
 obtain ⟨u,hu⟩:=fX hm;have hu':(bM X scope n0).cells.lookup x=some u:=hu;rcases cs.bw ok hu' with ⟨z,_⟩|⟨_,z⟩
 ·cases cs.uniq hx z
 ·rw [hc] at z;cases z;exact hu'
theorem CS.vZ (cs:CS X scope own cap) (hx:(x,NameKind.cell)∈scope.names):∃c,(bM X scope n0).cells.lookup x=some c:=by
 obtain ⟨c,hc⟩:=eE (n:=n0+2) (acc:=cP X.env scope.names []) hx;exact fX hc
theorem Dv (I:Inv X pins σ H s) (cs:CS X scope own cap) (hf:∀b∈fp,bj X pins H b) (hlt:∀b∈fp,b<s.heap.objs.size):(cX X scope own cap pins s H fp).Ok where
 mod:=I.ok.mod
 kind:=cs.kind
 glob:=I.ok.glob
 blt:=I.ok.blt
 above:=Nat.le_succ _
 inj:=fun x y c h1 h2=>by
  rcases cs.bw I.ok h1 with ⟨a1,a2,a3⟩|⟨a1,a2⟩<;>rcases cs.bw I.ok h2 with ⟨b1,b2,b3⟩|⟨b1,b2⟩
  ·have k:=cellsFrom_ok scope.names ((s.heap.push {cls:=.type "list",data:=.seq #[] 0}).push {cls:=.type "list",data:=.seq #[] 0}) 0 [] ⟨fun _ _ hm=>(nomatch hm),List.Pairwise.nil⟩ (Nat.zero_le _);rw [Heap.size_push,Heap.size_push] at k;exact name_of_addr k.apart a3 b3
  ·obtain ⟨v,hv⟩:=I.cell y c b2;exact absurd (F9 hv.lt (Gb (Nat.le_add_right _ 2) a2)) (Nat.lt_irrefl _)
  ·obtain ⟨v,hv⟩:=I.cell x c a2;exact absurd (F9 hv.lt (Gb (Nat.le_add_right _ 2) b2)) (Nat.lt_irrefl _)
  ·exact I.ok.inj x y c a2 b2
 has:=fun x hx=>by
  have e:(bM X scope s.heap.objs.size).kindOf x=(scope.names.lookup x).map (kin X.env x):=jj;have hx':(scope.names.lookup x).map (kin X.env x)=some .cell∨(scope.names.lookup x).map (kin X.env x)=some .free:=by rw [←e];exact hx
  cases hk:scope.names.lookup x with
  |none=>rw [hk] at hx';rcases hx' with z|z<;>cases z
  |some k=>
   rw [hk] at hx';have hm:=mem_of_lookup hk
   by_cases hfree:k=.free
   ·subst hfree;obtain ⟨c,hc⟩:=cs.lq I.ok _ hm rfl;exact ⟨c,cs.nG I.ok hm hc⟩
   ·have hkk:kin X.env x k=k:=by
     unfold kin;rw [if_neg];intro z;have:(k==NameKind.free)=false:=by simpa using hfree
     rw [this] at z;cases z
    have hk':k=.cell:=by
     rcases hx' with z|z
     ·have z':some (kin X.env x k)=some NameKind.cell:=z;rw [hkk] at z';exact Gi z'
     ·have z':some (kin X.env x k)=some NameKind.free:=z;rw [hkk] at z';exact absurd (Gi z') hfree
    subst hk';exact cs.vZ hm
 cab:=fun x c hx hc=>by
  have hx':x∈own:=of_decide_eq_true hx;rcases cs.bw I.ok hc with ⟨_,a,_⟩|⟨a,_⟩
  ·exact Gb (Nat.le_add_right _ 2) a
  ·rcases cs.FF x hx' with z|z<;>cases cs.uniq a z
 hd:=I.ok.hd
 frames:=I.ok.frames
 stk:=.inl rfl
 exf:=fun b hb=>⟨Gc (Nat.lt_succ_of_lt (hlt b hb)),fun x c hc=>by
  rcases cs.bw I.ok hc with ⟨_,a,_⟩|⟨_,a⟩
  ·exact Nat.ne_of_gt (F9 (hlt b hb) (Gb (Nat.le_add_right _ 2) a))
  ·exact (hf b hb).2.2.2.2.1 x c a⟩
 bs:=fun b o e=>I.bs b o e
 bsz:=Gb I.ok.bsz I.sz
 gY:=fun b o e hb=>by
  rcases (hf b hb).2.2.2.1 with z|z
  ·exact I.ok.gY b o e z
  ·exact absurd (F9 (Cl e) (Gb I.ok.bsz z)) (Nat.lt_irrefl _)
 jK:=fun b hb z=>by
  rcases Fr.mp (I.gv b z) with z|z
  ·exact (hf b hb).2.1 z
  ·exact (hf b hb).2.2.1 z
 c7:=I.stack
 frf:=I.lQ
theorem vM (h:env.kindOf x=some .cell∨env.kindOf x=some .free):kin env x .free=.cell∨kin env x .free=.free:=by
 unfold kin;split
 ·exact .inl rfl
 ·exact .inr rfl
theorem uO (I:Inv X pins σ H s) (cs:CS X scope own cap) (hf:∀b∈fp,bj X pins H b) (hlt:∀b∈fp,b<s.heap.objs.size) (hof:o.isFreed=false):
  Inv (cX X scope own cap pins s H fp) [] (cS own cap σ) H {s with heap:=pushCells ((s.heap.push o).push {cls:=.type "dict",data:=.dict #[]}) scope.names}:=by
 have kp:∀b u,s.heap.get? b=some u->(pushCells ((s.heap.push o).push {cls:=.type "dict",data:=.dict #[]}) scope.names).get? b=some u:=fun b u e=>pushCells_keeps _ _ b u (BT _ (BT _ e));have ck:=cellsFrom_ok scope.names ((s.heap.push o).push {cls:=.type "dict",data:=.dict #[]}) 0 [] ⟨fun _ _ hm=>(nomatch hm),List.Pairwise.nil⟩ (Nat.zero_le _);rw [Heap.size_push,Heap.size_push] at ck;refine ⟨Dv I cs hf hlt,rfl,I.bare,Un.kept kp,?_,?_,I.hok.fresh (Nat.le_succ _),?_,?_,I.hok.kept kp,?_⟩
 ·refine ⟨fun _=>none,?_,fun i x v e1 e2 e3=>?_⟩
  ·have n:=Heap.Ns.new (s.heap.push o) (.type "dict");rw [Heap.size_push] at n;exact n.keeps (pushCells_keeps _ _)
  ·have e1':(own++cap.map (·.1))[i]?=some x:=e1;have e2':(own.map (fun _=>(none:Option V))++cap.map fun p=>(σ[p.2]?).join)[i]?=some (some v):=e2
   by_cases hi:i<own.length
   ·rw [List.getElem?_append_left (by simpa using hi),List.getElem?_map] at e2';cases hq:own[i]? with
    |none=>rw [hq] at e2';cases e2'
    |some y=>rw [hq] at e2';cases e2'
   ·have hi':own.length<=i:=Nat.le_of_not_lt hi;rw [List.getElem?_append_right hi',List.getElem?_map] at e1';rw [List.getElem?_append_right (by simpa using hi'),List.getElem?_map,F6] at e2';cases hq:cap[i - own.length]? with
    |none=>rw [hq] at e1';cases e1'
    |some p=>
     rw [hq] at e1' e2';have e1'':p.1=x:=Gi e1';have e2'':(σ[p.2]?).join=some v:=Gi e2';subst e1'';have e2s:σ[p.2]?=some (some v):=by
      cases hs:σ[p.2]? with
      |none=>rw [hs] at e2'';cases e2''
      |some y=>rw [hs] at e2'';rw [show y=some v from e2'']
     obtain ⟨hN,hfree⟩:=cs.EW p (List.mem_of_getElem? hq);have hkk:=cs.fr _ hfree rfl;have vis:Vis X.env.scope p.1:=hkk.elim (fun z=>.inr (.inl z)) fun z=>.inr (.inr z);obtain ⟨m,hn,hl⟩:=I.loc;obtain ⟨u,r,l⟩:=hl p.2 p.1 v hN e2s vis;refine ⟨u,r,.inr ⟨?_,?_⟩⟩
     ·have e:(bM X scope s.heap.objs.size).kindOf p.1=(scope.names.lookup p.1).map (kin X.env p.1):=jj;rw [cs.lk hfree] at e;rcases vM hkk with z|z
      ·exact .inl (e.trans (congrArg some z))
      ·exact .inr (e.trans (congrArg some z))
     ·rcases l with ⟨lk,_⟩|⟨_,c,hc,hcell⟩
      ·rcases hkk with z|z<;>(rw [z] at lk;cases lk)
      ·exact ⟨c,cs.nG I.ok hfree hc,hcell.keeps kp⟩
 ·intro x c hc;rcases cs.bw I.ok hc with ⟨_,_,a⟩|⟨_,a⟩
  ·exact ⟨_,(ck.empty x c a).1⟩
  ·obtain ⟨v,hv⟩:=I.cell x c a;exact ⟨v,hv.keeps kp⟩
 ·intro x c hc;rcases cs.bw I.ok hc with ⟨_,a,_⟩|⟨_,a⟩
  ·exact I.hok.fresh (Gb (Nat.le_add_right _ 2) a)
  ·exact I.bX x c a
 ·intro p hp;have hp':p∈X.pn++pins:=by simpa [cX] using hp
  obtain ⟨e,n,ne,nf,d⟩:=I.pin p hp';refine ⟨kp _ _ e,n,Gc (Nat.lt_succ_of_lt (Cl e)),fun z=>?_,d⟩;rcases Fr.mp (I.gv p.1 z) with z|z
  ·exact ne z
  ·exact nf z
 ·simp [cX,cS]
noncomputable def Acc (h:Heap) (acc:Addr) (ys:List V):Prop:=∃its:List Value,Vals ys its∧h.PlainList acc its.toArray
theorem Acc.at (x:Acc h acc ys) (k:∀o,h.get? acc=some o->h'.get? acc=some o):Acc h' acc ys:=let ⟨its,r,p⟩:=x;⟨its,r,p.at k⟩
theorem Acc.obj (x:Acc h acc ys):∃o,h.get? acc=some o∧∀v,o.data≠.cell v:=by
 obtain ⟨its,r,n,e⟩:=x;exact ⟨_,e,fun v z=>by
  have z':Data.seq _ _=Data.cell v:=z;cases z'⟩
end
structure AK (α:Type) where
 ac:Heap->Addr->α->Prop
 kept:∀{h h':Heap} {acc:Addr} {ys:α},ac h acc ys->(∀o,h.get? acc=some o->h'.get? acc=some o)->ac h' acc ys
 obj:∀{h:Heap} {acc:Addr} {ys:α},ac h acc ys->∃o,h.get? acc=some o∧∀v,o.data≠.cell v
noncomputable def qw:AK (List V):=⟨Acc,Acc.at,Acc.obj⟩
noncomputable abbrev TBg (α:Type):=St->Hp->α->(α->Hp->Prop)->Prop
noncomputable abbrev TB:=TBg (List V)
noncomputable def PBg {α:Type} (B:AK α) (Y:Cx) (acc:Addr) (m:Sem Unit) (t:TBg α):Prop:=
 ∀(pins:List (Addr×Obj)) (s:Shared) (σ:St) (H:Hp) (ys:α) (Q:α->Hp->Prop),Inv Y pins σ H s->bj Y pins H acc->B.ac s.heap acc ys->t σ H ys Q->
  wpAny (model Y.prog Y.w) Y.A m (fun _ s'=>∃ys' H',Inv Y pins σ H' s'∧H' acc=none∧B.ac s'.heap acc ys'∧Q ys' H') Y.xe s
noncomputable abbrev PB (Y:Cx) (acc:Addr) (m:Sem Unit) (t:TB):Prop:=PBg qw Y acc m t
noncomputable def PTs (Y:Cx) (ifs:List Expr) (t:TT):Prop:=
 ∀(pins:List (Addr×Obj)) (s:Shared) (σ:St) (H:Hp) (Q:Bool->Hp->Prop),Inv Y pins σ H s->t σ H Q->
  wpAny (model Y.prog Y.w) Y.A (forIn ifs true fun c r=>if r=true then do let ok←isTrue c Y.env (eval c Y.env);pure (ForInStep.yield ok) else pure (ForInStep.yield r)) (TP Y pins σ Q) Y.xe s
noncomputable def nc:TT:=fun _ H Q=>Q true H
theorem iL {P:Addr->Prop} {a:Addr} (h:P a):∀b∈[a],P b:=fun b hb=>by
 have e:b=a:=by simpa using hb
 rw [e];exact h
section
variable {Y:Cx} {acc:Addr}
theorem lK:PTs Y [] nc:=fun _ _ _ H _ I h=>AC ⟨H,I,h⟩
theorem zX (h:PT Y c t):PTs Y [c] t:=fun pins s σ H Q I hw=>by
 simp only [List.forIn_cons,List.forIn_nil,if_true];exact At (At (thn (h pins s σ H Q I hw) fun b s' hb=>AC (AC hb)))
noncomputable def EB (te:TE):TB:=fun σ H ys Q=>ys.length<=sizeLine∧te σ H fun v H1=>Q (ys++[v]) H1
theorem zy {elt:Expr} {te:TE} (he:PE Y elt te):PB Y acc (do let _←call (.builtin "list.append") [.ref acc,←eval elt Y.env]) (EB te):=by
 intro pins s σ H ys Q I hf ha h;obtain ⟨hz,h⟩:=h;have I1:=I.pinned (fp:=[acc]) (iL hf) (iL ha.obj);refine At (thn (he _ s σ H _ I1 h) fun u s1 zz=>?_);obtain ⟨v,H1,I2,r,q⟩:=zz;obtain ⟨o,eo,_⟩:=ha.obj;have pin:=I2.pin (acc,o) (Do _ (Do _ (bJ (by simp) eo)));have ha1:Acc s1.heap acc ys:=ha.at fun o' e'=>by rw [eo] at e';cases e';exact pin.1
 obtain ⟨its,rv,pl⟩:=ha1;obtain ⟨f0,f1,f2,f3,f4,f5⟩:=hf;refine At (wpAny_list_append_plain pl (fun h' pl' sb=>AC ?_) ?_)
 ·have I3:Inv Y pins σ H1 {s1 with heap:=h'}:=I2.bZ.turned (t':=s1.toks) (fun b o hb e=>(sb.2 b hb).trans e) pin.2.1 f1 f3 f4 f5;exact ⟨ys++[v],H1,I3,pin.2.1,⟨its++[u],rv.append (.cons r .nil),by simpa using pl'⟩,q⟩
 ·have:=rv.length;simp only [List.size_toArray];omega
noncomputable def Fgt (σ σ':St):Prop:=σ.length=σ'.length∧∀(i:Nat) v,σ[i]?=some (some v)->σ'[i]?=some (some v)
noncomputable def hZ {α:Type} (g:TG) (tt:TT) (tb:TBg α) (J:It) (σ:St) (H:Hp) (ys:α) (Q:α->Hp->Prop):Prop:=
 ∃W:Nat->Nat->α->Hp->Prop,(∃m,W 0 m ys H)∧∀i m ys H,W i m ys H->
  (J.stop i H∧Q ys H)∨(J.go i H∧∀x H',J.yld i H x H'->g x σ H' fun σ2 H2=>Fgt σ σ2∧tt σ2 H2 fun b H3=>
   if b=true then tb σ2 H3 ys fun ys' H4=>∃m',m'<m∧W (i+1) m' ys' H4 else ∃m',m'<m∧W (i+1) m' ys H3)
noncomputable def j5 (P:Program) (w:World) (node:Expr) (d:Nat) (it acc:Value) (env:Env):Prop:=(∀A:Around,A.under (.compLoop node d it acc env)=A)∧(model P w).den (.compLoop node d it acc env)=(compTurn node d it acc env).onRaise (fun x=>do noteFrame x env;theTreesLotGoes x)
theorem mZ {P:Program} {w:World} {elt:Expr} {gens:List Comprehension} {scope:Scope} {pos:Pos} {d:Nat} {it acc:Value} {env:Env}:j5 P w (.ListComp elt gens scope pos) d it acc env:=⟨fun _=>rfl,rfl⟩
noncomputable def j6 (node:Expr) (d:Nat) (tg iter:Expr) (ifs:List Expr) (it acc:Value) (env:Env) (ins:Sem Unit):Prop:=
 compTurn node d it acc env=(standAt iter.pos>>=fun _=>pyNext it>>=fun r=>match r with
   |none=>pure (.done .next)
   |some v=>letOwnedTupleGo tg it v>>=fun _=>assign tg env v>>=fun _=>
    (forIn ifs true fun c r=>if r=true then do let ok←isTrue c env (eval c env);pure (ForInStep.yield ok) else pure (ForInStep.yield r))>>=fun ok=>
     (if ok=true then ins else pure ())>>=fun _=>again (.compLoop node d it acc env))
theorem iw {α:Type} {B:AK α} {node:Expr} {d:Nat} {tg iter:Expr} {ifs:List Expr} {ins:Sem Unit} {it:Addr} (hd:j5 Y.prog Y.w node d (.ref it) (.ref acc) Y.env) (hg:j6 node d tg iter ifs (.ref it) (.ref acc) Y.env ins) {g:TG} {tt:TT} {tb:TBg α} (hc:Y.calm=true) (hx:∀e s,Y.xe e s->False)
  (h1:PG Y tg g) (h2:PTs Y ifs tt) (h3:PBg B Y acc ins tb)
  {J:It} {fp:List Addr} {tn:Nat->Heap->Prop} (T:Turn Y.prog Y.w Y.K tg J fp it tn) (hac:acc∉fp)
  {pins:List (Addr×Obj)} {s:Shared} {σ:St} {H:Hp} {ys:α} {Q:α->Hp->Prop} {R:Result->Shared->Prop} (I:Inv Y pins σ H s) (st:tn 0 s.heap) (hf:∀b∈fp,bj Y pins H b) (ha:bj Y pins H acc) (ac:B.ac s.heap acc ys)
  (h:hZ g tt tb J σ H ys Q) (hR:∀s' ys' H',Inv Y pins σ H' s'->H' acc=none->B.ac s'.heap acc ys'->Q ys' H'->R (.ok .next) s'):
  codeAny (model Y.prog Y.w) Y.A (.compLoop node d (.ref it) (.ref acc) Y.env) R s:=by
 obtain ⟨W,⟨m0,w0⟩,turn⟩:=h;have stat:∀{H':Hp},(∀b∈fp,H' b=none)->∀b∈fp,bj Y pins H' b:=fun hn b hb=>⟨hn b hb,(hf b hb).2⟩
 have nox:∀{E:Value->Shared->Prop} {α:Type} {m:Sem α} {P:α->Shared->Prop} {s:Shared},wpAny (model Y.prog Y.w) Y.A m P Y.xe s->wpAny (model Y.prog Y.w) Y.A m P E s:=fun h=>AT h (fun _ _ q=>q) fun _ _ z=>(hx _ _ z).elim;refine codeAny_loop rfl (fun n s'=>∃i H' ys',Inv Y pins σ H' s'∧tn i s'.heap∧(∀b∈fp,H' b=none)∧H' acc=none∧B.ac s'.heap acc ys'∧W i n ys' H') ?_ m0 ⟨0,H,ys,I,st,fun b hb=>(hf b hb).1,ha.1,ac,w0⟩;rintro n s3 ⟨i,H3,ys3,I3,st3,fr3,an3,ac3,w3⟩;rw [hd.1,hd.2];refine wpAny_noted ?_;rw [hg];refine At (wpAny_standAt (At ?_));obtain ⟨oa,ea,da⟩:=(B.obj ac3)
 have fa3:bj Y pins H3 acc:=⟨an3,ha.2⟩
 have J3:Inv Y (pins++b6 [acc] s3.heap) σ H3 s3:=I3.pinned (fp:=[acc]) (iL fa3) (iL (B.obj ac3));have inpa:(acc,oa)∈b6 [acc] s3.heap:=bJ (by simp) ea;have stat':∀{H':Hp},(∀b∈fp,H' b=none)->∀b∈fp,bj Y (pins++b6 [acc] s3.heap) H' b:=fun hn b hb=>by
  obtain ⟨f0,f1,f2,f3,f4,f5⟩:=stat hn b hb;refine ⟨f0,f1,f2,f3,f4,fun p hp z=>?_⟩;rw [←F8] at hp;rcases Fk.mp hp with hp|hp
  ·exact f5 p hp z
  ·have e:p.1=acc:=by simpa using (iP hp).1
   exact hac (by rw [←e,z];exact hb)
 rcases turn i n ys3 H3 w3 with ⟨stop,qn⟩|⟨go,step⟩
 ·refine thn (T.done Y rfl rfl rfl hc i _ s3 σ H3 _ J3 (stat' fr3) st3 stop) fun r s4 zz=>?_;obtain ⟨hr,I4⟩:=zz;subst hr;refine AC ?_;have p4:=I4.pin (acc,oa) (Do _ (Do _ inpa));exact hR s4 ys3 H3 I4.bZ an3 (B.kept ac3 fun o e=>by rw [ea] at e;cases e;exact p4.1) qn
 ·refine thn (T.item Y rfl rfl rfl hc i _ s3 σ H3 _ J3 (stat' fr3) st3 go) fun r s4 zz=>?_;obtain ⟨u,hr,h4⟩:=zz;subst hr;refine At (thn h4 fun _ s5 zz=>?_);obtain ⟨x,H5,I5,r5,y5,st5,fr5⟩:=zz;have I5':=I5.pinned (stat' fr5) (T.obj _ _ st5);refine At (nox (thn (h1 _ s5 σ H5 x u _ I5' r5 (step x H5 y5)) fun _ s6 zz=>?_));obtain ⟨σ6,H6,I6,fg,q6⟩:=zz;refine At (nox (thn (h2 _ s6 σ6 H6 _ I6 q6) fun ok s7 zz=>?_));obtain ⟨H7,I7,q7⟩:=zz;have p7:=I7.pin (acc,oa) (Do _ (Ev _ (Do _ inpa)));have ac7:B.ac s7.heap acc ys3:=B.kept ac3 fun o e=>by rw [ea] at e;cases e;exact p7.1
  have I7':Inv Y (pins++b6 fp s5.heap) σ6 H7 s7:=I7.lJ fun p hp=>I7.pin p (Do _ ((Fk.mp hp).elim (fun z=>Ev _ (Ev _ z)) fun z=>Do _ z));have again':∀{s8:Shared} {H8:Hp} {ys8:α},Inv Y (pins++b6 fp s5.heap) σ6 H8 s8->H8 acc=none->B.ac s8.heap acc ys8->(∃m',m'<n∧W (i+1) m' ys8 H8)->
    ∃m,m<n∧∃i H' ys',Inv Y pins σ H' s8∧tn i s8.heap∧(∀b∈fp,H' b=none)∧H' acc=none∧B.ac s8.heap acc ys'∧W i m ys' H':=fun {s8 H8 ys8} I8 an8 ac8 ⟨m',hm,w8⟩=>by
   refine ⟨m',hm,i+1,H8,ys8,I8.bZ.weak fg.1 fg.2,T.keep _ _ _ st5 fun b hb o e=>(I8.pin (b,o) (Do _ (Do _ (bJ hb e)))).1,fun b hb=>?_,an8,ac8,w8⟩;obtain ⟨o,e,_⟩:=T.obj _ _ st5 b hb;exact (I8.pin (b,o) (Do _ (Do _ (bJ hb e)))).2.1
  cases ok with
  |false=>
   rw [if_neg Gh] at q7 ⊢;exact At (AC (AC ⟨rfl,again' I7' p7.2.1 ac7 q7⟩))
  |true=>
   rw [if_pos rfl] at q7 ⊢;have fa7:bj Y (pins++b6 fp s5.heap) H7 acc:=by
    obtain ⟨_,f1,f2,f3,f4,f5⟩:=ha;refine ⟨p7.2.1,f1,f2,f3,f4,fun p hp z=>?_⟩;rw [←F8] at hp;rcases Fk.mp hp with hp|hp
    ·exact f5 p hp z
    ·exact hac (by rw [←z];exact (iP hp).1)
   exact At (nox (thn (h3 _ s7 σ6 H7 ys3 _ I7' fa7 ac7 q7) fun _ s8 ⟨ys8,H8,I8,an8,ac8,q8⟩=>AC ⟨rfl,again' I8 an8 ac8 q8⟩))
noncomputable def ED (wi:TI) (g:TG) (tt:TT) (tb:TB):TB:=fun σ H ys Q=>wi σ H fun J H1=>hZ g tt tb J σ H1 ys Q
theorem zA {elt:Expr} {gens:List Comprehension} {scope:Scope} {pos:Pos} {d:Nat} {tg iter:Expr} {ifs:List Expr} (hg:gens[d+1]?=some ⟨tg,iter,ifs,0⟩) {wi:TI} {g:TG} {tt:TT} {tb:TB} (hc:Y.calm=true) (hx:∀e s,Y.xe e s->False)
  (hi:PI Y tg iter wi) (h1:PG Y tg g) (h2:PTs Y ifs tt) (h3:PB Y acc (a_ elt gens scope pos (d+1) (.ref acc) Y.env) tb) (hs:∀x,foldedSetIterable iter Y.env x=pure x:=by intro _;rfl):
  PB Y acc (a_ elt gens scope pos d (.ref acc) Y.env) (ED wi g tt tb):=by
 intro pins s σ H ys Q I hf ha h;unfold a_;rw [hg];obtain ⟨oa,ea,da⟩:=ha.obj;have J1:Inv Y (pins++b6 [acc] s.heap) σ H s:=I.pinned (fp:=[acc]) (iL hf) (iL ha.obj);have inpa:(acc,oa)∈b6 [acc] s.heap:=bJ (by simp) ea;refine At (thn (hi _ s σ H _ J1 h) fun x s1 h1'=>At (wpAny_standAt ?_));show wpAny _ _ (foldedSetIterable iter Y.env x>>=_) _ _ s1;refine At (wpAny_of_eq (hs x) ?_);show wpAny _ _ (holding [x] (pyIter x)>>=_) _ _ s1;refine At (Db (thn h1' fun itv s2 h2'=>?_));obtain ⟨it,fp,tn,J,H2,e,I2,T,st2,f2,lp⟩:=h2';subst e;have p2:=I2.pin (acc,oa) (Do _ (Do _ inpa));have ac2:Acc s2.heap acc ys:=ha.at fun o e=>by rw [ea] at e;cases e;exact p2.1
 have hac:acc∉fp:=fun z=>(f2 acc z).2.2.2.2.2 (acc,oa) (Do _ (Do _ inpa)) rfl;have f2':∀b∈fp,bj Y pins H2 b:=fun b hb=>by
  obtain ⟨a0,a1,a2,a3,a4,a5⟩:=f2 b hb;exact ⟨a0,a1,a2,a3,a4,fun p hp=>a5 p ((Fk.mp hp).elim (fun z=>Ev _ z) fun z=>Do _ (Ev _ z))⟩
 have fa2:bj Y pins H2 acc:=⟨p2.2.1,hf.2⟩
 refine At (wpAny_runOwn (e_ hg ?_ ?_))
 ·exact iw mZ (d8 _ _ _ _ _ _ _ _ hg) hc hx h1 h2 h3 T hac I2.bZ st2 f2' fa2 ac2 lp fun s' ys' H' I' an' ac' q'=>AC ⟨ys',H',I',an',ac',q'⟩
 ·exact T.self _ 0 _ _ _ st2 (iw mZ (d8 _ _ _ _ _ _ _ _ hg) hc hx h1 h2 h3 T hac I2.bZ st2 f2' fa2 ac2 lp fun s' ys' H' I' an' ac' q'=>AC ⟨ys',H',I',an',ac',q'⟩)
end
section
variable {X:Cx} {scope:Scope} {own:List Str} {cap:List (Str×Nat)} {pins:List (Addr×Obj)} {σ:St} {H H':Hp} {s s':Shared} {fp:List Addr} {acc:Addr} {ys:List V}
theorem u3 (I:Inv X pins σ H s) (hf:∀b∈fp,bj X pins H b) (I':Inv (cX X scope own cap pins s H fp) [] σ' H' s') (hacc:s.heap.objs.size<=acc) (han:H' acc=none) (hob:∀H0,aX X.prog X.w H0 s'.heap acc ob):
  Inv X pins σ (upd H' acc ob) s':=by
 have nacc:∀b o,s.heap.get? b=some o->b≠acc:=fun b o e=>Gc (F9 (Cl e) hacc);have u:Un (frs X.stack) fp H H' s.heap s'.heap:=I'.base;refine I.wQ (ch:=fp) I'.os ⟨u.keep,u.slot,fun b o e n hx=>?_,u.there,fun b xs e=>?_,fun b o v e=>?_,fun b ps e=>?_⟩ (fun b o e=>?_) I'.bare fun b hb=>?_
 ·rw [ah (nacc b o e)];exact u.free b o e n hx
 ·have:=u.fZ b xs e;rw [ah (aC this han)];exact this
 ·have:=u.fj b o v e;rw [ah (aC this han)];exact this
 ·obtain ⟨more,this⟩:=u.fY b ps e;exact ⟨more,by rw [ah (aC this han)];exact this⟩
 ·by_cases hb:b=acc
  ·subst hb;rw [aD] at e;cases e;exact hob _
  ·rw [ah hb] at e;exact (I'.hok b o e).fE (fun _ _ _ q=>q) (fun c q=>by rw [ah (aC q han)];exact q) fun c xs q=>by rw [ah (aC q han)];exact q
 ·obtain ⟨f0,f1,f2,f3,f4,f5⟩:=hf b hb;exact ⟨f3,f1,f4,f5⟩
theorem fI {α:Type} {B:AK α} {node tg iter:Expr} {ifs:List Expr} {ins:Addr->Env->Sem Unit} {g:TG} {tt:TT} {tb:TBg α} {newAcc:Sem Value} {o:Obj} {z0:α} {fin:α->Prop} {ho:Addr->α->HO} (cs:CS X scope own cap)
  (hnew:∀{Q:Value->Shared->Prop} {E:Value->Shared->Prop} {s:Shared},Q (.ref s.heap.objs.size) {s with heap:=s.heap.push o}->wpAny (model X.prog X.w) X.A newAcc Q E s) (hof:o.isFreed=false) (hz0:∀h a,h.get? a=some o->B.ac h a z0)
  (hho:∀H0 h a ys,(a==sysModules)=false->B.ac h a ys->fin ys->aX X.prog X.w H0 h a (ho a ys)) (hdn:∀it acc env,j5 X.prog X.w node 0 (.ref it) (.ref acc) env) (hti:∀it acc env,j6 node 0 tg iter ifs (.ref it) (.ref acc) env (ins acc env))
  (hcs:∀{it acc:Value} {env:Env} {R:Result->Shared->Prop} {s:Shared},codeAny (model X.prog X.w) X.A (.compLoop node 0 it acc env) R s->wpAny (model X.prog X.w) X.A (pyIter it) (fun it' s'=>codeAny (model X.prog X.w) X.A (.compLoop node 0 it' acc env) R s') (notedBy (model X.prog X.w) X.A env fun x s'=>R (.error x) s') s->codeAny (model X.prog X.w) X.A (.compStart node 0 it acc env) R s)
  (hc:X.calm=true)
  (h1:∀pins s₂ H₂ fp,PG (cX X scope own cap pins s₂ H₂ fp) tg g) (h2:∀pins s₂ H₂ fp,PTs (cX X scope own cap pins s₂ H₂ fp) ifs tt)
  (h3:∀pins s₂ H₂ fp acc,PBg B (cX X scope own cap pins s₂ H₂ fp) acc (ins acc (bM X scope s₂.heap.objs.size)) tb)
  {J:It} {it:Addr} {tn:Nat->Heap->Prop} (T:Turn X.prog X.w X.K tg J fp it tn) (I:Inv X pins σ H s) (st:tn 0 s.heap) (hf:∀b∈fp,bj X pins H b)
  {Q:VK} (h:hZ g tt tb J (cS own cap σ) H z0 fun ys H2=>fin ys∧∀a,H2 a=none->Q (.ref a) (upd H2 a (ho a ys))) {RR:Value->Addr->Result->Shared->Prop} {E:Value->Shared->Prop}
  (hR:∀acc C s' H' m,s.heap.objs.size<=C->Inv X pins σ H' s'->H' C=none->s'.heap.Ns C m->Q (.ref acc) H'->RR (.ref acc) C (.ok .next) s'):
  wpAny (model X.prog X.w) X.A newAcc (fun acc s₃=>wpAny (model X.prog X.w) X.A (newFunctionEnv scope X.env.globals (cP X.env scope.names []) [] X.env.qual none .none (some X.env)) (fun cenv s₄=>
   codeAny (model X.prog X.w) X.A (.compStart node 0 (.ref it) acc {cenv with scope:=relabel scope X.env}) (RR acc cenv.locals) s₄) E s₃) E s:=by
 have hlt:∀b∈fp,b<s.heap.objs.size:=fun b hb=>by
  obtain ⟨o,e,_⟩:=T.obj _ _ st b hb;exact Cl e
 refine hnew (mR ?_);have e1:(s.heap.push o).objs.size=s.heap.objs.size+1:=Heap.size_push ..;have I1:=uO I cs hf hlt (o:=o) hof;have kp:∀b u,s.heap.get? b=some u->(pushCells ((s.heap.push o).push {cls:=.type "dict",data:=.dict #[]}) scope.names).get? b=some u:=
  fun b u e=>pushCells_keeps _ _ b u (BT _ (BT _ e))
 have st1:=T.keep _ _ _ st fun b _ o e=>kp b o e;have ac1:B.ac (pushCells ((s.heap.push o).push {cls:=.type "dict",data:=.dict #[]}) scope.names) s.heap.objs.size z0:=
  hz0 _ _ (pushCells_keeps _ _ _ _ (BT _ (Ch _ hof)))
 dsimp only;rw [e1];have hac:s.heap.objs.size∉fp:=fun z=>Nat.lt_irrefl _ (hlt _ z);have fa:bj (cX X scope own cap pins s H fp) [] H s.heap.objs.size:=by
  refine ⟨I.hok.fresh (Gd _),Gc (Nat.lt_succ_self _),fun z=>?_,.inr (Gd _),fun x c e z=>?_,fun p hp z=>?_⟩
  ·rcases Fr.mp (I.gv _ z) with z|z
   ·exact absurd I.lt (by rw [←z];exact Nat.lt_irrefl _)
   ·exact I.B3 (Gd _) z
  ·rcases cs.bw I.ok e with ⟨_,a,_⟩|⟨_,a⟩
   ·rw [z] at a;omega
   ·obtain ⟨v,q⟩:=I.cell x c a;exact absurd q.lt (by rw [z];exact Nat.lt_irrefl _)
  ·have hp':p∈X.pn++pins:=by simpa [cX] using hp
   exact absurd (Cl (I.pin p hp').1) (by rw [z];exact Nat.lt_irrefl _)
 have ff:∀b∈fp,bj (cX X scope own cap pins s H fp) [] H b:=fun b hb=>by
  obtain ⟨f0,f1,f2,f3,f4,f5⟩:=hf b hb;refine ⟨f0,Gc (Nat.lt_succ_of_lt (hlt b hb)),fun z=>?_,.inl hb,fun x c e=>?_,fun p hp=>?_⟩
  ·rcases Fr.mp (I.gv _ z) with z|z
   ·exact f1 z
   ·exact f2 z
  ·rcases cs.bw I.ok e with ⟨_,a,_⟩|⟨_,a⟩
   ·exact Nat.ne_of_gt (F9 (hlt b hb) (Gb (Nat.le_add_right _ 2) a))
   ·exact f4 x c a
  ·have hp':p∈X.pn++pins:=by simpa [cX] using hp
   exact f5 p hp'
 have fin':∀s' ys' H',Inv (cX X scope own cap pins s H fp) [] (cS own cap σ) H' s'->H' s.heap.objs.size=none->B.ac s'.heap s.heap.objs.size ys'->(fin ys'∧∀a,H' a=none->Q (.ref a) (upd H' a (ho a ys')))->
   RR (.ref s.heap.objs.size) (s.heap.objs.size+1) (.ok .next) s':=fun s' ys' H' I' an' ac' q'=>by
  have I2:=u3 I hf I' (Gd _) an' fun H0=>hho H0 _ _ _ (beq_eq_false_iff_ne.mpr (Ne.symm (Gc I.big))) ac' q'.1;obtain ⟨m,hn,_⟩:=I'.loc;refine hR _ _ s' _ m (Nat.le_succ _) I2 ?_ hn (q'.2 _ an');rw [ah (Nat.ne_of_gt (Nat.lt_succ_self _))];exact I'.free
 have lp:∀s₄:Shared,s₄={s with heap:=pushCells ((s.heap.push o).push {cls:=.type "dict",data:=.dict #[]}) scope.names}->
   codeAny (model X.prog X.w) X.A (.compLoop node 0 (.ref it) (.ref s.heap.objs.size) (bM X scope s.heap.objs.size)) (RR (.ref s.heap.objs.size) (s.heap.objs.size+1)) s₄:=by
  rintro s₄ rfl;exact iw (Y:=cX X scope own cap pins s H fp) (d:=0) (hdn _ _ _) (hti _ _ _) hc (fun _ _ z=>z) (h1 pins s H fp) (h2 pins s H fp) (h3 pins s H fp s.heap.objs.size) T hac I1 st1 ff fa ac1 h fin'
 exact hcs (lp _ rfl) (T.self _ 0 _ _ _ st1 (lp _ rfl))
theorem pS (H0:Hp) (h:Heap) (a:Addr) (ys:List V) (_:(a==sysModules)=false) (ac:qw.ac h a ys) (hz:ys.length<=sizeLine):aX P w H0 h a (.lst ys):=by
 obtain ⟨its,r,n,pl⟩:=ac;exact ⟨hz,its,n,r,pl⟩
noncomputable def rG (own:List Str) (cap:List (Str×Nat)) (wi:TI) (g:TG) (tt:TT) (tb:TB):TE:=fun σ H Q=>wi σ H fun J H1=>hZ g tt tb J (cS own cap σ) H1 [] fun ys H2=>ys.length<=sizeLine∧∀a,H2 a=none->Q (.ref a) (upd H2 a (.lst ys))
variable {elt tg iter:Expr} {ifs:List Expr} {rest:List Comprehension} {pos:Pos} {wi:TI} {g:TG} {tt:TT} {tb:TB}
theorem CS.names (cs:CS X scope own cap):∀x∈scope.names,x.2=.local->scope.names.lookup x.1=some .local:=fun x hx e=>cs.lk (by rw [←e];exact hx)
theorem Inv.mY (I:Inv X pins σ H s) (I':Inv X pins σ' H' s') (hC:s.heap.objs.size<=C) (hn:H' C=none) (hs:Heap.SameBut C s'.heap h'):Inv X pins σ' H' {s' with heap:=h'}:=by
 obtain ⟨f0,f1,f2,f3,f4,f5⟩:=I.gM hC hn;exact I'.turned (t':=s'.toks) (fun b o hb e=>(hs.2 b hb).trans e) f0 f1 f3 f4 f5
theorem zE (cs:CS X scope own cap) (hc:X.calm=true) (hi:PI X tg iter wi) (h1:∀pins s₂ H₂ fp,PG (cX X scope own cap pins s₂ H₂ fp) tg g) (h2:∀pins s₂ H₂ fp,PTs (cX X scope own cap pins s₂ H₂ fp) ifs tt)
  (h3:∀pins s₂ H₂ fp acc,PB (cX X scope own cap pins s₂ H₂ fp) acc (a_ elt (⟨tg,iter,ifs,0⟩::rest) scope pos 0 (.ref acc) (bM X scope s₂.heap.objs.size)) tb)
  (hs:∀x,foldedSetIterable iter X.env x=pure x:=by intro _;rfl):PE X (.ListComp elt (⟨tg,iter,ifs,0⟩::rest) scope pos) (rG own cap wi g tt tb):=by
 intro pins s σ H Q I h;rw [eval_ListComp];refine wpAny_comprehension_free (use:=none) rfl hs (cV (cs.lq I.ok)) cs.kind cs.names ?_;refine thn (hi pins s σ H _ I h) fun x s1 h1'=>thn h1' fun itv s2 h2'=>?_;obtain ⟨it,fp,tn,J,H2,e,I2,T,st2,f2,lp⟩:=h2';subst e;refine fI (B:=qw) (fin:=fun ys=>ys.length<=sizeLine) (ho:=fun _ ys=>.lst ys) (RR:=fun acc C=>compPost (model X.prog X.w) X.A X.xe none (EP X pins σ Q) acc C) cs wpAny_newObj_type rfl (fun h a e=>⟨[],.nil,_,e⟩) pS (fun _ _ _=>mZ) (fun it acc env=>d8 _ _ _ _ _ _ _ _ rfl) (e_ rfl) hc h1 h2 h3 T I2 st2 f2 lp ?_;intro acc C s' H' m hC I' hn hns q;exact ⟨m,hns,fun h' hs'=>⟨.ref acc,H',CT.Inv.mY I2 I' hC hn hs',rfl,q⟩⟩
theorem zR {i:Nat} {x:Str} {pos' spos:Pos} (cs:CS X scope own cap) (hc:X.calm=true) (hN:X.N.Nodup) (hix:X.N[i]?=some x) (hx:Loc X.env.scope x) (hi:PI X tg iter wi) (h1:∀pins s₂ H₂ fp,PG (cX X scope own cap pins s₂ H₂ fp) tg g)
  (h2:∀pins s₂ H₂ fp,PTs (cX X scope own cap pins s₂ H₂ fp) ifs tt)
  (h3:∀pins s₂ H₂ fp acc,PB (cX X scope own cap pins s₂ H₂ fp) acc (a_ elt (⟨tg,iter,ifs,0⟩::rest) scope pos 0 (.ref acc) (bM X scope s₂.heap.objs.size)) tb)
  (hsw:swapsWith (.ListComp elt (⟨tg,iter,ifs,0⟩::rest) scope pos) (some (.Name x pos')) spos.line X.env=pure true)
  (hs:∀x,foldedSetIterable iter X.env x=pure x:=by intro _;rfl) (hf:X.fn x=true∨X.env.scope.names.lookup x=some .local:=by first|exact .inl rfl|exact .inr rfl|assumption):
  PS X (.Assign [.Name x pos'] (.ListComp elt (⟨tg,iter,ifs,0⟩::rest) scope pos) spos) (lR (rG own cap wi g tt tb) (eJ i)):=by
 intro pins s σ H D I h;rw [exec_Assign_Name_used _ _ _ _ hsw];refine At (wpAny_standAt (At ?_));show wpAny _ X.A (do let _←comprehension (.ListComp elt (⟨tg,iter,ifs,0⟩::rest) scope pos) scope X.env _ (newList []) false (eval iter X.env) (some (assign (.Name x pos') X.env))) _ _ s;refine At (AT (wpAny_comprehension_free (use:=some (assign (.Name x pos') X.env)) (Q:=fun _ s'=>SP X pins D .next s') rfl hs (cV (cs.lq I.ok)) cs.kind cs.names ?_) (fun _ s' hq=>AC (AC hq)) fun _ _ e=>e);refine thn (hi pins s σ H _ I h) fun xv s1 h1'=>thn h1' fun itv s2 h2'=>?_;obtain ⟨it,fp,tn,J,H2,e,I2,T,st2,f2,lp⟩:=h2';subst e;refine fI (B:=qw) (fin:=fun ys=>ys.length<=sizeLine) (ho:=fun _ ys=>.lst ys) (Q:=fun x H1=>eJ i x σ H1 D.nx) (RR:=fun acc C=>compPost (model X.prog X.w) X.A X.xe (some (assign (.Name x pos') X.env)) (fun _ s'=>SP X pins D .next s') acc C) cs wpAny_newObj_type rfl (fun h a e=>⟨[],.nil,_,e⟩) pS (fun _ _ _=>mZ) (fun it acc env=>d8 _ _ _ _ _ _ _ _ rfl) (e_ rfl) hc h1 h2 h3 T I2 st2 f2 lp ?_;intro acc C s' H' m hC I' hn hns q;show wpAny _ X.A (assign (.Name x pos') X.env (.ref acc)) _ _ _;refine wpAny_assign_Name (iS I' hN hix hx (v:=.ref acc) rfl (fun s'' I'' ⟨a,sb,ha⟩=>?_) hf);have hne:C≠a:=by
  rcases ha with z|z
  ·rw [z];exact Nat.ne_of_gt (F9 I2.lt hC)
  ·obtain ⟨v,hv⟩:=I2.cell x a z;exact Nat.ne_of_gt (F9 hv.lt hC)
 exact ⟨m,hns.sameBut sb hne,fun h' hs'=>⟨_,H',CT.Inv.mY I2 I'' hC hn hs',q⟩⟩
variable {s₂:Shared} {H₂:Hp}
end
end CT
set_option autoImplicit true
set_option relaxedAutoImplicit true
namespace CT
open PySem PySem.Builtin
theorem jT:fillsNumberSlot (.type "tuple") "mul"=pure false:=
 fillsNumberSlot_seq (id:="tuple.__mul__") (r:=some (.builtin "tuple.__rmul__")) F.slot_tuple_mul.lookup (by decide+kernel) F.slot_tuple_rmul.lookup (by decide+kernel)
theorem oR:seqRepeat? (.type "tuple")=pure (some (.builtin "tuple.__mul__")):=by
 unfold seqRepeat?;rw [seqSlot_of (T:="tuple") (name:="__mul__") (id:="tuple.__mul__") F.slot_tuple_mul.lookup (by decide+kernel),seqSlot_of (T:="tuple") (name:="__rmul__") (id:="tuple.__rmul__") F.slot_tuple_rmul.lookup (by decide+kernel)];rfl
theorem lM (a:Int) (t:Tok) (l:Addr) (d:Option Addr) (its:Array Value) (n:Nat) (sl:Array (Option Value)):
  Meets (Builtin.«int.__rmul__» ⟨[.int a t,.ref l],[]⟩) (fun _ R s=>s.heap.get? l=some {cls:=.type "tuple",dict:=d,data:=.seq its n,slots:=sl}∧R (.ok (.ret Value.notImplemented)) s):=
 .of_wp fun prog w A R s h=>by obtain ⟨hp,g,d,tk,os⟩:=s;obtain ⟨hl,h⟩:=h;wp_walk;exact ⟨_,rfl,h⟩
theorem mO (l:Addr) (d:Option Addr) (v:Value) (n:Nat) (sl:Array (Option Value)) (k:Int) (u:Tok) (h0:0<=k) (h1:k<2^20):
  Meets (Builtin.«tuple.__mul__» ⟨[.ref l,.int k u],[]⟩) (fun _ R s=>s.heap.get? l=some {cls:=.type "tuple",dict:=d,data:=.seq #[v] n,slots:=sl}∧
   if k=1 then R (.ok (.ret (.ref l))) s else R (.ok (.ret (.ref s.heap.objs.size))) {s with heap:=s.heap.push {cls:=.type "tuple",data:=.seq (List.replicate k.toNat v).toArray}}):=
 .of_wp fun prog w A R s h=>by
  obtain ⟨hp,g,dd,tk,os⟩:=s;obtain ⟨hl,h⟩:=h
  wp_walk
  refine wpAny_ite_false (by simp;omega) ?_
  wp_walk
  by_cases k1:k=1
  ·subst k1;rw [if_pos rfl] at h
   wp_walk
   exact ⟨_,rfl,h⟩
  ·rw [if_neg k1] at h
   by_cases k0:k=0
   ·subst k0
    wp_walk
    exact ⟨_,rfl,h⟩
   ·have e:List.foldl (fun x1 x2=>x1++x2) #[] (List.replicate k.toNat #[v])=(List.replicate k.toNat v).toArray:=by
     have f:∀(m:Nat) (acc:List Value),List.foldl (fun x1 x2=>x1++x2) acc.toArray (List.replicate m #[v])=(acc++List.replicate m v).toArray:=by
      intro m
      induction m with
      |zero=>intro acc;simp
      |succ m ih=>
       intro acc;rw [List.replicate_succ,List.foldl_cons,show acc.toArray++#[v]=(acc++[v]).toArray by simp,ih,List.replicate_succ];simp
     have:=f k.toNat [];rw [List.nil_append] at this;exact this
    wp_walk
    refine wpAny_ite_false (by simp;omega) ?_;refine wpAny_ite_false (by simp;omega) ?_;refine wpAny_ite_false (by simp [Tuple.tupleTooMany,sizeLine];omega) ?_;rw [e]
    wp_walk
    refine wpAny_ite_false (by simp [sizeLine];omega) ?_
    wp_walk
    exact ⟨_,rfl,h⟩
end CT
set_option autoImplicit true
set_option relaxedAutoImplicit true
namespace CT
open PySem PySem.Spec PySem.W L2
open Builtin Builtin.ObjectAttr
noncomputable abbrev bmV:List Value:=[.type "ValueError",.type "Exception",.type "BaseException",.type "object"]
noncomputable def kI:List Value->Bool
 |[]=>false
 |v::r=>(v::r)==bmV||(match v with|.ref _=>kI r|_=>false)
theorem my (hx:bmV.contains x=true):∀{l:List Value},kI l=true->l.contains x=true
 |[],e=>nomatch e
 |v::r,e=>by
  unfold kI at e;rcases Bool.or_eq_true_iff.mp e with q|q
  ·rw [beq_iff_eq.mp q];exact hx
  ·cases v with
   |ref c=>rw [List.contains_cons,my hx q,Bool.or_true]
   |_=>cases q
structure eC (K:Frag) (C:Addr):Prop where
 hd:hasDictIn K C=true
 ov:(clsIn K C).any (fun cd=>kI cd.mro)=true
 ga:findIn K (.ref C) "__getattribute__"=some (some (.builtin "BaseException.__getattribute__"))
 gn:findIn K (.ref C) "__getattr__"=some none
 sa:findIn K (.ref C) "__setattr__"=some (some (.builtin "object.__setattr__"))
theorem eC.mro (c:eC K C) (hx:bmV.contains x=true):mroIn K C x=some true:=by
 obtain ⟨cd,hc,ho⟩:=any_some c.ov;have h:=my hx ho;unfold mroIn;rw [hc,Option.bind_some,if_neg (fun q=>by cases hl:cd.mro with|nil=>rw [hl] at h;cases h|cons _ _=>rw [hl] at q;cases q),h]
section
variable {prog:Program} {w:World} {A:Around} {E:Value->Shared->Prop} {s:Shared} {K:Frag} {x C:Addr} {ox:Obj} {od:Option Obj} {name:Str}
theorem By (X:K.In s.heap) (I:InstAt s.heap x ox C od) (hf:findObj K C od name=some f)
  (h:wpAny (model prog w) A (match f with|.value v=>ret v|.bind g a=>bindTo g a (.ref x) (.ref C)|.missing=>unsupported "x") Q E s) (hm:f≠.missing):
  wpAny (model prog w) A (Builtin.«object.__getattribute__» ⟨[.ref x,.str name tk],[]⟩) Q E s:=by
 have L0:=I.type (M:=model prog w);have L1:=looks_find (M:=model prog w) X I hf;unfold Builtin.«object.__getattribute__»;refine At (AC (At (AC (At (L0.here (At (L1.here ?_)))))));cases f with
 |missing=>exact absurd rfl hm
 |value v=>exact h
 |bind g a=>exact h
theorem yW (X:K.In s.heap) (I:InstAt s.heap x ox C od) (c:eC K C) (hf:findObj K C od name=some f) (hm:f≠.missing)
  (h:wpAny (model prog w) A.in1 (match f with|.value v=>ret v|.bind g a=>bindTo g a (.ref x) (.ref C)|.missing=>unsupported "x")
   (fun fin s'=>match fin with|.done f=>R (.ok f) s'|.again c'=>c'.quiet=true∧codeAny (model prog w) A c' R s') (fun e s'=>R (.error e) s') s):
  codeAny (model prog w) A (.call (.builtin "BaseException.__getattribute__") ⟨[.ref x,.str name tk],[]⟩) R s:=by
 have S:=PySem.F.attr_ValueError.ga;have L0:Looks (model prog w) s.heap (isInstance (.ref x) (.type "BaseException")) true:=I.type.andThen (looks_mroIn X (c.mro (by decide)));refine codeAny_call_builtin S.plain F.entry_bexc_ga (@check_slot (model prog w) _ _ s "BaseException.__getattribute__" "BaseException" "__getattribute__" (.ref x) [.str name tk] [] _ (by decide+kernel) (by decide+kernel) L0 (F.args_bexc_ga (.ref x) (.str name tk)) ?_);exact By X I hf h hm
theorem Ao (X:K.In s.heap) (I:InstAt s.heap x ox C od) (c:eC K C) (hf:findObj K C od name=some f) (hm:f≠.missing)
  (h:wpAny (model prog w) A.in1 (match f with|.value v=>ret v|.bind g a=>bindTo g a (.ref x) (.ref C)|.missing=>unsupported "x")
   (fun fin s'=>match fin with|.done (.ret v)=>wpAny (model prog w) A (handedOut v) Q E s'|_=>False) (fun e s'=>False) s):
  wpAny (model prog w) A (getAttrBy (.ref x) (.str name tk) fill expr) Q E s:=by
 have L0:=I.type (M:=model prog w);have L1:=looks_findIn (M:=model prog w) X c.ga;have L2:=looks_findIn (M:=model prog w) X c.gn;have S:=PySem.F.attr_ValueError.ga;unfold getAttrBy;refine Db (At (L0.here (At (L1.here ?_))));show wpAny _ _ (getAttrByItsOwn _ _ _ _ _ _) _ _ _;unfold getAttrByItsOwn;refine At (L2.here ?_);refine At (wpAny_attempt (Db ?_));have ec:callGetattribute (.ref x) (.str name tk) (.builtin "BaseException.__getattribute__") expr=boundAndCalled (.builtin "BaseException.__getattribute__") (.ref x) (.str name tk):=by cases expr<;>rfl
 rw [ec];unfold boundAndCalled;rw [S.bind];refine At (AC (wpAny_call (yW X I c hf hm (AT h (fun fin s' z=>?_) fun e s' z=>z.elim))));rcases fin with (_|_|_|_)|_<;>first|exact z|exact z.elim
theorem wI (X:K.In s.heap) (I:InstAt s.heap x ox C od) (c:eC K C) (hf:findObj K C od "__class__"=some (.bind (.builtin "getset_descriptor.__get__") (.builtin "object.__class__")))
  (h:Q (some (.ref C)) {s with toks:=s.toks+1}):wpAny (model prog w) A (getAttr? (.ref x) "__class__") Q E s:=by
 unfold getAttr? getAttrBy?;refine At (wpAny_mkText (At (wpAny_attempt (Ao (s:={s with toks:=s.toks+1}) X I c hf (fun z=>nomatch z) ?_))));refine At (Db (wpAny_call (class_get (s:={s with toks:=s.toks+1}) X I (c.mro (by decide)) ?_)));exact AC (AC (AC h))
theorem oh (c:eC K C) (hf:findObj K C od "__class__"=some (.bind (.builtin "getset_descriptor.__get__") (.builtin "object.__class__"))):KitX K (.ref x) (.ref C) (fun h=>InstAt h x ox C od) where
 ty:=fun _ _ _ I=>I.type
 it:=fun M h X _=>by
  obtain ⟨cd,hc,_⟩:=any_some c.ov;unfold clsIn at hc;split at hc
  ·rename_i ho;intro A' Q' E' s' k q;unfold isType loadHead;exact At (wpAny_loadPart (k _ _ (X _ _ ho)) (AC q))
  ·cases hc
 ne:=fun h tp dd its n sl X htp=>by
  obtain ⟨cd,hc,_⟩:=any_some c.ov;cases hb:(Value.ref C==Value.ref tp) with
  |false=>rfl
  |true=>
   have e:=Value.ref.inj (beq_iff_eq.mp hb);rw [←e] at htp;unfold clsIn at hc;split at hc
   ·rename_i ho;have z:=htp.symm.trans (X _ _ ho);cases z
   ·cases hc
 ca:=fun X I k=>wI X I c hf k
end
end CT
set_option autoImplicit true
set_option relaxedAutoImplicit true
set_option autoImplicit true
set_option relaxedAutoImplicit true
namespace CT
open PySem PySem.Spec PySem.W L2
noncomputable def bg (fr:Bool) (x C:Addr) (dx:Option Addr):HO:=.ext fun h=>∃vs,h.get? x=some ⟨.ref C,dx,.fields vs,#[]⟩∧vs.size=6∧(fr=true->vs[1]?=some .none)
noncomputable def uJ (d:Addr) (fs:List (Str×V)):HO:=.ext fun h=>∃mA,h.Ns1 d mA∧(∀f,bQ (fs.lookup f) (mA f))∧Within mA (fs.map (·.1))
section
variable {P:Program} {w:World} {H:Hp} {h:Heap} {x C d:Addr} {dx:Option Addr} {fs:List (Str×V)} {fr:Bool}
theorem fe (o:aX P w H h x (bg fr x C dx)):∃vs,h.get? x=some ⟨.ref C,dx,.fields vs,#[]⟩∧vs.size=6∧(fr=true->vs[1]?=some .none):=o.1
theorem sS (e:h.get? x=some ⟨.ref C,dx,.fields vs,#[]⟩) (hz:vs.size=6) (hf:fr=true->vs[1]?=some .none):aX P w H h x (bg fr x C dx):=⟨⟨vs,e,hz,hf⟩,⟨_,e⟩,fun _ _ ⟨us,q,z⟩ k=>⟨us,k _ q,z⟩⟩
theorem Ed (o:aX P w H h d (uJ d fs)):∃mA,h.Ns1 d mA∧(∀f,bQ (fs.lookup f) (mA f))∧Within mA (fs.map (·.1)):=o.1
end
section
variable {X:Cx} {pins:List (Addr×Obj)} {σ:St} {H:Hp} {s:Shared} {a C dx:Addr} {fs:List (Str×V)} {f:Str} {v:V} {A:Around} {E:Value->Shared->Prop} {fr:Bool}
theorem EN (I:Inv X pins σ H s) (e:H a=some (bg fr a C (some dx))) (n:H dx=some (uJ dx fs)):∃vs mA odd,s.heap.get? a=some ⟨.ref C,some dx,.fields vs,#[]⟩∧s.heap.Ns1 dx mA∧(∀f,bQ (fs.lookup f) (mA f))∧Within mA (fs.map (·.1))∧
  InstAt s.heap a ⟨.ref C,some dx,.fields vs,#[]⟩ C (some odd)∧∀name,lookIn name odd=some (mA name):=by
 obtain ⟨vs,h1,_⟩:=fe (I.hok a _ e);obtain ⟨mA,h2,r,q⟩:=Ed (I.hok dx _ n);obtain ⟨odd,h3,h4⟩:=mw h2;exact ⟨vs,mA,odd,h1,h2,r,q,⟨h1,rfl,rfl,h3⟩,h4⟩
end
set_option autoImplicit true
set_option relaxedAutoImplicit true
section
variable {X:Cx} {pins:List (Addr×Obj)} {σ:St} {H:Hp} {s:Shared} {h':Heap}
theorem HOk.B1 (x:HOk P w H h) (e:h.get? a=none):H a=none:=by
 cases q:H a with
 |none=>rfl
 |some o=>
  have hx:=x a o q;have:∃u,h.get? a=some u:=by
   cases o with
   |lst xs=>obtain ⟨_,_,_,_,z⟩:=hx;exact ⟨_,z⟩
   |tup xs=>obtain ⟨_,_,_,o,z,_⟩:=hx;exact ⟨_,z⟩
   |dK kvs=>obtain ⟨_,_,_,_,o,_,_,z,_⟩:=hx;exact ⟨_,z⟩
   |dT kvs=>obtain ⟨_,_,_,_,o,_,_,z,_⟩:=hx;exact ⟨_,z⟩
   |set S n=>obtain ⟨o,_,_,_,z,_⟩:=hx;exact ⟨_,z⟩
   |ins C dx fs=>obtain ⟨_,_,_,z,_⟩:=hx;exact ⟨_,z⟩
   |own y=>exact hx
   |xd fs=>obtain ⟨_,⟨_,_,_,z,_⟩,_⟩:=hx;exact ⟨_,z⟩
   |rng lo hi=>obtain ⟨_,_,_,z⟩:=hx;exact ⟨_,z⟩
   |frz ob u=>obtain ⟨z,_⟩:=hx;exact ⟨_,z⟩
   |tbl ps=>exact ⟨_,hx⟩
   |met f y=>exact ⟨_,hx⟩
   |ext φ=>exact hx.2.1
  obtain ⟨u,z⟩:=this;rw [e] at z;cases z
theorem Inv.D_ {t':Nat} (I:Inv X pins σ H s) (k:∀b u,s.heap.get? b=some u->h'.get? b=some u) (hp:s.heap.get? a=none) (new:aX X.prog X.w (upd H a o) h' a o):
  Inv X pins σ (upd H a o) {s with heap:=h',toks:=t'}:=by
 have hn:=HOk.B1 I.hok hp;refine I.un (Un.mk (fun b u q _ _ _=>k b u q) (fun b u q _ _ _=>⟨u.slots,k b u q⟩) (fun b u q n _=>?_) (fun b u q _=>⟨u,k b u q⟩) (fun b xs q=>?_) (fun b u xs q=>?_) fun b ps q=>⟨#[],?_⟩) fun b u q=>?_
 ·rw [ah (fun z=>by rw [z,hp] at q;cases q)];exact n
 ·rw [ah (aC q hn)];exact q
 ·rw [ah (aC q hn)];exact q
 ·rw [ah (aC q hn),q];simp
 ·by_cases hb:b=a
  ·subst hb;rw [aD] at q;cases q;exact new
  ·rw [ah hb] at q;exact (I.hok b u q).fE (fun c v _ z=>k c v z) (fun c z=>by rw [ah (aC z hn)];exact z) fun c xs z=>by rw [ah (aC z hn)];exact z
end
section
variable {X:Cx} {pins:List (Addr×Obj)} {σ:St} {H:Hp} {s:Shared} {C f:Addr} {k:Nat} {CX:CXT} {fd:FuncData} {ps:List Str} {sp:Sp} {E:XK} {x:Str} {p pos:Pos} {e:Expr} {es:List Expr} {t:TA}
theorem CZ (I:Inv X pins σ H s) (hm:excIn X.K C bmV "ValueError.__new__"=true) (hl:us.length<=sizeLine) (h:∀a,H a=none->Q (.ref a) (upd H a (bg true a C none))):
  wpAny (model X.prog X.w) X.A (call (.ref C) us) (EP X pins σ Q) X.xe s:=by
 have K:=I.kIn;unfold excIn at hm;split at hm
 ·rename_i dd cd sl ho;split at hm
  ·rename_i C' bm k0 k1 k2 k3 n k5 e1 e2;simp only [Bool.and_eq_true,beq_iff_eq,Bool.not_eq_true'] at hm;obtain ⟨⟨⟨⟨⟨rfl,rfl⟩,hdel⟩,ht⟩,hok⟩,hni⟩:=hm;obtain ⟨nm,bs,mro,ns,qn,hd,sn,sub,ab,col,del⟩:=cd;dsimp only at e1 hdel hok hni;subst e1 hdel;have hsl:sl=#[k0,k1,k2,k3,some (.builtin "ValueError.__new__"),k5]:=by
    obtain ⟨l⟩:=sl;exact congrArg Array.mk e2
   subst hsl;obtain ⟨hh,g,d,tk,os⟩:=s;refine wpAny_call_exc_subT PySem.F.excBase_ValueError (tail_of_in K ht) (K _ _ ho) (.of_isNs (isNs_of_in K hok)) (nsMap_none_of_in K hok hni) (fun h' a made=>?_) hl;obtain ⟨tt,h1,_,_⟩:=made.there;exact ⟨.ref a,_,CT.Inv.D_ (t':=tk) I made.keeps made.new (sS h1 rfl fun _=>rfl),rfl,h a (HOk.B1 I.hok made.new)⟩
  ·cases hm
 ·cases hm
noncomputable def tX0 (C:Addr):TE:=fun _ H Q=>∀a,H a=none->Q (.ref a) (upd H a (bg true a C none))
theorem En (hm:excIn X.K C bmV "ValueError.__new__"=true) (hk:keepIn X.K (.ref C)=true) (hg:Gl X x) (hx:X.mg x=some (.ref C)) (hdb: ~~~((x==("__debug__":Str))=false)):PE X (.Call (.Name x p) [] [] pos) (tX0 C):=by
 intro pins s σ H Q I h;refine wpAny_Call_Name_kw (dS I hg hx ?_ hdb);exact callWith_K0 I.kIn hk (CZ (us:=[]) I hm (Nat.zero_le _) h)
end
end CT
set_option autoImplicit true
set_option relaxedAutoImplicit true
namespace CT
open PySem
inductive PK where
 |i (n:Int)
 |t (l:List PK)
mutual
noncomputable def PK.py:PK->PyData
 |.i n=>.int n
 |.t l=>.tuple (PK.pyL l)
noncomputable def PK.pyL:List PK->List PyData
 |[]=>[]
 |k::ks=>PK.py k::PK.pyL ks
end
mutual
noncomputable def PK.hs:PK->Int
 |.i n=>hashInt n
 |.t l=>reduceHash (Builtin.Tuple.tupleHashOf (PK.hsL l))
noncomputable def PK.hsL:List PK->List Int
 |[]=>[]
 |k::ks=>PK.hs k::PK.hsL ks
end
mutual
noncomputable def PK.dr:PK->Nat
 |.i _=>1
 |.t l=>PK.drL l+1
noncomputable def PK.drL:List PK->Nat
 |[]=>0
 |k::ks=>PK.dr k+PK.drL ks
end
mutual
noncomputable def PK.dp:PK->Nat
 |.i _=>0
 |.t l=>PK.dpL l+1
noncomputable def PK.dpL:List PK->Nat
 |[]=>0
 |k::ks=>max (PK.dp k) (PK.dpL ks)
end
mutual
noncomputable def bL (h:Heap):PK->Value->Prop
 |.i n,v=>∃tk,v=.int n tk
 |.t l,v=>∃a o its n,v=.ref a∧h.get? a=some o∧o.cls=.type "tuple"∧o.data=.seq its n∧bt h l its.toList
noncomputable def bt (h:Heap):List PK->List Value->Prop
 |[],vs=>vs=[]
 |k::ks,vs=>∃v us,vs=v::us∧bL h k v∧bt h ks us
end
mutual
theorem bL.inj:∀{x y:PK} {v:Value},bL h x v->bL h y v->x=y
 |.i n,.i m,v,⟨tk,e1⟩,⟨tk',e2⟩=>by rw [e1] at e2;cases e2;rfl
 |.i n,.t l,v,⟨tk,e1⟩,⟨a,_,_,_,e2,_⟩=>by rw [e1] at e2;cases e2
 |.t l,.i n,v,⟨a,_,_,_,e2,_⟩,⟨tk,e1⟩=>by rw [e1] at e2;cases e2
 |.t l,.t l',v,⟨a,o,its,n,e1,g1,_,d1,r1⟩,⟨a',o',its',n',e2,g2,_,d2,r2⟩=>by
  rw [e1] at e2;cases e2;rw [g1] at g2;cases g2;rw [d1] at d2;cases d2;rw [bt.inj r1 r2]
theorem bt.inj:∀{x y:List PK} {vs:List Value},bt h x vs->bt h y vs->x=y
 |[],[],_,_,_=>rfl
 |[],_::_,_,e,⟨_,_,e',_⟩=>by rw [show _=_ from e] at e';cases e'
 |_::_,[],_,⟨_,_,e',_⟩,e=>by rw [show _=_ from e] at e';cases e'
 |k::ks,k'::ks',vs,⟨v,us,e,a,b⟩,⟨v',us',e',a',b'⟩=>by
  rw [e] at e';cases e';rw [bL.inj a a',bt.inj b b']
end
mutual
theorem bL.keep (hk:∀b o its n,h.get? b=some o->o.data=.seq its n->h'.get? b=some o):∀{x:PK} {v:Value},bL h x v->bL h' x v
 |.i _,_,e=>e
 |.t _,_,⟨a,o,its,n,e1,g,c,d,r⟩=>⟨a,o,its,n,e1,hk _ _ _ _ g d,c,d,bt.keep hk r⟩
theorem bt.keep (hk:∀b o its n,h.get? b=some o->o.data=.seq its n->h'.get? b=some o):∀{x:List PK} {vs:List Value},bt h x vs->bt h' x vs
 |[],_,e=>e
 |_::_,_,⟨v,us,e,a,b⟩=>⟨v,us,e,bL.keep hk a,bt.keep hk b⟩
end
mutual
theorem bL.reads:∀{x:PK} {v:Value},bL h x v->∃as,Reads h v x.py as
 |.i n,_,⟨tk,e⟩=>by subst e;exact ⟨_,.int n tk⟩
 |.t l,_,⟨a,o,its,n,e1,g,c,d,r⟩=>by
  subst e1;obtain ⟨as,ra⟩:=bt.reads r;exact ⟨_,.tuple g c d ra⟩
theorem bt.reads:∀{x:List PK} {vs:List Value},bt h x vs->∃as,ReadsAll h vs (PK.pyL x) as
 |[],_,e=>by cases (show _=_ from e);exact ⟨_,.nil⟩
 |_::_,_,⟨v,us,e,a,b⟩=>by
  subst e;obtain ⟨as,ra⟩:=bL.reads a;obtain ⟨bs,rb⟩:=bt.reads b;exact ⟨_,.cons ra rb⟩
end
mutual
theorem PK.lay:∀k:PK,k.py.canLay0=true
 |.i _=>rfl
 |.t l=>PK.BM l
theorem PK.BM:∀l:List PK,PyData.canLayAll0 (PK.pyL l)=true
 |[]=>rfl
 |k::ks=>by
  show (PyData.canLay0 (PK.py k)&&PyData.canLayAll0 (PK.pyL ks))=true;rw [PK.lay k,PK.BM ks];rfl
end
mutual
theorem PK.dep:∀k:PK,k.py.depth=k.dp
 |.i _=>rfl
 |.t l=>by
  show PyData.depthAll (PK.pyL l)+1=PK.dpL l+1;rw [PK.A_ l]
theorem PK.A_:∀l:List PK,PyData.depthAll (PK.pyL l)=PK.dpL l
 |[]=>rfl
 |k::ks=>by
  show max (PyData.depth (PK.py k)) (PyData.depthAll (PK.pyL ks))=max (PK.dp k) (PK.dpL ks);rw [PK.dep k,PK.A_ ks]
end
noncomputable instance:DecidableEq PK:=fun a b=>Classical.propDecidable (a=b)
mutual
theorem PK.eqv:∀a b:PK,PyData.eqv a.py b.py=decide (a=b)
 |.i n,.i m=>by
  show decide (n=m)=_
  by_cases h:n=m<;>simp [h]
 |.i n,.t l=>by rw [Gf (by intro e;cases e)];rfl
 |.t l,.i n=>by rw [Gf (by intro e;cases e)];rfl
 |.t l,.t l'=>by
  show PyData.eqvAll (PK.pyL l) (PK.pyL l')=_;rw [PK.Bm l l']
  by_cases h:l=l'<;>simp [h]
theorem PK.Bm:∀a b:List PK,PyData.eqvAll (PK.pyL a) (PK.pyL b)=decide (a=b)
 |[],[]=>by rw [Ge rfl];rfl
 |[],_::_=>by rw [Gf (by intro e;cases e)];rfl
 |_::_,[]=>by rw [Gf (by intro e;cases e)];rfl
 |k::ks,k'::ks'=>by
  show (PyData.eqv (PK.py k) (PK.py k')&&PyData.eqvAll (PK.pyL ks) (PK.pyL ks'))=_;rw [PK.eqv k k',PK.Bm ks ks']
  by_cases h:k=k'<;>by_cases h2:ks=ks'<;>simp [h,h2]
end
section
variable {prog:Program} {w:World} {E:Value->Shared->Prop}
theorem Eo (hu:A.units+min x.dp y.dp<cLine) (hx:bL s.heap x u) (hy:bL s.heap y v) (h:Q (decide (x=y)) s):wpAny (model prog w) A (eqBool u v) Q E s:=by
 obtain ⟨as,ra⟩:=hx.reads;obtain ⟨bs,rb⟩:=hy.reads;refine SeqAt.eqAt_reads _ _ A s u v as bs ra rb x.lay y.lay (by rw [PK.dep,PK.dep];exact hu) prog w E Q ?_;rw [PK.eqv];exact h
end
set_option autoImplicit true
set_option relaxedAutoImplicit true
theorem vo:PK.dpL (k::ks)=max k.dp (PK.dpL ks):=rfl
theorem ki:∀(a b:List PK),PK.hsL (a++b)=PK.hsL a++PK.hsL b
 |[],_=>rfl
 |k::ks,b=>by show PK.hs k::PK.hsL (ks++b)=_;rw [ki ks b];rfl
theorem kg:∀(a b:List PK),PK.drL (a++b)=PK.drL a+PK.drL b
 |[],_=>by show _=0+_;rw [Nat.zero_add];rfl
 |k::ks,b=>by show PK.dr k+PK.drL (ks++b)=(PK.dr k+PK.drL ks)+_;rw [kg ks b];omega
section
variable {prog:Program} {w:World}
theorem zN:∀(n:Nat) (k:PK),k.dp<=n->∀{A:Around} {E:Value->Shared->Prop} {s:Shared} {v:Value} {Q:Int->Shared->Prop},A.units+n<cLine->bL s.heap k v->Q k.hs {s with toks:=s.toks+k.dr}->
  wpAny (model prog w) A (pyHash v) Q E s:=by
 intro n
 induction n with
 |zero=>
  intro k hk A E s v Q hu hi h;cases k with
  |i m=>obtain ⟨tk,e⟩:=hi;subst e;exact wpAny_pyHash_int h
  |t l=>exact absurd (show PK.dpL l+1<=0 from hk) (by omega)
 |succ n ih=>
  intro k hk A E s v Q hu hi h;cases k with
  |i m=>obtain ⟨tk,e⟩:=hi;subst e;exact wpAny_pyHash_int h
  |t l=>
   obtain ⟨a,o,its,m,e,g,c,d,r⟩:=hi;subst e;have hl:PK.dpL l<=n:=by have:PK.dpL l+1<=n+1:=hk;omega
   have T:s.TypeIs (.ref a) "tuple":=⟨o,g,c⟩
   have no:¬((some (Value.builtin "tuple.__hash__")==some Value.none)=true):=by rw [beq_builtin_none];exact Gh
   unfold pyHash
   first|unfold pyHashByItsType|skip
   first|refine At (wpAny_cRoomFor_or (.inr (by omega)) ?_)|skip
   refine At (wpAny_specialOf T F.slot_tuple_hash.lookup ?_);show wpAny _ _ (if (some (Value.builtin "tuple.__hash__")==some Value.none)=true then _ else _) Q E s;rw [if_neg no];refine At (wpAny_specialOf T F.slot_tuple_hash.lookup ?_);show wpAny _ _ (callSpecialIfBoundUnlessNone? (.ref a) "__hash__" _>>=_) Q E s;refine At (wpAny_callSpecialIfBoundUnlessNone?_slot T F.slot_tuple_hash (wpAny_call_entry F.slot_tuple_hash T F.entry_tuple_hash ?_ (F.args_tuple_hash_1 _)));show wpAny _ _ (Builtin.Tuple.tupleItemsOf (.ref a)>>=_) _ _ s;refine At (wpAny_tupleItemsOf g d ?_);refine At ?_;rw [←Array.forIn_toList];refine wpAny_forIn_list _ (fun rest (b:Array Int) s'=>∃dn lf,l=dn++lf∧bt s.heap lf rest∧b.toList=PK.hsL dn∧s'={s with toks:=s.toks+PK.drL dn}) _ ?_ ?_ _ _ ⟨[],l,rfl,r,rfl,rfl⟩
   ·rintro x rest b s' ⟨dn,lf,e1,hl',hb,e2⟩;subst e1 e2;cases lf with
    |nil=>exact nomatch (show x::rest=[] from hl')
    |cons k' ks'=>
     obtain ⟨v',us,e3,ha,ht⟩:=hl';cases e3;have hk':k'.dp<=n:=by
      have:∀(dn:List PK),k'.dp<=PK.dpL (dn++k'::ks'):=by
       intro dn
       induction dn with
       |nil=>show k'.dp<=max _ _;omega
       |cons z zs ihz=>show k'.dp<=max _ (PK.dpL (zs++k'::ks'));omega
      exact Gb (this dn) hl
     refine At (ih k' hk' (show A.in1.units+n<cLine by show A.units+1+n<cLine;omega) (s:={s with toks:=s.toks+PK.drL dn}) ha ?_);have fin:∃dn' lf',dn++k'::ks'=dn'++lf'∧bt s.heap lf' rest∧(b.push (PK.hs k')).toList=PK.hsL dn'∧({s with toks:=s.toks+PK.drL dn+PK.dr k'}:Shared)={s with toks:=s.toks+PK.drL dn'}:=
      ⟨dn++[k'],ks',by simp,ht,by rw [Array.toList_push,hb,ki];rfl,by rw [kg];show _={s with toks:=s.toks+(PK.drL dn+(PK.dr k'+0))};rw [Nat.add_zero,Nat.add_assoc]⟩
     first
      |exact AC fin
      |exact At (AC (AC fin))
   ·rintro b s' ⟨dn,lf,e1,hl',hb,e2⟩;subst e1 e2;cases lf with
    |cons _ _=>obtain ⟨_,_,e3,_⟩:=hl';cases e3
    |nil=>
     rw [List.append_nil] at h;show wpAny _ _ (retInt (Builtin.Tuple.tupleHashOf b.toList)) _ _ _;rw [hb];refine wpAny_ret_mkInt ?_;change Q (reduceHash (Builtin.Tuple.tupleHashOf (PK.hsL dn))) {s with toks:=s.toks+(PK.drL dn+1)} at h;generalize Builtin.Tuple.tupleHashOf (PK.hsL dn)=z at h ⊢;show wpAny _ _ (if (decide (-(2:Int)^63<=z)&&decide (z<2^63))=true then _ else _) Q E _;unfold reduceHash at h
     by_cases hz:(decide (-(2:Int)^63<=z)&&decide (z<2^63))=true
     ·rw [if_pos hz] at h ⊢;exact AC (by simpa [Nat.add_assoc] using h)
     ·rw [if_neg hz] at h ⊢;exact At (wpAny_rule (AC (by simpa [Nat.add_assoc] using h)))
theorem wj:∀(n:Nat) (k:PK),k.dp<=n->∀{A:Around} {E:Value->Shared->Prop} {s:Shared} {v:Value} {Q:Bool->Shared->Prop},bL s.heap k v->Q true s->wpAny (model prog w) A (eqIsQuiet n v) Q E s:=by
 intro n
 induction n with
 |zero=>
  intro k hk A E s v Q hi h;cases k with
  |i m=>obtain ⟨tk,e⟩:=hi;subst e;rw [eqIsQuiet_byValue _ (by rfl)];exact AC h
  |t l=>exact absurd (show PK.dpL l+1<=0 from hk) (by omega)
 |succ n ih=>
  intro k hk A E s v Q hi h;cases k with
  |i m=>obtain ⟨tk,e⟩:=hi;subst e;rw [eqIsQuiet_byValue _ (by rfl)];exact AC h
  |t l=>
   obtain ⟨a,o,its,m,e,g,c,d,r⟩:=hi;subst e;have hl:PK.dpL l<=n:=by have:PK.dpL l+1<=n+1:=hk;omega
   have T:s.TypeIs (.ref a) "tuple":=⟨o,g,c⟩
   unfold eqIsQuiet;refine At (wpAny_specialOf T F.slot_tuple_eq.lookup ?_);show wpAny _ _ (isInstance (.ref a) (.type "tuple")>>=_) _ _ s;refine At (wpAny_isInstance T isSubtype_tuple_tuple ?_);simp only [Bool.not_true,Bool.false_eq_true,if_false];refine At (wpAny_seqItems g d ?_);refine At ?_;show wpAny _ _ (forIn its _ _) _ _ s;rw [←Array.forIn_toList];refine wpAny_forIn_list _ (fun rest q s'=>q.1=none∧s'=s∧∃lf,PK.dpL lf<=n∧bt s.heap lf rest) _ ?_ ?_ _ _ ⟨rfl,rfl,l,hl,r⟩
   ·rintro x rest q s' ⟨hq,e1,lf,hlf,hr⟩;subst e1;cases lf with
    |nil=>exact nomatch (show x::rest=[] from hr)
    |cons k' ks'=>
     obtain ⟨v',us,e3,ha,ht⟩:=hr;cases e3;rw [vo] at hlf;refine At (ih k' (by omega) ha ?_);simp only [Bool.not_true,Bool.false_eq_true,if_false];exact AC ⟨rfl,rfl,ks',by omega,ht⟩
   ·rintro ⟨q1,q2⟩ s' ⟨hq,e1,_⟩;subst e1;cases (show q1=none from hq);exact AC h
noncomputable def bD (prog:Program) (w:World):HeapKind prog w PK where
 is:=fun h k a=>bL h k (.ref a)∧k.dp<=8
 hash:=PK.hs
 draws:=PK.dr
 room:=fun A=>A.units+8<cLine
 inj:=fun hx hy=>hx.1.inj hy.1
 keeps:=fun x ho hd hs=>⟨x.1.keep fun b o its n hb hb2=>(hs.2 b (by
  rintro rfl;rw [ho] at hb;cases hb;rw [hd] at hb2;cases hb2)).trans hb,x.2⟩
 pyHash:=fun hu hk h=>zN 8 _ hk.2 hu hk.1 h
 eqBool:=fun {A E s x y a b Q} hu hx hy h=>Eo (by have:=hx.2;have:=hy.2;omega) hx.1 hy.1 h
 quiet:=fun hk h=>wj 8 _ hk.2 hk.1 h
end
set_option autoImplicit true
set_option relaxedAutoImplicit true
section
variable {prog:Program} {w:World} {E:Value->Shared->Prop} {K:Type} [DecidableEq K] {knd:HeapKind prog w K} {A:Around} {s:Shared}
theorem pj {es:Array DictEntry} (hn:(es.toList.map (·.hash)).Nodup) (e:DictEntry):¬(es.filter (·.hash==e.hash)).size>1:=by
 have key:∀l:List DictEntry,(l.map (·.hash)).Nodup->(l.filter (·.hash==e.hash)).length<=1:=by
  intro l
  induction l with
  |nil=>intro _;exact Nat.zero_le _
  |cons x l ih=>
   intro h;rw [List.map_cons,List.nodup_cons] at h;rw [List.filter_cons];split
   ·rename_i hx;have:l.filter (·.hash==e.hash)=[]:=by
     rw [List.filter_eq_nil_iff];intro y hy hh;exact h.1 (FB.mpr ⟨y,hy,by rw [eq_of_beq hh,eq_of_beq hx]⟩)
    rw [this];exact Gd _
   ·exact ih h.2
 have:=key es.toList hn;have e2:(es.filter (·.hash==e.hash)).size=(es.toList.filter (·.hash==e.hash)).length:=by rw [←Array.length_toList,Array.toList_filter]
 omega
theorem qH {id:String} {d:Addr} {o:Obj} {es:Array DictEntry} {ep:Nat} {Q:Array DictEntry->Shared->Prop} (ho:s.heap.get? d=some o) (hd:o.data=.dict es ep) (hn:(es.toList.map (·.hash)).Nodup)
  (hq:∀e∈es,wpAny (model prog w) A (Builtin.Dict.quietEq e.key) (fun b s'=>s'=s) E s) (h:Q es s):wpAny (model prog w) A (Builtin.Dict.entriesForEmpty id d) Q E s:=by
 unfold Builtin.Dict.entriesForEmpty;refine At (wpAny_dictEntries ho hd ?_);refine At ?_;rw [←Array.forIn_toList];refine wpAny_forIn_list _ (fun rest _ s'=>s'=s∧∀e∈rest,e∈es) _ ?_ ?_ _ _ ⟨rfl,fun e he=>Array.mem_toList_iff.mp he⟩
 ·rintro x rest b s' ⟨rfl,hr⟩;refine At (AT (hq x (hr x Fa)) (fun b s'' e=>?_) fun _ _ z=>z);subst e;have e1:(es.filter (·.hash==x.hash)).size>1↔False:=⟨pj hn x,False.elim⟩
  cases b
  ·simp only [Bool.not_false,if_true,e1,if_false];exact AC ⟨rfl,fun e he=>hr e (EQ _ he)⟩
  ·simp only [Bool.not_true,Bool.false_eq_true,if_false];exact AC ⟨rfl,fun e he=>hr e (EQ _ he)⟩
 ·rintro b s' ⟨rfl,_⟩;exact AC h
noncomputable def aA (knd:HeapKind prog w K) (h:Heap) (d:Addr) (xs:List (K×Addr×Value)) (ep:Nat):Prop:=
 ∃o es,h.get? d=some o∧o.ExactDict∧o.data=.dict es ep∧es.toList=xs.map (entryOfKey knd)∧(xs.map (·.1)).Nodup
theorem aA.typeIs (x:aA knd s.heap d xs ep):s.TypeIs (.ref d) "dict":=let ⟨o,_,g,c,_⟩:=x;⟨o,g,c.1⟩
theorem aA.ofH (x:aA knd h d xs ep) (hk:∀y∈xs,knd.is h y.1 y.2.1):h.DictOfH knd d xs:=let ⟨o,es,g,c,e,l,n⟩:=x;⟨o,es,ep,g,c,e,l,hk,n⟩
theorem qi (x:h.DictOfH knd d xs):∃ep,aA knd h d xs ep:=let ⟨o,es,ep,g,c,e,l,_,n⟩:=x;⟨ep,o,es,g,c,e,l,n⟩
theorem aA.keep (x:aA knd h d xs ep) (k:∀o,h.get? d=some o->h'.get? d=some o):aA knd h' d xs ep:=let ⟨o,es,g,r⟩:=x;⟨o,es,k o g,r⟩
theorem aA.new (h:Heap):aA knd (h.push {cls:=.type "dict",data:=.dict #[]}) h.objs.size [] 0:=⟨_,#[],Ch _ rfl,⟨rfl,rfl,rfl⟩,rfl,rfl,List.nodup_nil⟩
theorem ug (hT:s.TypeIs (.ref a) "tuple"):wpAny M A (Builtin.Dict.quietEq (.ref a)) (fun b s'=>s'=s) E s:=by
 unfold Builtin.Dict.quietEq;exact At (wpAny_specialOf hT F.slot_tuple_eq.lookup (AC rfl))
theorem tI (hdo:d≠o) (hoS:(o==sysModules)=false) (hd:aA knd s.heap d [] 0) (ho:aA knd s.heap o xs ep)
  (hk:∀x∈xs,s.TypeIs (.ref x.2.1) "tuple") (hh:(xs.map fun x=>knd.hash x.1).Nodup) (hsz:xs.length<=sizeLine)
  (hQ:∀h' ep',aA knd h' d xs ep'->Heap.SameBut d s.heap h'->Q () {s with heap:=h'}):wpAny (model prog w) A (Builtin.Dict.mergeDict nm d o) Q E s:=by
 obtain ⟨od,ed,gd,cd,dd,ld,nd⟩:=id hd;obtain ⟨oo,eo,go,co,do',lo,no⟩:=id ho;have hed:ed=#[]:=by
  cases ed with
  |mk l=>cases (show l=[] from ld);rfl
 unfold Builtin.Dict.mergeDict;rw [if_neg (by simpa using hdo)];unfold Builtin.Dict.showsAll;rw [if_neg (by rw [hoS];exact Gh)];refine At (AC (At (wpAny_dictEntries go do' ?_)));cases xs with
 |nil=>
  have heo:eo=#[]:=by
   cases eo with
   |mk l=>cases (show l=[] from lo);rfl
  subst heo;rw [if_neg (by simp)];refine At (wpAny_dictEpoch go do' (At (wpAny_dictEntries go do' (At ?_))));rw [Std.Legacy.Range.forIn_eq_forIn_range'];exact AC (AC (hQ s.heap 0 hd (Heap.SameBut.refl _ _)))
 |cons x xs=>
  have hfew:¬((!(decide (eo.size<=8)&&eo.all fun e=>(keyPart e.key).isSome))=false):=by
   have h1:(eo.all fun e=>(keyPart e.key).isSome)=false:=by
    rw [←Array.all_toList,lo,List.map_cons,List.all_cons];rfl
   rw [h1,Bool.and_false];decide
  have hfew':(!(decide (eo.size<=8)&&eo.all fun e=>(keyPart e.key).isSome))=true:=by
   cases h:(!(decide (eo.size<=8)&&eo.all fun e=>(keyPart e.key).isSome)) with
   |true=>rfl
   |false=>exact absurd h hfew
  rw [if_pos hfew'];refine At (wpAny_dictEntries gd dd ?_);subst hed;rw [if_pos (by rfl)];have hn:(eo.toList.map (·.hash)).Nodup:=by rw [lo,List.map_map];exact hh
  refine At (qH go do' hn (fun e he=>?_) ?_)
  ·have:e∈(x::xs).map (entryOfKey knd):=lo▸Array.mem_toList_iff.mpr he;obtain ⟨y,hy,rfl⟩:=FB.mp this;exact ug (hk y hy)
  have hne:(!eo.isEmpty)=true:=by
   cases eo with
   |mk l=>cases (show l=_ from lo);rfl
  rw [if_pos hne];have hz:eo.size=(x::xs).length:=size_of_entries lo;refine At (wpAny_updateDictKeysTo gd dd (AC (hQ _ _ ⟨_,_,Heap.get?_update_self _ gd (Obj.isFreed_of_dict (Obj.data_mapDictKeys dd _)),cd.mapDictKeys _,Obj.data_mapDictKeys dd _,lo,no⟩ (Heap.SameBut.update ..))) (by rw [hz];omega))
theorem sG (hoS:(o==sysModules)=false) (ho:aA knd s.heap o xs ep) (hk:∀x∈xs,s.TypeIs (.ref x.2.1) "tuple") (hh:(xs.map fun x=>knd.hash x.1).Nodup)
  (hsz:xs.length<=sizeLine) (h:∀h' ep',aA knd h' s.heap.objs.size xs ep'->Heap.SameBut s.heap.objs.size (s.heap.push {cls:=.type "dict",data:=.dict #[]}) h'->Q (.ref s.heap.objs.size) {s with heap:=h'}):
  wpAny (model prog w) A (call (.type "dict") [.ref o]) Q E s:=by
 refine callType_codes (Q₁:=fun ob s₁=>ob=.ref s.heap.objs.size∧s₁={s with heap:=s.heap.push {cls:=.type "dict",data:=.dict #[]}}) F.kt_called_dict (F.kt_typeCall_dict_1 _) F.entry_dict_init (kt_code_dict_new _ ⟨rfl,rfl⟩) ?_;rintro ob s₁ ⟨rfl,rfl⟩;have nw:aA knd (s.heap.push {cls:=.type "dict",data:=.dict #[]}) s.heap.objs.size [] 0:=aA.new s.heap;have ho':aA knd (s.heap.push {cls:=.type "dict",data:=.dict #[]}) o xs ep:=ho.keep fun ob g=>BT _ g;have hdo:s.heap.objs.size≠o:=by
  obtain ⟨_,_,hg,_⟩:=ho;exact fun e=>absurd (Cl hg) (by rw [e];exact Nat.lt_irrefl _)
 have hT:({s with heap:=s.heap.push {cls:=.type "dict",data:=.dict #[]}}:Shared).TypeIs (.ref s.heap.objs.size) "dict":=nw.typeIs;have hTo:({s with heap:=s.heap.push {cls:=.type "dict",data:=.dict #[]}}:Shared).TypeIs (.ref o) "dict":=ho'.typeIs;refine ⟨hT,F.args_dict_init_2 _ _,?_⟩;unfold Builtin.«dict.__init__»;refine At ?_;unfold Builtin.Dict.selfAndRest;refine At (wpAny_notOrdered_dict hT ?_);show wpAny _ _ (pure (s.heap.objs.size,[Value.ref o])) _ _ _;refine AC ?_;show wpAny _ _ (Builtin.Dict.updateFrom "dict.__init__" s.heap.objs.size (.ref o) [] .none) _ _ _;unfold Builtin.Dict.updateFrom;refine At (wpAny_typeOf hTo ?_);rw [if_neg (by decide)];refine At ?_;unfold Builtin.Dict.merge;refine At ?_;unfold Builtin.Dict.readDirectly;refine At (wpAny_isInstance hTo isSubtype_dict_dict ?_);simp only [Bool.not_true,Bool.false_eq_true,if_false];refine At (wpAny_specialOf hTo F.slot_dict_iter.lookup (AC ?_));simp only [beq_self_eq_true,if_true];refine At (AC ?_);refine tI hdo hoS nw ho' (fun x hx=>?_) hh hsz fun h' ep' hd' hs'=>?_
 ·obtain ⟨ob,g,c⟩:=hk x hx;exact ⟨ob,BT _ g,c⟩
 ·show wpAny _ _ (Builtin.Dict.addKeywords s.heap.objs.size []>>=_) _ _ _;exact At (AC (AC ⟨rfl,h h' ep' hd' hs'⟩))
end
set_option autoImplicit true
set_option relaxedAutoImplicit true
section
variable {prog:Program} {w:World} {E:Value->Shared->Prop} {K:Type} [DecidableEq K] {knd:HeapKind prog w K} {A:Around} {s:Shared}
theorem qS (hd:(d==sysModules)=false) (hm:aA knd s.heap d xs ep)
  (hQ:Q (.ref s.heap.objs.size) {s with heap:=s.heap.push {cls:=.type "dict_keyiterator",data:=.fields #[.ref d,.int 0 0,.int xs.length 0,.int ep 0]}}):wpAny (model prog w) A (pyIter (.ref d)) Q E s:=by
 have T:=hm.typeIs;obtain ⟨o,es,g,c,hda,l,n⟩:=hm;have hz:es.size=xs.length:=size_of_entries l;refine wpAny_pyIter_slot T F.slot_dict_iter (wpAny_call_entry F.slot_dict_iter T F.entry_dict_iter ?_ (F.args_dict_iter_1 _));unfold Builtin.«dict.__iter__»;refine At ?_;unfold Builtin.Dict.dictSlotNone;refine At (wpAny_notOrdered_dict T ?_);show wpAny _ _ (pure (Value.ref d)) _ _ s;refine AC ?_;show wpAny _ _ (Builtin.Dict.showsAll d>>=_) _ _ s;unfold Builtin.Dict.showsAll;rw [if_neg (by rw [hd];exact Gh)];refine At (AC (At (wpAny_dictEntries g hda (At (wpAny_dictEpoch g hda ?_)))));refine At (wpAny_newObj_type (AC ⟨_,rfl,"dict_keyiterator",_,⟨_,Ch _ rfl,rfl⟩,F.slot_dict_keyiterator_next.lookup,?_⟩));simpa [rawInt,hz] using hQ
theorem rq (hit:s.heap.IsKeyIter it d i xs.length ep) (hm:aA knd s.heap d xs ep) (hx:xs[i]?=some x)
  (hQ:∀h',h'.IsKeyIter it d (i+1) xs.length ep->Heap.SameBut it s.heap h'->Q (some (.ref x.2.1)) {s with heap:=h'}):wpAny (model prog w) A (pyNext (.ref it)) Q E s:=by
 have T:=hit.typeIs;obtain ⟨o,ho,hc,hd⟩:=hit;obtain ⟨od,es,g,c,hda,l,n⟩:=hm;have hz:es.size=xs.length:=size_of_entries l;have hn:¬((Value.ref d==Value.none)=true):=Gh;have hown:Builtin.Dict_items.ownsTuple "dict_keyiterator"=false:=by decide
 have hlt:i<es.size:=by
  rw [hz];rcases Nat.lt_or_ge i xs.length with h|h
  ·exact h
  ·rw [List.getElem?_eq_none h] at hx;cases hx
 have hk:es[i].key=.ref x.2.1:=by
  have e:=entry_at (knd:=knd) l i;rw [hx,Array.getElem?_eq_getElem hlt] at e;have e':=Gi e;rw [e'];rfl
 unfold pyNext;refine At (wpAny_attempt (wpAny_callSpecial?_slot (name:=Str.ofString "__next__") T F.slot_dict_keyiterator_next (wpAny_call_entry F.slot_dict_keyiterator_next T F.entry_dict_keyiterator_next ?_ (F.args_dict_keyiterator_next_1 _))));refine At (AC (At (At ?_)))
 first|refine At (wpAny_typeNameOfWhole_keyiter T (AC ?_))|refine At (wpAny_typeNameOf_keyiter T (AC ?_))
 refine At (wpAny_fieldsOf ho hd ?_);simp only [hown,Bool.false_eq_true,if_false];show wpAny _ _ (if (Value.ref d==Value.none)=true then _ else _) _ _ s;rw [if_neg hn];refine At (AC (At (wpAny_dictEntries g hda ?_)));rw [if_neg (by rw [hz];simp)];refine At (AC (At (wpAny_dictEpoch g hda ?_)));rw [if_neg (by simp)];refine AC ?_;simp only [show ¬((i:Int)<0) from by omega,if_false,Int.toNat_natCast,Array.getElem?_eq_getElem hlt];refine At ?_
 first|refine At (wpAny_typeNameOfWhole_keyiter T (AC ?_))|refine At (wpAny_typeNameOf_keyiter T (AC ?_))
 refine At (wpAny_isOneOf_keyiter T ?_);show wpAny _ _ (setField (.ref it) 1 (rawInt ((i:Int)+1))>>=_) _ _ s;refine At (wpAny_setField ho hd (by simp) ?_);have hi2:(s.heap.update it (Obj.mapFields (·.setIfInBounds 1 (rawInt ((i:Int)+1))))).IsKeyIter it d (i+1) xs.length ep:=⟨_,Heap.get?_update_self _ ho (Obj.isFreed_of_fields (Obj.data_mapFields hd _)),(Obj.cls_mapFields ..).trans hc,by rw [Obj.data_mapFields hd];simp [rawInt]⟩
 refine At (Db (At (wpAny_isOneOf_keyiter (s:={s with heap:=s.heap.update it (Obj.mapFields (·.setIfInBounds 1 (rawInt ((i:Int)+1))))}) hi2.typeIs ?_)));show wpAny _ _ (pure es[i].key) _ _ _;rw [hk];exact AC (AC ⟨_,rfl,AC (hQ _ hi2 (Heap.SameBut.update ..))⟩)
theorem sQ (hh:A.handled=none) (hit:s.heap.IsKeyIter it d i xs.length ep) (hm:aA knd s.heap d xs ep) (hx:xs[i]?=none)
  (hQ:∀h',Heap.ExtBut it s.heap h'->Q none {s with heap:=h'}):wpAny (model prog w) A (pyNext (.ref it)) Q E s:=by
 have T:=hit.typeIs;obtain ⟨o,ho,hc,hd⟩:=hit;obtain ⟨od,es,g,c,hda,l,n⟩:=hm;have hz:es.size=xs.length:=size_of_entries l;have hn:¬((Value.ref d==Value.none)=true):=Gh;have hown:Builtin.Dict_items.ownsTuple "dict_keyiterator"=false:=by decide
 have hge:es.size<=i:=by rw [hz];exact List.getElem?_eq_none_iff.mp hx
 unfold pyNext;refine At (wpAny_attempt (wpAny_callSpecial?_slot (name:=Str.ofString "__next__") T F.slot_dict_keyiterator_next (wpAny_call_entry F.slot_dict_keyiterator_next T F.entry_dict_keyiterator_next ?_ (F.args_dict_keyiterator_next_1 _))));refine At (AC (At (At ?_)))
 first|refine At (wpAny_typeNameOfWhole_keyiter T (AC ?_))|refine At (wpAny_typeNameOf_keyiter T (AC ?_))
 refine At (wpAny_fieldsOf ho hd ?_);simp only [hown,Bool.false_eq_true,if_false];show wpAny _ _ (if (Value.ref d==Value.none)=true then _ else _) _ _ s;rw [if_neg hn];refine At (AC (At (wpAny_dictEntries g hda ?_)));rw [if_neg (by rw [hz];simp)];refine At (AC (At (wpAny_dictEpoch g hda ?_)));rw [if_neg (by simp)];refine AC ?_;simp only [show ¬((i:Int)<0) from by omega,if_false,Int.toNat_natCast,Array.getElem?_eq_none hge];refine At ?_
 first|refine At (wpAny_typeNameOfWhole_keyiter T (AC ?_))|refine At (wpAny_typeNameOf_keyiter T (AC ?_))
 show wpAny _ _ (setField (.ref it) 0 .none>>=_) _ _ s;refine At (wpAny_setField ho hd (by simp) ?_);show wpAny _ _ (newExc (.type "StopIteration") []>>=_) _ _ _;refine At ?_;simp only [newExc,newTuple];refine At (wpAny_newObj_type ?_ (by size_fits));refine At (m:=firstArgMember _ _) (wpAny_of_eq (a:=Value.none) (by first|rfl|(simp only [firstArgMember];rfl)) (wpAny_newObj_type ?_ (by size_fits)));simp only [raiseNew];refine At (wpAny_handled ?_);rw [show A.in1.handled=none from hh];refine At (AC (wpAny_throw ?_));refine At (wpAny_isInstance (b:=true) (T:="StopIteration") (by exact ⟨_,Ch _ rfl,rfl⟩) isSubtype_stop ?_);exact AC (hQ _ (((Heap.SameBut.update ..).extBut.push _).push _))
end
set_option autoImplicit true
set_option relaxedAutoImplicit true
noncomputable def Sit (h:Heap) (b:Bool) (i a:Addr) (k:Nat):Prop:=match b with|true=>h.IsTupleIter i a k|false=>h.IsListIter i a k
noncomputable def Ssq (h:Heap) (b:Bool) (a:Addr) (xs:Array Value):Prop:=match b with|true=>h.IsTuple a xs|false=>h.IsList a xs
theorem Sit.at (x:Sit h b i a k) (e:∀o,h.get? i=some o->h'.get? i=some o):Sit h' b i a k:=by
 cases b with
 |true=>obtain ⟨o,ho,r⟩:=x;exact ⟨o,e o ho,r⟩
 |false=>exact Heap.IsListIter.at x e
theorem Ssq.at (x:Ssq h b a xs) (e:∀o,h.get? a=some o->h'.get? a=some o):Ssq h' b a xs:=by
 cases b with
 |true=>obtain ⟨o,ho,r⟩:=x;exact ⟨o,e o ho,r⟩
 |false=>exact Heap.IsList.at x e
theorem Sit.rec (x:Sit h b i a k):∃o n vs,h.get? i=some o∧o.cls=.type n∧o.data=.fields vs:=by
 cases b with
 |true=>obtain ⟨o,ho,c,d⟩:=x;exact ⟨o,_,_,ho,c,d⟩
 |false=>obtain ⟨o,ho,c,d⟩:=x;exact ⟨o,_,_,ho,c,d⟩
section
variable {prog:Program} {w:World} {A:Around} {E:Value->Shared->Prop} {s:Shared}
theorem ji {items} (hit:s.heap.IsTupleIter it t i) (ht:s.heap.IsTuple t items) (hx:items[i]?=some x)
  (hQ:∀h',h'.IsTupleIter it t (i+1)->Heap.SameBut it s.heap h'->Q x {s with heap:=h'}):wpAny (model prog w) A (Builtin.SmallTypes.nextOf (.ref it)) Q E s:=by
 obtain ⟨o,ho,hc,hd⟩:=id hit;obtain ⟨ol,hol,_,nl,hdl⟩:=ht;unfold Builtin.SmallTypes.nextOf;refine At (wpAny_callSpecial?_slot (name:=Str.ofString "__next__") hit.typeIs F.slot_tuple_iterator_next
  (wpAny_call_entry F.slot_tuple_iterator_next hit.typeIs F.entry_tuple_iterator_next ?_ (F.args_tuple_iterator_next_1 _)))
 show wpAny _ _ (field (.ref it) 0>>=_) _ _ s;refine At (Da ho hd (x:=.ref t) rfl ?_);show wpAny _ _ (if (Value.ref t==Value.none)=true then _ else _) _ _ s;rw [if_neg (show ¬((Value.ref t==Value.none)=true) from Gh)];show wpAny _ _ (field (.ref it) 1>>=_) _ _ s;refine At (Da ho hd (x:=.int i 0) rfl ?_);show wpAny _ _ (seqItems? (.ref t)>>=_) _ _ s;refine At (wpAny_seqItems hol hdl ?_);simp only [Int.toNat_natCast,hx];refine At (wpAny_setField ho hd (by simp) (AC ⟨x,rfl,AC (hQ _ ?_ (Heap.SameBut.update ..))⟩));exact ⟨_,Heap.get?_update_self _ ho (Obj.isFreed_of_fields (Obj.data_mapFields hd _)),(Obj.cls_mapFields ..).trans hc,by
  rw [Obj.data_mapFields hd];simp [rawInt]⟩
theorem jS {items} (hh:A.handled=none) (hit:s.heap.IsTupleIter it t i) (ht:s.heap.IsTuple t items) (hx:items[i]?=none)
  (hE:∀h' e,Heap.ExtBut it s.heap h'->(∃o,h'.get? e=some o∧o.cls=.type "StopIteration")->E (.ref e) {s with heap:=h'}):
  wpAny (model prog w) A (Builtin.SmallTypes.nextOf (.ref it)) Q E s:=by
 obtain ⟨o,ho,hc,hd⟩:=id hit;obtain ⟨ol,hol,_,nl,hdl⟩:=ht;unfold Builtin.SmallTypes.nextOf;refine At (wpAny_callSpecial?_slot (name:=Str.ofString "__next__") hit.typeIs F.slot_tuple_iterator_next
  (wpAny_call_entry F.slot_tuple_iterator_next hit.typeIs F.entry_tuple_iterator_next ?_ (F.args_tuple_iterator_next_1 _)))
 show wpAny _ _ (field (.ref it) 0>>=_) _ _ s;refine At (Da ho hd (x:=.ref t) rfl ?_);show wpAny _ _ (if (Value.ref t==Value.none)=true then _ else _) _ _ s;rw [if_neg (show ¬((Value.ref t==Value.none)=true) from Gh)];show wpAny _ _ (field (.ref it) 1>>=_) _ _ s;refine At (Da ho hd (x:=.int i 0) rfl ?_);show wpAny _ _ (seqItems? (.ref t)>>=_) _ _ s;refine At (wpAny_seqItems hol hdl ?_);simp only [Int.toNat_natCast,hx];refine At (wpAny_rule (At (wpAny_setField ho hd (by simp) ?_)));show wpAny _ _ (newExc (.type "StopIteration") []>>=_) _ _ _;refine At ?_;simp only [newExc,newTuple];refine At (wpAny_newObj_type ?_ (by size_fits));refine At (m:=firstArgMember _ _) (wpAny_of_eq (a:=Value.none) (by first|rfl|(simp only [firstArgMember];rfl)) ?_);refine wpAny_newObj_type ?_ (by size_fits);simp only [raiseNew];refine At (wpAny_handled ?_)
 first|rw [show A.in1.handled=none from hh]|rw [hh]
 refine At (AC (wpAny_throw ?_));exact hE _ _ (((Heap.SameBut.update ..).extBut.push _).push _) ⟨_,Ch _ rfl,rfl⟩
theorem kF (hit:Sit s.heap b it a i) (hl:Ssq s.heap b a items) (hx:items[i]?=some x)
  (hQ:∀h',Sit h' b it a (i+1)->Heap.SameBut it s.heap h'->Q x {s with heap:=h'}):wpAny (model prog w) A (Builtin.SmallTypes.nextOf (.ref it)) Q E s:=by
 cases b with
 |true=>exact ji hit hl hx hQ
 |false=>exact wpAny_nextOf_list_item hit hl hx hQ
theorem iN (hh:A.handled=none) (hit:Sit s.heap b it a i) (hl:Ssq s.heap b a items) (hx:items[i]?=none)
  (hE:∀h' e,Heap.ExtBut it s.heap h'->(∃o,h'.get? e=some o∧o.cls=.type "StopIteration")->E (.ref e) {s with heap:=h'}):wpAny (model prog w) A (Builtin.SmallTypes.nextOf (.ref it)) Q E s:=by
 cases b with
 |true=>exact jS hh hit hl hx hE
 |false=>exact wpAny_nextOf_list_end hh hit hl hx hE
noncomputable abbrev aS (h:Heap) (T:Addr) (vs:Array Value):Prop:=h.get? T=some {cls:=.type "tuple",data:=.seq vs}
theorem uo:8<=sizeLine:=by rw [sizeLine_eq];decide
theorem mQ (hT:aS s.heap T vs) (hv:vs.size<=8)
  (h:∀h',aS h' T (vs.setIfInBounds k x)->Heap.SameBut T s.heap h'->Q () {s with heap:=h'}):wpAny (model prog w) A (updateSeq T (·.setIfInBounds k x)) Q E s:=by
 have h8:=uo;refine wpAny_updateSeq hT rfl (h _ ?_ (Heap.SameBut.update ..)) (hz:=by omega) (_hz':=by simp;omega);show Heap.get? _ _=_;rw [Heap.get?_update_self _ hT rfl];simp [Obj.mapSeq]
structure Zc where
 b:Bool
 i:Addr
 a:Addr
noncomputable abbrev zI (cs:List Zc):List Addr:=cs.map (·.i)
theorem take_set {ts:Array Value} {n:Nat} {x:Value} (h:n<ts.size):(ts.setIfInBounds n x).toList.take (n+1)=ts.toList.take n++[x]:=by
 have h':n<ts.toList.length:=by rw [Array.length_toList];exact h
 rw [Array.toList_setIfInBounds,List.take_add_one,F3 h',List.take_set_of_le (Gd n)];rfl
theorem Dn {z TI TO:Addr} {cs:List Zc} {F:Zc->Array Value} {k:Nat} {ts:Array Value} {Q:Value->Shared->Prop} (hh:A.handled=none) (nd:(z::TI::TO::zI cs).Nodup) (na:∀c∈cs,c.a∉z::TO::zI cs) (hne:cs≠[]) (h8:cs.length<=8)
  (hz:IsZip s.heap z TI TO .none) (hTI:aS s.heap TI (cs.map fun c=>Value.ref c.i).toArray) (hTO:aS s.heap TO ts) (hts:ts.size=cs.length) (hit:∀c∈cs,Sit s.heap c.b c.i c.a k∧Ssq s.heap c.b c.a (F c))
  (hQ:∀(vs:List Value) h',cs.map (fun c=>(F c)[k]?)=vs.map some->IsZip h' z TI TO (rawInt s.heap.objs.size)->aS h' TO vs.toArray->(∀c∈cs,Sit h' c.b c.i c.a (k+1))->aS h' s.heap.objs.size vs.toArray->h'.objs.size=s.heap.objs.size+1->
   (∀c o,c∉z::TO::zI cs->s.heap.get? c=some o->h'.get? c=some o)->Q (.ref s.heap.objs.size) {s with heap:=h'})
  (hE:∀h' e,(∃c∈cs,(F c)[k]?=none)->(∀c o,c∉z::TO::zI cs->s.heap.get? c=some o->h'.get? c=some o)->(∃o,h'.get? e=some o∧o.cls=.type "StopIteration")->E (.ref e) {s with heap:=h'}):
  wpAny (model prog w) A (Builtin.«zip.__next__» ⟨[.ref z],[]⟩) (fun fin s'=>∃v,fin=.done (.ret v)∧Q v s') E s:=by
 obtain ⟨nz,_,nT,ni⟩:z∉TI::TO::zI cs∧TI∉TO::zI cs∧TO∉zI cs∧(zI cs).Nodup:=by simpa only [List.nodup_cons] using nd
 have zTO:z≠TO:=fun e=>nz (by simp [e]);have zi:∀c∈cs,c.i≠z:=fun c hc e=>nz (EQ _ (EQ _ (e▸List.mem_map_of_mem hc)));have Ti:∀c∈cs,c.i≠TO:=fun c hc e=>nT (e▸List.mem_map_of_mem hc);have az:∀c∈cs,c.a≠z:=fun c hc e=>na c hc (by simp [e]);have aT:∀c∈cs,c.a≠TO:=fun c hc e=>na c hc (by simp [e]);have ai:∀c∈cs,∀d∈cs,c.a≠d.i:=fun c hc d hd e=>na c hc (EQ _ (EQ _ (e▸List.mem_map_of_mem hd)));show wpAny _ _ (field (.ref z) 2>>=_) _ _ _;refine At (Da hz rfl (x:=.bool false) rfl ?_);show wpAny _ _ (field (.ref z) 3>>=_) _ _ _;refine At (Da hz rfl (x:=.ref TI) rfl ?_);refine At (wpAny_seqItems hTI rfl ?_);have he:(cs.map fun c=>Value.ref c.i).toArray.isEmpty=false:=by cases cs with|nil=>exact absurd rfl hne|cons=>rfl
 simp only [he,Bool.false_eq_true,if_false];show wpAny _ _ (Builtin.SmallTypes.ownedTupleIsFree (.ref z)>>=_) _ _ _;refine At ?_;unfold Builtin.SmallTypes.ownedTupleIsFree;refine At (Da hz rfl (x:=.none) rfl (AC ?_));simp only [if_true];refine At (wpAny_rule ?_);refine At (Da hz rfl (x:=.ref TO) rfl ?_);refine At (wpAny_setField_rec hz (by simp) fun h1 hz1 hs1=>?_);replace hz1:IsZip h1 z TI TO .ellipsis:=hz1;refine At ?_;refine wpAny_forIn_list _ (fun rest q s'=>q=(none,())∧∃(d e:List Zc) (vs:List Value) (h':Heap) (ts':Array Value),cs=d++e∧rest=(e.map fun c=>Value.ref c.i).zipIdx d.length∧s'={s with heap:=h'}∧d.map (fun c=>(F c)[k]?)=vs.map some∧IsZip h' z TI TO .ellipsis∧aS h' TO ts'∧ts'.size=cs.length∧ts'.toList.take d.length=vs
   ∧(∀c∈d,Sit h' c.b c.i c.a (k+1))∧(∀c∈e,Sit h' c.b c.i c.a k)∧(∀c∈cs,Ssq h' c.b c.a (F c))∧h'.objs.size=s.heap.objs.size∧∀c o,c∉z::TO::zI cs->s.heap.get? c=some o->h'.get? c=some o) _ ?_ ?_ _ _
  ⟨rfl,[],cs,[],h1,ts,rfl,rfl,rfl,rfl,hz1,hs1.extBut _ _ (Ne.symm zTO) hTO,hts,rfl,(fun c hc=>nomatch hc),(fun c hc=>(hit c hc).1.at fun o e=>hs1.extBut _ _ (zi c hc) e),(fun c hc=>(hit c hc).2.at fun o e=>hs1.extBut _ _ (az c hc) e),hs1.1,fun c o hc e=>hs1.extBut _ _ (fun q=>hc (by simp [q])) e⟩
 ·rintro x rest q s' ⟨rfl,d,e,vs,h2,ts',ec,er,rfl,ev,hz2,hT2,hs2,ht2,hd2,he2,hq2,hn2,hk2⟩;cases e with
  |nil=>cases er
  |cons c e=>
   rw [List.map_cons,List.zipIdx_cons] at er;cases er;have hc:c∈cs:=by rw [ec];simp
   have hde:∀c',c'∈d∨c'∈e->c'∈cs∧c'.i≠c.i:=fun c' h=>by
    rw [ec,zI,List.map_append,List.map_cons] at ni;obtain ⟨_,n2,n3⟩:=List.nodup_append.mp ni;rcases h with h|h
    ·exact ⟨by rw [ec];simp [h],fun z=>n3 _ (List.mem_map_of_mem h) _ Fa z⟩
    ·exact ⟨by rw [ec];simp [h],fun z=>(List.nodup_cons.mp n2).1 (z▸List.mem_map_of_mem h)⟩
   refine At (wpAny_onRaise ?_);show wpAny _ _ (Builtin.SmallTypes.nextOf (.ref c.i)>>=_) _ _ _;have hi:=he2 c Fa;have kc:∀{p:Addr},p∉z::TO::zI cs->p≠z∧p≠TO∧p≠c.i:=fun hp=>⟨fun q=>hp (by simp [q]),fun q=>hp (by simp [q]),fun q=>hp (EQ _ (EQ _ (q▸List.mem_map_of_mem hc)))⟩
   cases hx:(F c)[k]? with
   |none=>
    refine At (iN hh hi (hq2 c hc) hx fun h3 e3 hs3 ho=>?_);obtain ⟨oe,hoe,hce⟩:=ho;have hz3:IsZip h3 z TI TO .ellipsis:=hs3 _ _ (Ne.symm (zi c hc)) hz2;have hez:e3≠z:=fun x=>by subst x;rw [hz3] at hoe;cases hoe;simp at hce
    exact wpAny_setField_rec hz3 (by simp) fun h4 _ hs4=>hE h4 e3 ⟨c,hc,hx⟩ (fun p o hp q=>hs4.extBut _ _ (kc hp).1 (hs3 _ _ (kc hp).2.2 (hk2 p o hp q))) ⟨oe,hs4.extBut _ _ hez hoe,hce⟩
   |some x=>
    refine At (kF hi (hq2 c hc) hx fun h3 hi3 hs3=>AC ?_);have hT3:aS h3 TO ts':=hs3.extBut _ _ (Ne.symm (Ti c hc)) hT2;refine At (wpAny_seqItems hT3 rfl ?_);refine At (mQ hT3 (by omega) fun h4 hT4 hs4=>?_);refine At (wpAny_letGo (AC ?_));have st:∀c'∈cs,c'.i≠c.i->∀o,h2.get? c'.i=some o->h4.get? c'.i=some o:=fun c' h n o q=>hs4.extBut _ _ (Ti c' h) (hs3.extBut _ _ n q);have hl:d.length<cs.length:=by rw [ec];simp
    refine ⟨rfl,d++[c],e,vs++[x],h4,_,by rw [ec];simp,by simp,rfl,by rw [List.map_append,List.map_append,ev,List.map_singleton,hx];rfl,hs4.extBut _ _ zTO (hs3.extBut _ _ (Ne.symm (zi c hc)) hz2),hT4,by simp [hs2],?_,?_,?_,?_,by rw [hs4.1,hs3.1];exact hn2,fun p o hp q=>hs4.extBut _ _ (kc hp).2.1 (hs3.extBut _ _ (kc hp).2.2 (hk2 p o hp q))⟩
    ·rw [F5,List.length_singleton,take_set (by omega),ht2]
    ·intro c' h;rcases Fk.mp h with h|h
     ·exact (hd2 c' h).at fun o q=>st c' (hde c' (.inl h)).1 (hde c' (.inl h)).2 o q
     ·cases FM.mp h;exact hi3.at fun o q=>hs4.extBut _ _ (Ti c hc) q
    ·exact fun c' h=>(he2 c' (EQ _ h)).at fun o q=>st c' (hde c' (.inr h)).1 (hde c' (.inr h)).2 o q
    ·exact fun c' h=>(hq2 c' h).at fun o q=>hs4.extBut _ _ (aT c' h) (hs3.extBut _ _ (ai c' h c hc) q)
 ·rintro q s' ⟨rfl,d,e,vs,h5,ts',ec,er,rfl,ev,hz5,hT5,hs5,ht5,hd5,_,_,hn5,hk5⟩;cases e with
  |cons c e=>rw [List.map_cons,List.zipIdx_cons] at er;cases er
  |nil=>
   rw [List.append_nil] at ec;subst ec;have et:ts'=vs.toArray:=by
    rw [←ht5,←hs5,←Array.length_toList,List.take_length]
   subst et;refine At (wpAny_seqItems hT5 rfl ?_);refine At (wpAny_newTuple ?_);have hzlt:z<h5.objs.size:=Cl hz5;show wpAny _ _ (Builtin.SmallTypes.ownedTupleHandOut (.ref z) (.ref h5.objs.size)>>=_) _ _ _;refine At ?_;unfold Builtin.SmallTypes.ownedTupleHandOut;have hz6:IsZip (h5.push {cls:=.type "tuple",data:=.seq vs.toArray}) z TI TO .ellipsis:=BT _ hz5;refine At (wpAny_setField_rec hz6 (by simp) fun h7 hz7 hs7=>?_);replace hz7:IsZip h7 z TI TO (rawInt h5.objs.size):=hz7;refine wpAny_setField_rec hz7 (by simp) fun h8' hz8 hs8=>?_;replace hz8:IsZip h8' z TI TO (rawInt h5.objs.size):=hz8;have up:∀c o,c≠z->h5.get? c=some o->h8'.get? c=some o:=fun c o c1 e=>hs8.extBut _ _ c1 (hs7.extBut _ _ c1 (BT _ e));have hT8:aS h8' h5.objs.size vs.toArray:=hs8.extBut _ _ (Nat.ne_of_gt hzlt) (hs7.extBut _ _ (Nat.ne_of_gt hzlt) (Ch _ rfl));have e8:h8'.objs.size=h5.objs.size+1:=by rw [hs8.1,hs7.1,Heap.size_push]
   rw [hn5] at hz8 hT8 e8;refine AC ⟨_,rfl,?_⟩;show Q (.ref h5.objs.size) _;rw [hn5];exact hQ vs h8' ev hz8 (up _ _ (Ne.symm zTO) hT5) (fun c hc=>(hd5 c hc).at fun o e=>up _ o (zi c hc) e) hT8 e8 fun c o hc e=>up c o (fun q=>hc (by simp [q])) (hk5 c o hc e)
theorem kN (hz:IsZip s.heap z TI TO f0)
  (h:wpAny (model prog w) A.in1 (Builtin.«zip.__next__» ⟨[.ref z],[]⟩) (fun fin s'=>∃v,fin=.done (.ret v)∧Q (some v) s') (fun e s'=>∃a o,e=.ref a∧s'.heap.get? a=some o∧o.cls=.type "StopIteration"∧Q none s') s):
  wpAny (model prog w) A (pyNext (.ref z)) Q E s:=by
 have hT:s.TypeIs (.ref z) "zip":=⟨_,hz,rfl⟩
 unfold pyNext;refine At (wpAny_attempt (wpAny_callSpecial?_slot (name:=Str.ofString "__next__") hT F.slot_zip_next
  (wpAny_call_entry F.slot_zip_next hT F.entry_zip_next (AT h (fun fin s' hv=>?_) fun e s' he=>?_) (F.args_zip_next_1 _))))
 ·obtain ⟨v,rfl,q⟩:=hv;exact ⟨v,rfl,AC q⟩
 ·obtain ⟨a,o,rfl,ho,hc,q⟩:=he;refine At (wpAny_isInstance (T:="StopIteration") (b:=true) ⟨o,ho,hc⟩ isSubtype_stop ?_);exact AC q
noncomputable def bz (b:Bool) (a:Addr):Obj:={cls:=.type (match b with|true=>"tuple_iterator"|false=>"list_iterator"),data:=.fields #[.ref a,.int 0 0]}
theorem dv (h:Ssq s.heap b a xs) (hQ:Q (.ref s.heap.objs.size) {s with heap:=s.heap.push (bz b a)}):wpAny (model prog w) A (pyIter (.ref a)) Q E s:=by
 cases b with
 |true=>exact wpAny_pyIter_tuple h hQ
 |false=>exact wpAny_pyIter_list h hQ
theorem Sit.new {h:Heap} (b:Bool) (a:Addr):Sit (h.push (bz b a)) b h.objs.size a 0:=by
 cases b with
 |true=>exact ⟨_,Ch _ rfl,rfl,rfl⟩
 |false=>exact ⟨_,Ch _ rfl,rfl,rfl⟩
end
theorem rj (b1 b2:Bool) (a1 a2:Addr) (xs ys:Array Value):
  Meets (Builtin.«zip.__new__» ⟨[.type "zip",.ref a1,.ref a2],[]⟩) (fun _ R s=>Ssq s.heap b1 a1 xs∧Ssq s.heap b2 a2 ys∧
   ∀h',aS h' (s.heap.objs.size+2) #[.ref s.heap.objs.size,.ref (s.heap.objs.size+1)]->aS h' (s.heap.objs.size+3) #[.none,.none]->IsZip h' (s.heap.objs.size+4) (s.heap.objs.size+2) (s.heap.objs.size+3) .none->
    Sit h' b1 s.heap.objs.size a1 0->Sit h' b2 (s.heap.objs.size+1) a2 0->
    (∀c o,s.heap.get? c=some o->h'.get? c=some o)->h'.objs.size=s.heap.objs.size+5->R (.ok (.ret (.ref (s.heap.objs.size+4)))) {s with heap:=h'}):=
 .of_wp fun prog w A R s h=>by
  obtain ⟨hp,g,d,tk,os⟩:=s;obtain ⟨hl1,hl2,h⟩:=h;have hsub:=sub_zip;have hL1:Ssq (Shared.heap ⟨hp,g,d,tk,os⟩) b1 a1 xs:=hl1;have hL2:Ssq (Shared.heap ⟨hp.push (bz b1 a1),g,d,tk,os⟩) b2 a2 ys:=Ssq.at (h':=hp.push (bz b1 a1)) hl2 fun o e=>BT _ e
  wp_walk using dv hL1,dv hL2
  refine ⟨_,rfl,?_⟩;dsimp only at h ⊢;generalize e1:hp.push (bz b1 a1)=h1;generalize e2:h1.push (bz b2 a2)=h2;generalize e3:h2.push _=h3;generalize e4:h3.push _=h4;generalize e5:h4.push _=h5;have z1:h1.objs.size=hp.objs.size+1:=e1▸Heap.size_push ..;have z2:h2.objs.size=hp.objs.size+2:=by rw [←e2,Heap.size_push,z1]
  have z3:h3.objs.size=hp.objs.size+3:=by rw [←e3,Heap.size_push,z2]
  have z4:h4.objs.size=hp.objs.size+4:=by rw [←e4,Heap.size_push,z3]
  have z5:h5.objs.size=hp.objs.size+5:=by rw [←e5,Heap.size_push,z4]
  have k5:∀c o,h4.get? c=some o->h5.get? c=some o:=fun c o e=>e5▸BT _ e;have k4:∀c o,h3.get? c=some o->h5.get? c=some o:=fun c o e=>k5 c o (e4▸BT _ e);have k3:∀c o,h2.get? c=some o->h5.get? c=some o:=fun c o e=>k4 c o (e3▸BT _ e);have k2:∀c o,h1.get? c=some o->h5.get? c=some o:=fun c o e=>k3 c o (e2▸BT _ e);have g3:=Ch h2 (o:={cls:=.type "tuple",data:=.seq #[.ref hp.objs.size,.ref h1.objs.size]}) rfl;have g4:=Ch h3 (o:={cls:=.type "tuple",data:=.seq #[.none,.none]}) rfl;have g5:=Ch h4 (o:={cls:=.type "zip",data:=.fields #[.none,.bool false,.bool false,.ref h2.objs.size,.ref h3.objs.size]}) rfl;have q3:h3.get? h2.objs.size=_:=(congrArg (fun h=>h.get? h2.objs.size) e3).symm.trans g3;have q4:h4.get? h3.objs.size=_:=(congrArg (fun h=>h.get? h3.objs.size) e4).symm.trans g4;have q5:h5.get? h4.objs.size=_:=(congrArg (fun h=>h.get? h4.objs.size) e5).symm.trans g5;rw [z1,z2] at q3;rw [z3] at q4;rw [z2,z3,z4] at q5;rw [z4];refine h h5 (k4 _ _ q3) (k5 _ _ q4) q5 (Sit.at (Sit.new (h:=hp) b1 a1) fun o e=>k2 _ _ (e1▸e)) ?_ (fun c o e=>k2 _ _ (e1▸BT _ e)) z5;rw [←z1];exact Sit.at (Sit.new (h:=h1) b2 a2) fun o e=>k3 _ _ (e2▸e)
theorem rk (b1 b2 b3:Bool) (a1 a2 a3:Addr) (xs ys us:Array Value):
  Meets (Builtin.«zip.__new__» ⟨[.type "zip",.ref a1,.ref a2,.ref a3],[]⟩) (fun _ R s=>Ssq s.heap b1 a1 xs∧Ssq s.heap b2 a2 ys∧Ssq s.heap b3 a3 us∧
   ∀h',aS h' (s.heap.objs.size+3) #[.ref s.heap.objs.size,.ref (s.heap.objs.size+1),.ref (s.heap.objs.size+2)]->aS h' (s.heap.objs.size+4) #[.none,.none,.none]->
    IsZip h' (s.heap.objs.size+5) (s.heap.objs.size+3) (s.heap.objs.size+4) .none->
    Sit h' b1 s.heap.objs.size a1 0->Sit h' b2 (s.heap.objs.size+1) a2 0->Sit h' b3 (s.heap.objs.size+2) a3 0->
    (∀c o,s.heap.get? c=some o->h'.get? c=some o)->h'.objs.size=s.heap.objs.size+6->R (.ok (.ret (.ref (s.heap.objs.size+5)))) {s with heap:=h'}):=
 .of_wp fun prog w A R s h=>by
  obtain ⟨hp,g,d,tk,os⟩:=s;obtain ⟨hl1,hl2,hl3,h⟩:=h;have hsub:=sub_zip;have hL1:Ssq (Shared.heap ⟨hp,g,d,tk,os⟩) b1 a1 xs:=hl1;have hL2:Ssq (Shared.heap ⟨hp.push (bz b1 a1),g,d,tk,os⟩) b2 a2 ys:=Ssq.at (h':=hp.push (bz b1 a1)) hl2 fun o e=>BT _ e;have hL3:Ssq (Shared.heap ⟨(hp.push (bz b1 a1)).push (bz b2 a2),g,d,tk,os⟩) b3 a3 us:=Ssq.at (h':=(hp.push (bz b1 a1)).push (bz b2 a2)) hl3 fun o e=>BT _ (BT _ e)
  wp_walk using dv hL1,dv hL2,dv hL3
  refine ⟨_,rfl,?_⟩;dsimp only at h ⊢;generalize e1:hp.push (bz b1 a1)=h1;generalize e2:h1.push (bz b2 a2)=h2;generalize e2b:h2.push (bz b3 a3)=h2b;generalize e3:h2b.push _=h3;generalize e4:h3.push _=h4;generalize e5:h4.push _=h5;have z1:h1.objs.size=hp.objs.size+1:=e1▸Heap.size_push ..;have z2:h2.objs.size=hp.objs.size+2:=by rw [←e2,Heap.size_push,z1]
  have z2b:h2b.objs.size=hp.objs.size+3:=by rw [←e2b,Heap.size_push,z2]
  have z3:h3.objs.size=hp.objs.size+4:=by rw [←e3,Heap.size_push,z2b]
  have z4:h4.objs.size=hp.objs.size+5:=by rw [←e4,Heap.size_push,z3]
  have z5:h5.objs.size=hp.objs.size+6:=by rw [←e5,Heap.size_push,z4]
  have k5:∀c o,h4.get? c=some o->h5.get? c=some o:=fun c o e=>e5▸BT _ e;have k4:∀c o,h3.get? c=some o->h5.get? c=some o:=fun c o e=>k5 c o (e4▸BT _ e);have k3:∀c o,h2b.get? c=some o->h5.get? c=some o:=fun c o e=>k4 c o (e3▸BT _ e);have k2b:∀c o,h2.get? c=some o->h5.get? c=some o:=fun c o e=>k3 c o (e2b▸BT _ e);have k2:∀c o,h1.get? c=some o->h5.get? c=some o:=fun c o e=>k2b c o (e2▸BT _ e);have g3:=Ch h2b (o:={cls:=.type "tuple",data:=.seq #[.ref hp.objs.size,.ref h1.objs.size,.ref h2.objs.size]}) rfl;have g4:=Ch h3 (o:={cls:=.type "tuple",data:=.seq #[.none,.none,.none]}) rfl;have g5:=Ch h4 (o:={cls:=.type "zip",data:=.fields #[.none,.bool false,.bool false,.ref h2b.objs.size,.ref h3.objs.size]}) rfl;have q3:h3.get? h2b.objs.size=_:=(congrArg (fun h=>h.get? h2b.objs.size) e3).symm.trans g3;have q4:h4.get? h3.objs.size=_:=(congrArg (fun h=>h.get? h3.objs.size) e4).symm.trans g4;have q5:h5.get? h4.objs.size=_:=(congrArg (fun h=>h.get? h4.objs.size) e5).symm.trans g5;rw [z1,z2,z2b] at q3;rw [z3] at q4;rw [z2b,z3,z4] at q5;rw [z4];refine h h5 (k4 _ _ q3) (k5 _ _ q4) q5 (Sit.at (Sit.new (h:=hp) b1 a1) fun o e=>k2 _ _ (e1▸e)) ?_ ?_ (fun c o e=>k2 _ _ (e1▸BT _ e)) z5
  ·rw [←z1];exact Sit.at (Sit.new (h:=h1) b2 a2) fun o e=>k2b _ _ (e2▸e)
  ·rw [←z2];exact Sit.at (Sit.new (h:=h2) b3 a3) fun o e=>k3 _ _ (e2b▸e)
theorem lS (a b c:Value):checkTypeCall "zip" ⟨[a,b,c],[]⟩=pure ():=by kernel_rfl
theorem mP (a b c:Value):checkBuiltinCall "zip.__new__" ⟨[.type "zip",a,b,c],[]⟩=pure ():=by kernel_rfl
theorem il (a b c d:Value):argsOk "object.__init__" ⟨[a,b,c,d],[]⟩:=by
 unfold argsOk;rw [signature?_of (id:="object.__init__") (n:=['_','_','t','i','n','i','_','_']) (o:=['t','c','e','j','b','o']) (by kernel_rfl) F.owner_object];kernel_rfl
section
variable {prog:Program} {w:World} {A:Around} {E:Value->Shared->Prop} {s:Shared}
theorem qC (hl1:Ssq s.heap b1 a1 xs) (hl2:Ssq s.heap b2 a2 ys)
  (h:∀h',aS h' (s.heap.objs.size+2) #[.ref s.heap.objs.size,.ref (s.heap.objs.size+1)]->aS h' (s.heap.objs.size+3) #[.none,.none]->IsZip h' (s.heap.objs.size+4) (s.heap.objs.size+2) (s.heap.objs.size+3) .none->
    Sit h' b1 s.heap.objs.size a1 0->Sit h' b2 (s.heap.objs.size+1) a2 0->
    (∀c o,s.heap.get? c=some o->h'.get? c=some o)->h'.objs.size=s.heap.objs.size+5->Q (.ref (s.heap.objs.size+4)) {s with heap:=h'}):
  wpAny (model prog w) A (call (.type "zip") [.ref a1,.ref a2]) Q E s:=by
 refine callType_new F.called_zip (by decide) (F.typeCall_zip_2 _ _) (F.newCall_zip_2 _ _) (fun obj=>F.args_object_init_3 obj _ _) F.entry_zip_new
  (rj b1 b2 a1 a2 xs ys) ⟨hl1,hl2,fun h' x1 x2 x3 x4 x5 x6 x7=>?_⟩
 exact ⟨⟨_,x3,rfl⟩,h h' x1 x2 x3 x4 x5 x6 x7⟩
theorem qD (hl1:Ssq s.heap b1 a1 xs) (hl2:Ssq s.heap b2 a2 ys) (hl3:Ssq s.heap b3 a3 us)
  (h:∀h',aS h' (s.heap.objs.size+3) #[.ref s.heap.objs.size,.ref (s.heap.objs.size+1),.ref (s.heap.objs.size+2)]->aS h' (s.heap.objs.size+4) #[.none,.none,.none]->
    IsZip h' (s.heap.objs.size+5) (s.heap.objs.size+3) (s.heap.objs.size+4) .none->
    Sit h' b1 s.heap.objs.size a1 0->Sit h' b2 (s.heap.objs.size+1) a2 0->Sit h' b3 (s.heap.objs.size+2) a3 0->
    (∀c o,s.heap.get? c=some o->h'.get? c=some o)->h'.objs.size=s.heap.objs.size+6->Q (.ref (s.heap.objs.size+5)) {s with heap:=h'}):
  wpAny (model prog w) A (call (.type "zip") [.ref a1,.ref a2,.ref a3]) Q E s:=by
 refine callType_new F.called_zip (by decide) (lS _ _ _) (mP _ _ _) (fun obj=>il obj _ _ _) F.entry_zip_new
  (rk b1 b2 b3 a1 a2 a3 xs ys us) ⟨hl1,hl2,hl3,fun h' x1 x2 x3 x4 x5 x6 x7 x8=>?_⟩
 exact ⟨⟨_,x3,rfl⟩,h h' x1 x2 x3 x4 x5 x6 x7 x8⟩
end
end CT
set_option autoImplicit true
set_option relaxedAutoImplicit true
namespace CT
open PySem PySem.Spec L2
open PyProof.Rows hiding St
noncomputable def SqB (K:PySem.W.Frag) (H:Hp) (b:Bool) (a:Addr) (xs:List V):Prop:=match b with|true=>SqT K H a xs|false=>SqL K H a xs
section
variable {X:Cx} {pins:List (Addr×Obj)} {σ:St} {H:Hp} {s:Shared} {a:Addr} {xs ys:List V} {b:Bool}
theorem Inv.sqb (I:Inv X pins σ H s) (h:SqB X.K H b a xs):∃its:List Value,Vals xs its∧Ssq s.heap b a its.toArray∧xs.length<=sizeLine:=by
 cases b with
 |true=>obtain ⟨its,r,p,z⟩:=I.tuple h;exact ⟨its,r,p,z⟩
 |false=>obtain ⟨its,r,p,z⟩:=I.list h;exact ⟨its,r,p.isList,z⟩
theorem Inv.qk (I:Inv X pins σ H s) (h:SqB X.K H b a xs) (h':SqB X.K H b a ys):xs=ys:=by
 cases b with
 |true=>exact I.mF h h'
 |false=>exact I.oq h h'
theorem Inv.m4 {c:Addr} (I:Inv X pins σ H s) (h:SqB X.K H b a xs) (f:bj X pins H c):a≠c:=by
 have fromK:∀o,X.K.lookup a=some o->a≠c:=fun o hk z=>by
  have e:=I.ok.mod.kin a o hk;rcases f.2.2.2.1 with q|q
  ·exact I.ok.gY a o e (z▸q)
  ·exact absurd (F9 (Cl e) (Gb I.ok.bsz (z▸q))) (Nat.lt_irrefl _)
 have fromR:∀u,Rd H a u->a≠c:=fun u h=>by
  rcases h with h|⟨_,h⟩<;>exact aC h f.1
 cases b with
 |true=>
  rcases h with h|⟨o,_,_,hk,_⟩
  ·exact fromR _ h
  ·exact fromK o hk
 |false=>
  rcases h with h|⟨o,_,_,hk,_⟩
  ·exact fromR _ h
  ·exact fromK o hk
theorem Inv.jg {h':Heap} {t':Nat} {ch:List Addr} (I:Inv X pins σ H s) (hf:∀b∈ch,bj X pins H b) (k:∀b o,b∉ch->s.heap.get? b=some o->h'.get? b=some o):Inv X pins σ H {s with heap:=h',toks:=t'}:=by
 have nit:∀b u,H b=some u->b∉ch:=fun b u e z=>by have:=(hf b z).1;rw [e] at this;cases this
 refine I.step (g':=s.gens) (d':=s.drawn) (ch:=ch) (fun b hb=>?_) (fun b o _ _ hc e _=>k b o hc e) (fun b o _ _ hc e _=>⟨o.slots,k b o hc e⟩) (fun _ _ _ _ n=>n)
  (fun b o hc e=>⟨o,k b o hc e⟩) (fun _ _ e=>e) (fun _ _ _ e=>e) (fun b ps e=>⟨#[],by rw [e];simp⟩) (fun m hm=>?_) (fun b u e=>?_) I.bare
 ·obtain ⟨f0,f1,f2,f3,f4,f5⟩:=hf b hb;exact ⟨f3,f1,f4,f5⟩
 ·obtain ⟨o,es,ep,ho,r⟩:=hm;exact ⟨o,es,ep,k _ o (fun z=>(hf _ z).2.1 rfl) ho,r⟩
 ·refine (I.hok b u e).fE (fun c v hc q=>k c v ?_ q) (fun _ q=>q) fun _ _ q=>q;rcases hc with z|z
  ·rw [z];exact nit b u e
  ·exact nit c _ z
theorem Inv.adopt {T:Addr} {o:HO} (I:Inv X pins σ H s) (f:bj X pins H T) (new:aX X.prog X.w (upd H T o) s.heap T o):Inv X pins σ (upd H T o) s:=by
 have neT:∀{b:Addr} {u:HO},H b=some u->b≠T:=fun e=>aC e f.1;have r:Inv X pins σ (upd H T o) {s with heap:=s.heap,gens:=s.gens,drawn:=s.drawn,toks:=s.toks}:=
  I.step (ch:=[T]) (fun b hb=>by
   have e:b=T:=by simpa using hb
   subst e;obtain ⟨f0,f1,f2,f3,f4,f5⟩:=f;exact ⟨f3,f1,f4,f5⟩) (fun b o _ _ _ e _=>e) (fun b o _ _ _ e _=>⟨o.slots,e⟩) (fun b o hc e n=>by rw [ah (fun z=>hc (by simp [z]))];exact n)
   (fun b o _ e=>⟨o,e⟩) (fun b xs e=>by rw [ah (neT e)];exact e) (fun b o u e=>by rw [ah (neT e)];exact e) (fun b ps e=>⟨#[],by rw [ah (neT e),e];simp⟩) (fun m hm=>hm) (fun b u e=>by
    by_cases hb:b=T
    ·subst hb;rw [aD] at e;cases e;exact new
    ·rw [ah hb] at e;exact (I.hok b u e).fE (fun _ _ _ q=>q) (fun c q=>by rw [ah (neT q)];exact q) fun c xs q=>by rw [ah (neT q)];exact q) I.bare
 exact r
end
theorem Dl {xs:List V} {its:List Value} {i:Nat} {x:V} (r:Vals xs its) (h:xs[i]?=some x):∃u,its.toArray[i]?=some u∧RelV x u:=by
 obtain ⟨u,h1,h2⟩:=r.get h;exact ⟨u,by simpa using h1,h2⟩
theorem Dk {xs:List V} {its:List Value} {i:Nat} (r:Vals xs its) (h:xs.length<=i):its.toArray[i]?=none:=by
 have:=r.length;simp;omega
noncomputable def Itz (K:PySem.W.Frag) (bs:List (Bool×Addr)):It:=
 ⟨fun i H=>∀c∈bs,∃xs x,SqB K H c.1 c.2 xs∧xs[i]?=some x,
  fun i H v H'=>∃T ys,H T=none∧v=.ref T∧H'=upd H T (.tup ys)∧Paired (fun c y=>∀xs,SqB K H c.1 c.2 xs->xs[i]?=some y) bs ys,
  fun i H=>(∀c∈bs,∃xs,SqB K H c.1 c.2 xs)∧∃c∈bs,∃xs,SqB K H c.1 c.2 xs∧xs.length<=i⟩
noncomputable abbrev zB (cs:List Zc):List (Bool×Addr):=cs.map fun c=>(c.b,c.a)
theorem pd:∀{cs:List Zc} {vs:List Value},cs.map F=vs.map some->(∀c∈cs,∀u,F c=some u->∃y,P (c.b,c.a) y∧RelV y u)->∃ys,Vals ys vs∧Paired P (zB cs) ys
 |[],[],_,_=>⟨[],.nil,.nil⟩
 |c::cs,v::vs,e,h=>by
  rw [List.map_cons,List.map_cons] at e;injection e with e1 e2;obtain ⟨y,hy,r⟩:=h c Fa v e1;obtain ⟨ys,h1,h2⟩:=pd e2 fun c' hc=>h c' (EQ _ hc);exact ⟨y::ys,.cons r h1,.cons hy h2⟩
 |[],_::_,e,_=>nomatch e
 |_::_,[],e,_=>nomatch e
noncomputable def ko (h:Heap) (c:Zc):Array Value:=Classical.epsilon fun its=>Ssq h c.b c.a its
theorem Ssq.inj (x:Ssq h b a xs) (y:Ssq h b a ys):xs=ys:=by
 cases b with
 |true=>obtain ⟨o,h1,_,n,h2⟩:=x;obtain ⟨o',h1',_,n',h2'⟩:=y;rw [h1] at h1';cases h1';rw [h2] at h2';cases h2';rfl
 |false=>obtain ⟨o,h1,_,n,h2⟩:=x;obtain ⟨o',h1',_,n',h2'⟩:=y;rw [h1] at h1';cases h1';rw [h2] at h2';cases h2';rfl
theorem fy (x:Ssq h c.b c.a xs):ko h c=xs:=Ssq.inj (Classical.epsilon_spec (p:=fun its=>Ssq h c.b c.a its) ⟨xs,x⟩) x
theorem wG {P:Program} {w:World} {K:PySem.W.Frag} {elts:List Expr} {x1} {pos:Pos} {z TI TO:Addr} {cs:List Zc} (nd:(z::TI::TO::zI cs).Nodup) (hne:cs≠[]) (h8:cs.length<=8):
  Turn P w K (.Tuple elts x1 pos) (Itz K (zB cs)) (z::TI::TO::zI cs) z
   (fun i h=>IsZip h z TI TO .none∧aS h TI (cs.map fun c=>Value.ref c.i).toArray∧(∃ts,aS h TO ts∧ts.size=cs.length)∧∀c∈cs,Sit h c.b c.i c.a i) where
 mem:=Fa
 obj:=fun i h q b hb=>by
  obtain ⟨q1,q2,⟨ts,q3,_⟩,q4⟩:=q;rcases Fr.mp hb with rfl|hb
  ·exact ⟨_,q1,fun v e=>by have e':Data.fields _=Data.cell v:=e;cases e'⟩
  rcases Fr.mp hb with rfl|hb
  ·exact ⟨_,q2,fun v e=>by have e':Data.seq _ _=Data.cell v:=e;cases e'⟩
  rcases Fr.mp hb with rfl|hb
  ·exact ⟨_,q3,fun v e=>by have e':Data.seq _ _=Data.cell v:=e;cases e'⟩
  obtain ⟨c,hc,rfl⟩:=FB.mp hb;obtain ⟨o,n,vs,e,_,d⟩:=(q4 c hc).rec;exact ⟨o,e,fun v e=>by rw [d] at e;cases e⟩
 keep:=fun i h h' q k=>by
  obtain ⟨q1,q2,⟨ts,q3,q3'⟩,q4⟩:=q;exact ⟨k z (by simp) _ q1,k TI (by simp) _ q2,⟨ts,k TO (by simp) _ q3,q3'⟩,fun c hc=>(q4 c hc).at fun o e=>k c.i (EQ _ (EQ _ (EQ _ (List.mem_map_of_mem hc)))) o e⟩
 item:=by
  intro X hP hw hK hc i pins s σ H E I hf q hg;obtain ⟨q1,q2,⟨ts,q3,q3'⟩,q4⟩:=q;subst hP hw hK;have sub:∀b∈z::TO::zI cs,b∈z::TI::TO::zI cs:=fun b hb=>by
   rcases Fr.mp hb with rfl|hb
   ·exact Fa
   ·exact EQ _ (EQ _ hb)
  have get:∀c∈cs,∃xs x its u,SqB X.K H c.b c.a xs∧xs[i]?=some x∧Ssq s.heap c.b c.a its∧its[i]?=some u∧RelV x u:=fun c hc=>by
   obtain ⟨xs,x,hx,ex⟩:=hg (c.b,c.a) (List.mem_map_of_mem (f:=fun c:Zc=>(c.b,c.a)) hc);obtain ⟨its,r1,p1,_⟩:=CT.Inv.sqb I hx;obtain ⟨u,eu,ru⟩:=Dl r1 ex;exact ⟨xs,x,_,u,hx,ex,p1,eu,ru⟩
  refine kN q1 (Dn (F:=ko s.heap) (I.ok.hd hc) nd (fun c hc m=>?_) hne h8 q1 q2 q3 q3' (fun c hc=>⟨q4 c hc,?_⟩) (fun vs h' ev z1 z2 z3 z5 z6 kk=>?_) fun h' e he=>?_)
  ·obtain ⟨xs,_,_,_,hx,_⟩:=get c hc;exact CT.Inv.m4 I hx (hf c.a (sub _ m)) rfl
  ·obtain ⟨_,_,its,_,_,_,p,_⟩:=get c hc;rw [fy p];exact p
  ·refine ⟨_,rfl,wpAny_letOwnedTupleGo_zip z1 fun h2 z1' sb=>?_⟩;obtain ⟨ys,hv,hp⟩:=pd (P:=fun c y=>∀xs,SqB X.K H c.1 c.2 xs->xs[i]?=some y) ev fun c hc u hu=>by
    obtain ⟨xs,x,its,u',hx,ex,p,eu,ru⟩:=get c hc;rw [fy p,eu] at hu;cases hu;exact ⟨x,fun xs' h'=>by rw [CT.Inv.qk I h' hx];exact ex,ru⟩
   have nT:∀b∈z::TI::TO::zI cs,b≠s.heap.objs.size:=fun b hb=>by
    rcases Fr.mp hb with rfl|hb
    ·exact Gc (Cl q1)
    rcases Fr.mp hb with rfl|hb
    ·exact Gc (Cl q2)
    rcases Fr.mp hb with rfl|hb
    ·exact Gc (Cl q3)
    obtain ⟨c,hc,rfl⟩:=FB.mp hb;obtain ⟨o,n,vs,e,_,d⟩:=(q4 c hc).rec;exact Gc (Cl e)
   obtain ⟨nz,nI,nO,_⟩:z∉TI::TO::zI cs∧TI∉TO::zI cs∧TO∉zI cs∧(zI cs).Nodup:=by simpa only [List.nodup_cons] using nd
   have k2:∀c o,c∉z::TO::zI cs->s.heap.get? c=some o->h2.get? c=some o:=fun c o hc e=>sb.extBut c o (fun q=>hc (by simp [q])) (kk c o hc e);have I1:Inv X pins σ H {s with heap:=h2}:=CT.Inv.jg (t':=s.toks) (ch:=z::TO::zI cs) I (fun b hb=>hf b (sub b hb)) k2;have hT:h2.get? s.heap.objs.size=some {cls:=.type "tuple",data:=.seq vs.toArray}:=sb.extBut _ _ (Ne.symm (nT z Fa)) z5;have hl:ys.length=cs.length:=by
    have h1:=congrArg List.length ev;have h2:=Paired.length hv;rw [F6,F6] at h1;omega
   have I2:Inv X pins σ (upd H s.heap.objs.size (.tup ys)) {s with heap:=h2}:=CT.Inv.adopt I1 (I.gM (Gd _) (I.hok.fresh (Gd _)))
    ⟨by have:=uo;omega,vs,hv,_,hT,rfl,_,rfl⟩
   refine ⟨.ref s.heap.objs.size,_,I2,rfl,⟨_,ys,I.hok.fresh (Gd _),rfl,rfl,hp⟩,⟨z1',k2 _ _ (fun m=>?_) q2,⟨_,sb.extBut _ _ (fun e=>nz (by simp [e])) z2,?_⟩,fun c hc=>(z3 c hc).at fun o e=>sb.extBut _ _ (fun e=>nz ?_) e⟩,fun b hb=>?_⟩
   ·rcases Fr.mp m with e|m
    ·exact nz (by simp [e])
    ·exact nI m
   ·have:=Paired.length hv;rw [List.size_toArray];omega
   ·exact EQ _ (EQ _ (e▸List.mem_map_of_mem hc))
   ·rw [ah (nT b hb)];exact (hf b hb).1
  ·obtain ⟨c,hc,hn⟩:=he;obtain ⟨_,_,its,u,_,_,p,eu,_⟩:=get c hc;rw [fy p,eu] at hn;cases hn
 done:=by
  intro X hP hw hK hc i pins s σ H E I hf q hg;obtain ⟨q1,q2,⟨ts,q3,q3'⟩,q4⟩:=q;subst hP hw hK;obtain ⟨ha,c0,hc0,xs0,hx0,hl0⟩:=hg;have sub:∀b∈z::TO::zI cs,b∈z::TI::TO::zI cs:=fun b hb=>by
   rcases Fr.mp hb with rfl|hb
   ·exact Fa
   ·exact EQ _ (EQ _ hb)
  have get:∀c∈cs,∃xs,SqB X.K H c.b c.a xs:=fun c hc=>ha (c.b,c.a) (List.mem_map_of_mem (f:=fun c:Zc=>(c.b,c.a)) hc);refine kN q1 (Dn (F:=ko s.heap) (I.ok.hd hc) nd (fun c hc m=>?_) hne h8 q1 q2 q3 q3' (fun c hc=>⟨q4 c hc,?_⟩) (fun vs h' ev _ _ _ _ _ _=>?_) fun h' e _ kk ho=>?_)
  ·obtain ⟨xs,hx⟩:=get c hc;exact CT.Inv.m4 I hx (hf c.a (sub _ m)) rfl
  ·obtain ⟨xs,hx⟩:=get c hc;obtain ⟨its,_,p,_⟩:=CT.Inv.sqb I hx;rw [fy p];exact p
  ·obtain ⟨c,hc,rfl⟩:=FB.mp hc0;obtain ⟨its,r,p,_⟩:=CT.Inv.sqb I hx0;have m:(ko s.heap c)[i]?∈vs.map some:=by rw [←ev];exact List.mem_map_of_mem (f:=fun c=>(ko s.heap c)[i]?) hc
   rw [fy p,Dk r hl0] at m;obtain ⟨_,_,z⟩:=FB.mp m;cases z
  ·obtain ⟨o,ho,hcls⟩:=ho;exact ⟨e,o,rfl,ho,hcls,rfl,CT.Inv.jg (t':=s.toks) (ch:=z::TO::zI cs) I (fun b hb=>hf b (sub b hb)) kk⟩
 self:=fun _ _ _ _ _ q h=>wpAny_pyIter_zip q.1 h
theorem sd (hl:bs.length=2∨bs.length=3) (hsq:∀c∈bs,∃xs,Ssq s.heap c.1 c.2 xs)
  (h:∀h' cs z TI TO,zB cs=bs->(z::TI::TO::zI cs).Nodup->(IsZip h' z TI TO .none∧aS h' TI (cs.map fun c=>Value.ref c.i).toArray∧(∃ts,aS h' TO ts∧ts.size=cs.length)∧∀c∈cs,Sit h' c.b c.i c.a 0)->
   (∀c o,s.heap.get? c=some o->h'.get? c=some o)->(∀b∈z::TI::TO::zI cs,s.heap.objs.size<=b)->Q (.ref z) {s with heap:=h'}):wpAny (model prog w) A (call (.type "zip") (bs.map fun c=>.ref c.2)) Q E s:=by
 match bs,hl with
 |[c1,c2],_=>
  obtain ⟨xs,p1⟩:=hsq c1 (by simp);obtain ⟨ys,p2⟩:=hsq c2 (by simp);refine qC p1 p2 fun h' x1 x2 x3 x4 x5 x6 x7=>h h' [⟨c1.1,s.heap.objs.size,c1.2⟩,⟨c2.1,s.heap.objs.size+1,c2.2⟩] _ _ _ rfl (by simp) ⟨x3,x1,⟨_,x2,rfl⟩,?_⟩ x6 (by simp);simp only [List.mem_cons,List.not_mem_nil,or_false];rintro c (rfl|rfl)
  ·exact x4
  ·exact x5
 |[c1,c2,c3],_=>
  obtain ⟨xs,p1⟩:=hsq c1 (by simp);obtain ⟨ys,p2⟩:=hsq c2 (by simp);obtain ⟨us,p3⟩:=hsq c3 (by simp);refine qD p1 p2 p3 fun h' x1 x2 x3 x4 x5 x5' x6 x7=>h h' [⟨c1.1,s.heap.objs.size,c1.2⟩,⟨c2.1,s.heap.objs.size+1,c2.2⟩,⟨c3.1,s.heap.objs.size+2,c3.2⟩] _ _ _ rfl (by simp) ⟨x3,x1,⟨_,x2,rfl⟩,?_⟩ x6 (by simp);simp only [List.mem_cons,List.not_mem_nil,or_false];rintro c (rfl|rfl|rfl)
  ·exact x4
  ·exact x5
  ·exact x5'
noncomputable def Fj (K:PySem.W.Frag) (t:TA):TI:=fun σ H R=>t σ H fun vs H1=>∃bs,vs=bs.map (fun c=>V.ref c.2)∧(bs.length=2∨bs.length=3)∧(∀c∈bs,∃xs,SqB K H1 c.1 c.2 xs)∧R (Itz K bs) H1
theorem qj:∀{bs:List (Bool×Addr)} {us:List Value},Vals (bs.map fun c=>V.ref c.2) us->us=bs.map fun c=>Value.ref c.2
 |[],_,r=>by cases r;rfl
 |c::bs,_,r=>by
  cases r with
  |cons h t=>rw [qj t,List.map_cons];congr 1
theorem CA {X:Cx} {elts:List Expr} {tpos:Pos} {e:Expr} {es:List Expr} {ta:TA} {k} {p pos:Pos} (hg:Gl X "zip") (hm:X.mg "zip"=none) (ha:PA X (e::es) ta) (hs:starEach (e::es) X.env=(false,eval e X.env)::starEach es X.env) (hp:(backTo pos (starEach es X.env)).any (·.1)=false):
  PI X (.Tuple elts k tpos) (.Call (.Name "zip" p) (e::es) [] pos) (Fj X.K ta):=by
 intro pins s σ H R I h;refine Call_ (fA I hg hm boot_zip (PyProof.Rows.callWith_type1 (thn (ha pos pins s σ H _ I h) fun us s1 zz=>?_) hs hp));obtain ⟨vs,H1,I1,r1,bs,e,hl,hx,q⟩:=zz;subst e;rw [qj r1];refine sd hl (fun c hc=>?_) fun h' cs z TI TO eb nd tn kk fr=>?_
 ·obtain ⟨xs,hx⟩:=hx c hc;obtain ⟨its,_,p,_⟩:=CT.Inv.sqb I1 hx;exact ⟨_,p⟩
 ·subst eb;rw [F6] at hl;refine wpAny_pyIter_zip tn.1 ⟨_,_,_,_,H1,rfl,I1.kept (t':=s1.toks) kk,wG nd (fun z=>by rw [z] at hl;simp at hl) (by omega),tn,fun b hb=>I1.gM (fr b hb) (I1.hok.fresh (fr b hb)),q⟩
set_option autoImplicit true
set_option relaxedAutoImplicit true
noncomputable def KP:List (PK×Addr×V)->List (PK×Addr×Value)->Prop:=Paired fun p q=>p.1=q.1∧p.2.1=q.2.1∧RelV p.2.2 q.2.2
noncomputable def Ar (h:Heap) (d:Addr) (xs:List (PK×Addr×Value)) (ep:Nat):Prop:=
 ∃o es,h.get? d=some o∧o.ExactDict∧o.data=.dict es ep∧es.toList=xs.map (fun x=>⟨x.1.hs,.ref x.2.1,x.2.2⟩)∧(xs.map (·.1)).Nodup
noncomputable def PD (a:Addr) (ep:Nat) (kvs:List (PK×Addr×V)):HO:=.ext fun h=>kvs.length<=sizeLine∧(a==sysModules)=false∧∃xs,KP kvs xs∧Ar h a xs ep
section
variable {P:Program} {w:World} {H:Hp} {h:Heap} {a:Addr} {ep:Nat} {kvs:List (PK×Addr×V)}
theorem cm (ok:HOk P w H h) (e:H a=some (PD a ep kvs)):kvs.length<=sizeLine∧(a==sysModules)=false∧∃xs,KP kvs xs∧aA (bD P w) h a xs ep:=(show aX P w H h a (PD a ep kvs) from ok a _ e).1
theorem kJ (z:kvs.length<=sizeLine) (hd:(a==sysModules)=false) (k:KP kvs xs) (r:aA (bD P w) h a xs ep):aX P w H h a (PD a ep kvs):=
 ⟨⟨z,hd,xs,k,r⟩,let ⟨o,_,e,_⟩:=r;⟨o,e⟩,fun h1 h2 ⟨z,hd,xs,k,r⟩ kk=>⟨z,hd,xs,k,aA.keep (knd:=bD P w) r kk⟩⟩
noncomputable def dI (H:Hp) (k:PK) (b:Addr):Prop:=k.dp<=8∧∀P w h,HOk P w H h->bL h k (.ref b)
theorem dI.is (q:dI H k b) (ok:HOk P w H h):(bD P w).is h k b:=⟨q.2 P w h ok,q.1⟩
theorem bL.Df {s:Shared} {k:PK} {b:Addr} (x:bL s.heap k (.ref b)):s.TypeIs (.ref b) "tuple":=by
 cases k with
 |i n=>obtain ⟨_,e⟩:=x;cases e
 |t l=>obtain ⟨a,o,its,n,e,g,c,_⟩:=x;cases e;exact ⟨o,g,c⟩
noncomputable def dJ (H:Hp) (kvs:List (PK×Addr×V)):Prop:=∀p∈kvs,dI H p.1 p.2.1
theorem KP.mem (r:KP kvs xs):∀x∈xs,∃p∈kvs,p.1=x.1∧p.2.1=x.2.1:=by
 unfold KP at r
 induction r with
 |nil=>intro x hx;cases hx
 |@cons p q ps qs h t ih=>
  intro x hx;rcases Fr.mp hx with e|hx
  ·subst e;exact ⟨p,Fa,h.1,h.2.1⟩
  ·obtain ⟨y,hy,e⟩:=ih x hx;exact ⟨y,EQ _ hy,e⟩
theorem KP.is (r:KP kvs xs) (ks:dJ H kvs) (ok:HOk P w H h):∀x∈xs,(bD P w).is h x.1 x.2.1:=fun x hx=>by
 obtain ⟨p,hp,e1,e2⟩:=r.mem x hx;rw [←e1,←e2];exact (ks p hp).is ok
noncomputable def cQ (kvs:List (PK×Addr×V)) (k:PK):Option V:=(kvs.find? fun p=>decide (p.1=k)).map (·.2.2)
noncomputable def fV (kvs:List (PK×Addr×V)) (k:PK) (b:Addr) (v:V):List (PK×Addr×V):=
 if (cQ kvs k).isSome then kvs.map (fun p=>if p.1=k then (p.1,p.2.1,v) else p) else kvs++[(k,b,v)]
theorem KP.val (r:KP kvs xs) (k:PK):bQ (cQ kvs k) ((atKey xs k).map (·.2)):=by
 unfold KP at r
 induction r with
 |nil=>trivial
 |@cons p q ps qs h t ih=>
  unfold cQ atKey;rw [List.find?_cons,List.find?_cons,h.1]
  by_cases e:q.1=k
  ·rw [Ge e];exact h.2.2
  ·rw [Gf e];exact ih
theorem KP.length (r:KP kvs xs):kvs.length=xs.length:=Paired.length r
theorem KP.iK (r:KP kvs xs) (k:PK) (rv:RelV v u):KP (kvs.map fun p=>if p.1=k then (p.1,p.2.1,v) else p) (xs.map (putAt k u)):=by
 unfold KP at r ⊢
 induction r with
 |nil=>exact .nil
 |@cons p q ps qs h t ih=>
  rw [List.map_cons,List.map_cons];refine .cons ?_ ih;unfold putAt
  by_cases e:q.1=k
  ·rw [if_pos e,if_pos (h.1.trans e)];exact ⟨h.1,h.2.1,rv⟩
  ·rw [if_neg e,if_neg (fun z=>e (h.1.symm.trans z))];exact h
theorem KP.snoc (r:KP kvs xs) (k:PK) (b:Addr) (rv:RelV v u):KP (kvs++[(k,b,v)]) (xs++[(k,b,u)]):=by
 unfold KP at r ⊢
 induction r with
 |nil=>exact .cons ⟨rfl,rfl,rv⟩ .nil
 |cons h t ih=>exact .cons h ih
theorem KP.put (r:KP kvs xs) (k:PK) (b:Addr) (rv:RelV v u):KP (fV kvs k b v) (storedH xs k b u):=by
 have e:(cQ kvs k).isSome=(atKey xs k).isSome:=by
  have:=r.val k;cases h1:cQ kvs k with
  |none=>cases h2:(atKey xs k) with
   |none=>rfl
   |some p=>rw [h1,h2] at this;exact this.elim
  |some v=>cases h2:(atKey xs k) with
   |none=>rw [h1,h2] at this;exact this.elim
   |some p=>rfl
 unfold fV storedH;rw [e];split
 ·exact r.iK k rv
 ·exact r.snoc k b rv
theorem wx:(fV kvs k b v).length<=kvs.length+1:=by
 unfold fV;split
 ·rw [F6];omega
 ·rw [F5];exact Gd _
theorem KP.nodup (r:KP kvs xs):kvs.map (·.1)=xs.map (·.1):=by
 unfold KP at r
 induction r with
 |nil=>rfl
 |@cons p q ps qs h t ih=>rw [List.map_cons,List.map_cons,ih,h.1]
theorem KP.get (r:KP kvs xs):∀{i:Nat} {p:PK×Addr×V},kvs[i]?=some p->∃q,xs[i]?=some q∧p.1=q.1∧p.2.1=q.2.1∧RelV p.2.2 q.2.2:=by
 unfold KP at r
 induction r with
 |nil=>intro i p h;simp at h
 |@cons p q ps qs h t ih=>
  intro i x hx;cases i with
  |zero=>simp at hx;subst hx;exact ⟨q,rfl,h⟩
  |succ i=>obtain ⟨y,hy,e⟩:=ih (i:=i) (p:=x) (by simpa using hx);exact ⟨y,by simpa using hy,e⟩
end
section
variable {X:Cx} {pins:List (Addr×Obj)} {σ:St} {H:Hp} {s:Shared} {a b:Addr} {v:V} {u r:Value} {o:Option V} {A:Around} {E:Value->Shared->Prop} {ep:Nat} {kvs:List (PK×Addr×V)} {k:PK}
theorem tO (hu:A.units+9<cLine) (I:Inv X pins σ H s) (e:H a=some (PD a ep kvs)) (ks:dJ H kvs) (kb:dI H k b) (l:cQ kvs k=some v) (h:∀w' s',Inv X pins σ H s'->RelV v w'->Q w' s'):
  wpAny (model X.prog X.w) A (getItem (.ref a) (.ref b)) Q E s:=by
 obtain ⟨z,hd,xs,rel,dd⟩:=cm I.hok e;obtain ⟨w',hw,rw'⟩:=bQ.some_of (v:=v) (o:=(atKey xs k).map (·.2)) (by rw [←l];exact rel.val k);obtain ⟨p,hp,hp2⟩:=Option.map_eq_some_iff.mp hw;refine wpAny_getItem_heap (knd:=bD X.prog X.w) (show A.units+1+8<cLine by omega) (kb.is I.hok) (dd.ofH (rel.is ks I.hok)) hp ?_;rw [hp2];exact h w' _ (I.tok _) rw'
theorem Ei (hu:A.units+9<cLine) (I:Inv X pins σ H s) (e:H a=some (PD a ep kvs)) (ks:dJ H kvs) (kb:dI H k b) (h:∀w' s',Inv X pins σ H s'->RelV ((cQ kvs k).getD .non) w'->Q w' s'):
  wpAny (model X.prog X.w) A (call (.builtin "dict.get") [.ref a,.ref b]) Q E s:=by
 obtain ⟨z,hd,xs,rel,dd⟩:=cm I.hok e;refine call_meetsIn PySem.F.slot_dict_get dd.typeIs PySem.F.entry_dict_get (PySem.F.args_dict_get_2 _ _) (meetsH_dict_get (bD X.prog X.w) a b hd) ⟨show A.units+1+8<cLine by omega,k,xs,kb.is I.hok,dd.ofH (rel.is ks I.hok),h _ _ (I.tok _) ?_⟩;exact (rel.val k).getD rfl
theorem tP (hu:A.units+9<cLine) (I:Inv X pins σ H s) (e:H a=some (PD a ep kvs)) (ks:dJ H kvs) (kb:dI H k b) (hl:kvs.length<sizeLine) (rv:RelV v r) (h:∀s' ep',Inv X pins σ (upd H a (PD a ep' (fV kvs k b v))) s'->Q () s'):
  wpAny (model X.prog X.w) A (setItem (.ref a) (.ref b) r) Q E s:=by
 obtain ⟨z,hd,xs,rel,dd⟩:=cm I.hok e;have hz:xs.length<=sizeLine:=by rw [←rel.length];exact z
 refine wpAny_setItem_heap (knd:=bD X.prog X.w) (hsz:=hz) (show A.units+1+8<cLine by omega) (kb.is I.hok) (dd.ofH (rel.is ks I.hok)) fun h' dd' hs=>?_;obtain ⟨ep',rw'⟩:=qi dd';refine h _ ep' (yj I (by rw [e];exact True.intro) hs (let ⟨q,_,hq,_⟩:=rw';⟨q,hq⟩) (kJ (by have:=wx (kvs:=kvs) (k:=k) (b:=b) (v:=v);omega) hd (rel.put k b rv) rw'))
theorem Ck {Q:Value->Shared->Prop} (I:Inv X pins σ H s) (e:H a=some (PD a ep kvs)) (ks:dJ H kvs) (hh:(kvs.map fun p=>p.1.hs).Nodup) (h:∀p ep' s',H p=none->Inv X pins σ (upd H p (PD p ep' kvs)) s'->Q (.ref p) s'):
  wpAny (model X.prog X.w) A (call (.type "dict") [.ref a]) Q E s:=by
 obtain ⟨z,hd,xs,rel,dd⟩:=cm I.hok e;have e2:(xs.map fun x=>(bD X.prog X.w).hash x.1)=kvs.map fun p=>p.1.hs:=by
  have:=congrArg (List.map PK.hs) rel.nodup;rw [List.map_map,List.map_map] at this;exact this.symm
 refine sG (knd:=bD X.prog X.w) hd dd (fun x hx=>(rel.is ks I.hok x hx).1.Df) (by rw [e2];exact hh) (by rw [←rel.length];exact z) fun h' ep' hd' hs'=>?_;refine h _ ep' _ (I.hok.fresh (Gd _)) (I.laid (a:=s.heap.objs.size) (o:=PD s.heap.objs.size ep' kvs) (t':=s.toks) (fun b q hb=>?_) (Gd _) (kJ z (beq_eq_false_iff_ne.mpr (Ne.symm (Gc I.big))) rel hd'));rw [hs'.2 b (Gc (Cl hb))];exact BT _ hb
end
noncomputable def Itp (a:Addr) (ep:Nat) (kvs:List (PK×Addr×V)):It:=
 ⟨fun i H=>H a=some (PD a ep kvs)∧i<kvs.length,fun i H v H'=>H'=H∧∃p,kvs[i]?=some p∧v=.ref p.2.1,fun i H=>H a=some (PD a ep kvs)∧kvs.length<=i⟩
theorem ux {P:Program} {w:World} {K:PySem.W.Frag} {tg:Expr} (a it:Addr) (ep:Nat) (kvs:List (PK×Addr×V)):Turn P w K tg (Itp a ep kvs) [it] it (fun i h=>h.IsKeyIter it a i kvs.length ep) where
 mem:=by simp
 obj:=fun i h st b hb=>by
  cases (FM.mp hb);obtain ⟨o,e,c,d⟩:=st;exact ⟨o,e,fun v z=>by rw [d] at z;cases z⟩
 keep:=fun i h h' st k=>let ⟨o,e,r⟩:=st;⟨o,k it (by simp) o e,r⟩
 item:=by
  intro X hP hw hK hc i pins s σ H E I hf st hg;subst hP hw hK;obtain ⟨he,hi⟩:=hg;obtain ⟨z,hd,xs,rel,dd⟩:=cm I.hok he;obtain ⟨p,hp⟩:∃p,kvs[i]?=some p:=⟨kvs[i],by simp [hi]⟩
  obtain ⟨q,hq,_,e2,_⟩:=rel.get hp;obtain ⟨f0,f1,f2,f3,f4,f5⟩:=hf it (by simp);rw [rel.length] at st;refine rq st dd hq fun h' st' sb=>?_;have I1:Inv X pins σ H {s with heap:=h'}:=I.turned (t':=s.toks) (fun b o hb e=>(sb.2 b hb).trans e) f0 f1 f3 f4 f5;obtain ⟨o,e,c,d⟩:=id st';rw [←rel.length] at st';exact ⟨_,rfl,mX (s:={s with heap:=h'}) e c d (by decide) ⟨.ref p.2.1,H,I1,by rw [e2];rfl,⟨rfl,p,hp,rfl⟩,st',fun b hb=>(hf b hb).1⟩⟩
 done:=by
  intro X hP hw hK hc i pins s σ H E I hf st hg;subst hP hw hK;obtain ⟨he,hi⟩:=hg;obtain ⟨z,hd,xs,rel,dd⟩:=cm I.hok he;obtain ⟨f0,f1,f2,f3,f4,f5⟩:=hf it (by simp);rw [rel.length] at st;exact sQ (I.ok.hd hc) st dd (by rw [List.getElem?_eq_none_iff,←rel.length];exact hi) fun h' eb=>⟨rfl,I.turned (t':=s.toks) (fun b o hb e=>eb b o hb e) f0 f1 f3 f4 f5⟩
 self:=fun _ _ _ _ _ st h=>wpAny_pyIter_keyiter st h
noncomputable def Fh (tl:TE):TI:=fun σ H R=>tl σ H fun x H1=>∃a ep kvs,x=.ref a∧H1 a=some (PD a ep kvs)∧R (Itp a ep kvs) H1
section
variable {X:Cx} {tg o i e value:Expr} {pos pos' apos cpos:Pos} {td ty tv:TE}
theorem Cy {l:Expr} {tl:TE} (hl:PE X l tl):PI X tg l (Fh tl):=by
 intro pins s σ H R I h;refine thn (hl pins s σ H _ I h) fun v s1 zz=>?_;obtain ⟨x,H1,I1,r1,a,ep,kvs,ex,he,q⟩:=zz;subst ex;cases r1;obtain ⟨z,hd,xs,rel,dd⟩:=cm I1.hok he;refine qS hd dd ?_;refine ⟨s1.heap.objs.size,[s1.heap.objs.size],_,_,H1,rfl,I1.kept (t':=s1.toks) fun b o e=>BT _ e,ux a _ ep kvs,⟨_,Ch _ rfl,rfl,by rw [rel.length];rfl⟩,fun b hb=>?_,q⟩;cases (FM.mp hb);exact I1.gM (Gd _) (I1.hok.fresh (Gd _))
noncomputable def EF (td ty:TE):TE:=fun σ H Q=>td σ H fun x H1=>ty σ H1 fun y H2=>∃a b ep kvs k v,x=.ref a∧y=.ref b∧H2 a=some (PD a ep kvs)∧dJ H2 kvs∧dI H2 k b∧cQ kvs k=some v∧Q v H2
theorem zG (hu:X.A.units+9<cLine) (ho:PE X o td) (hi:PE X i ty) (hs:qu i):PE X (.Subscript o i pos) (EF td ty):=by
 intro pins s σ H Q I h;refine Af PySem.F.slot_dict_getitem.lookup hs (thn (ho pins s σ H _ I h) fun u s1 ⟨x,H1,I1,rx,q1⟩=>thn (hi pins s1 σ H1 _ I1 q1) fun iv s2 zz=>?_);obtain ⟨y,H2,I2,ry,a,b,ep,kvs,k,v,ex,ey,he,ks,kb,l,q2⟩:=zz;subst ex ey;obtain rfl:u=Value.ref a:=rx;obtain rfl:iv=Value.ref b:=ry;obtain ⟨_,_,xs,_,dd⟩:=cm I2.hok he;exact ⟨dd.typeIs,tO hu I2 he ks kb l fun w' s3 I3 rw'=>⟨v,H2,I3,rw',q2⟩⟩
noncomputable def C6 (td ty:TE):TE:=fun σ H Q=>td σ H fun x H1=>∃a ep kvs,x=.ref a∧H1 a=some (PD a ep kvs)∧ty σ H1 fun y H2=>∃b k,y=.ref b∧H2 a=some (PD a ep kvs)∧dJ H2 kvs∧dI H2 k b∧Q ((cQ kvs k).getD .non) H2
theorem v_ (hu:X.A.units+9<cLine) (ho:PE X o td) (he:PE X e ty) (m:M1 X o "get" apos e cpos):PE X (.Call (.Attribute o "get" apos) [e] [] cpos) (C6 td ty):=by
 intro pins s σ H Q I h;refine wpAny_Call_method m.base m.few m.line PySem.F.plainAttrs_dict PySem.F.slot_dict_get PySem.F.type_dict_get (thn (ho pins s σ H _ I h) fun u s1 zz=>?_);obtain ⟨x,H1,I1,rx,a,ep,kvs,ex,hx,q1⟩:=zz;subst ex;obtain rfl:u=Value.ref a:=rx;obtain ⟨_,_,xs,_,dd⟩:=cm I1.hok hx;refine ⟨dd.typeIs,fun b q=>?_,?_⟩
 ·cases q;obtain ⟨ob,_,h1,h2,_⟩:=dd;exact ⟨ob,h1,h2.2.1⟩
 rw [m.trees];refine Calls.callWith_builtin rfl (Calls.evalArgs_plain (Calls.spliced_cons (thn (he pins s1 σ H1 _ I1 q1) fun iv s2 ⟨y,H2,I2,ry,b,k,ey,hx2,ks,kb,q2⟩=>Calls.spliced_nil ?_)));subst ey;obtain rfl:iv=Value.ref b:=ry;exact Ei hu I2 hx2 ks kb fun w' s3 I3 rw'=>⟨_,H2,I3,rw',q2⟩
noncomputable def Eu (td ty tv:TE):TS:=fun D σ H=>tv σ H fun v H1=>td σ H1 fun x H2=>ty σ H2 fun y H3=>∃a b ep kvs k,x=.ref a∧y=.ref b∧H3 a=some (PD a ep kvs)∧dJ H3 kvs∧dI H3 k b∧kvs.length<sizeLine∧∀ep',D.nx σ (upd H3 a (PD a ep' (fV kvs k b v)))
theorem zT (hu:X.A.units+9<cLine) (ho:PE X o td) (hi:PE X i ty) (hv:PE X value tv) (hs:swapsWith value (some (.Subscript o i pos')) pos.line X.env=pure false):PS X (.Assign [.Subscript o i pos'] value pos) (Eu td ty tv):=by
 intro pins s σ H D I h;refine wpAny_Assign_Subscript (thn (hv pins s σ H _ I h) fun r s1 ⟨v,H1,I1,rv,q1⟩=>thn (ho pins s1 σ H1 _ I1 q1) fun u s2 ⟨x,H2,I2,rx,q2⟩=>thn (hi pins s2 σ H2 _ I2 q2) fun iv s3 zz=>?_) hs;obtain ⟨y,H3,I3,ry,a,b,ep,kvs,k,ex,ey,he,ks,kb,hl,q3⟩:=zz;subst ex ey;obtain rfl:u=Value.ref a:=rx;obtain rfl:iv=Value.ref b:=ry;exact tP hu I3 he ks kb hl rv fun s4 ep' I4=>⟨σ,_,I4,q3 ep'⟩
noncomputable def EG:TE:=fun _ H Q=>∀p,H p=none->Q (.ref p) (upd H p (PD p 0 []))
theorem zH:PE X (.Dict [] [] pos) EG:=fun pins s σ H Q I h=>
 wpAny_Dict_empty ⟨.ref s.heap.objs.size,_,I.laid (a:=s.heap.objs.size) (o:=PD s.heap.objs.size 0 []) (t':=s.toks) (fun _ _ q=>BT _ q) (Gd _)
  (kJ (Nat.zero_le _) (beq_eq_false_iff_ne.mpr (Ne.symm (Gc I.big))) (xs:=[]) .nil (aA.new s.heap)),rfl,h _ (I.hok.fresh (Gd _))⟩
theorem qB:dw X (.type "dict") (fun vs H Q=>∃a ep kvs,vs=[.ref a]∧H a=some (PD a ep kvs)∧dJ H kvs∧(kvs.map fun p=>p.1.hs).Nodup∧∀p ep',H p=none->Q (.ref p) (upd H p (PD p ep' kvs))):=by
 intro pins s σ H xs us Q I r ⟨a,ep,kvs,ex,he,ks,hh,q⟩;subst ex;cases r with
 |cons r t=>
  cases t;cases r;exact Ck I he ks hh fun p ep' s' hp I'=>⟨.ref p,_,I',rfl,q p ep' hp⟩
end
set_option autoImplicit true
set_option relaxedAutoImplicit true
inductive D where
 |non|bl (b:Bool)|int (i:Int)|str (x:Str)|tup (xs:List D)|lst (xs:List D)|ins (C:Addr) (fs:List (Str×D))|exc (C:Addr) (fs:List (Str×D))
 |ty (n:String)|cl (C:Addr)
 |dct (kvs:List (D×D))|pdc (es:List (PK×D))
mutual
noncomputable def PK.d:PK->D
 |.i n=>.int n
 |.t l=>.tup (PK.dL l)
noncomputable def PK.dL:List PK->List D
 |[]=>[]
 |k::ks=>PK.d k::PK.dL ks
end
noncomputable def Fl:Key->D
 |.inl i=>.int i
 |.inr x=>.str x
noncomputable abbrev Ad:=Addr->Prop
noncomputable def SqK (K:PySem.W.Frag) (a:Addr) (xs:List V):Prop:=
 ∃(o:Obj) (its:Array Value) (n:Nat),K.lookup a=some o∧o.cls=.type "list"∧o.dict=none∧o.data=.seq its n∧its.size<=sizeLine∧Vals xs its.toList
mutual
inductive Rds (K:PySem.W.Frag) (H:Hp) (S:Ad):D->V->Prop
 |non:Rds K H S .non .non
 |bl (b:Bool):Rds K H S (.bl b) (.bl b)
 |int (i:Int):Rds K H S (.int i) (.int i)
 |str (x:Str):Rds K H S (.str x) (.str x)
 |ty (n:String):Rds K H S (.ty n) (.ty n)
 |cl (C:Addr):Rds K H S (.cl C) (.ref C)
 |tup {a:Addr} {vs:List V} {xs:List D}:H a=some (.tup vs)->¬S a->ag K H S xs vs->Rds K H S (.tup xs) (.ref a)
 |lst {a:Addr} {vs:List V} {xs:List D}:Rd H a (.lst vs)->¬S a->ag K H S xs vs->Rds K H S (.lst xs) (.ref a)
 |lstK {a:Addr} {vs:List V} {xs:List D}:SqK K a vs->ag K H S xs vs->Rds K H S (.lst xs) (.ref a)
 |ins {a C dx:Addr} {fs:List (Str×D)} {gs:List (Str×V)}:H a=some (.ins C dx gs)->¬S a->aP K H S fs gs->Rds K H S (.ins C fs) (.ref a)
 |jJ {fr:Bool} {a C:Addr}:H a=some (bg fr a C none)->¬S a->Rds K H S (.exc C []) (.ref a)
 |exc {fr:Bool} {a C dx:Addr} {fs:List (Str×D)} {gs:List (Str×V)}:H a=some (bg fr a C (some dx))->H dx=some (uJ dx gs)->¬S a->¬S dx->aP K H S fs gs->Rds K H S (.exc C fs) (.ref a)
 |dK {a:Addr} {kvs:List (Key×V)} {es:List (D×D)}:H a=some (.dK kvs)->¬S a->es.map (·.1)=kvs.map (fun p=>Fl p.1)->ag K H S (es.map (·.2)) (kvs.map (·.2))->Rds K H S (.dct es) (.ref a)
 |dP {a:Addr} {ep:Nat} {kvs:List (PK×Addr×V)} {es:List (PK×D)}:H a=some (PD a ep kvs)->¬S a->au K H S es kvs->Rds K H S (.pdc es) (.ref a)
inductive ag (K:PySem.W.Frag) (H:Hp) (S:Ad):List D->List V->Prop
 |nil:ag K H S [] []
 |cons {d:D} {v:V} {ds:List D} {vs:List V}:Rds K H S d v->ag K H S ds vs->ag K H S (d::ds) (v::vs)
inductive au (K:PySem.W.Frag) (H:Hp) (S:Ad):List (PK×D)->List (PK×Addr×V)->Prop
 |nil:au K H S [] []
 |cons {k:PK} {a:Addr} {d:D} {v:V} {ds:List (PK×D)} {vs:List (PK×Addr×V)}:k.dp<=8->Rds K H S (PK.d k) (.ref a)->Rds K H S d v->au K H S ds vs->au K H S ((k,d)::ds) ((k,a,v)::vs)
inductive aP (K:PySem.W.Frag) (H:Hp) (S:Ad):List (Str×D)->List (Str×V)->Prop
 |nil:aP K H S [] []
 |cons {n:Str} {d:D} {v:V} {ds:List (Str×D)} {vs:List (Str×V)}:Rds K H S d v->aP K H S ds vs->aP K H S ((n,d)::ds) ((n,v)::vs)
end
noncomputable def Ext (S:Ad) (H H':Hp):Prop:=∀a o,¬S a->H a=some o->H' a=some o
noncomputable abbrev no:Ad:=fun _=>False
noncomputable abbrev aI (H H':Hp):Prop:=Ext no H H'
theorem Ext.refl:Ext S H H:=fun _ _ _ e=>e
theorem Ext.trans (a:Ext S H H1) (b:Ext S H1 H2):Ext S H H2:=fun c o n e=>b c o n (a c o n e)
theorem Ext.to (e:aI H H') (S:Ad):Ext S H H':=fun a o _ h=>e a o (fun z=>z) h
theorem Ext.new (hp:H p=none):aI H (upd H p o):=fun a u _ e=>by rw [ah (aC e hp)];exact e
theorem Ext.set (hp:S p):Ext S H (upd H p o):=fun a u n e=>by rw [ah (fun z:a=p=>n (by rw [z];exact hp))];exact e
theorem Ext.ne (e:aI H H') (h:H a≠none):H' a≠none:=by
 cases q:H a with
 |none=>exact absurd q h
 |some o=>rw [e a o (fun z=>z) q];intro z;cases z
theorem Rd.ext (e:Ext S H H') (n:¬S a) (r:Rd H a u):Rd H' a u:=r.elim (fun z=>.inl (e _ _ n z)) fun ⟨o,z⟩=>.inr ⟨o,e _ _ n z⟩
section
variable {K:PySem.W.Frag} {H H':Hp} {S S':Ad}
mutual
theorem Rds.ext (e:Ext S H H'):∀{d:D} {v:V},Rds K H S d v->Rds K H' S d v
 |_,_,.non=>.non
 |_,_,.bl b=>.bl b
 |_,_,.int i=>.int i
 |_,_,.str x=>.str x
 |_,_,.ty n=>.ty n
 |_,_,.cl C=>.cl C
 |_,_,.tup h n r=>.tup (e _ _ n h) n (ag.ext e r)
 |_,_,.lst h n r=>.lst (CT.Rd.ext e n h) n (ag.ext e r)
 |_,_,.lstK h r=>.lstK h (ag.ext e r)
 |_,_,.ins h n r=>.ins (e _ _ n h) n (aP.ext e r)
 |_,_,.jJ h n=>.jJ (e _ _ n h) n
 |_,_,.exc h h2 n n2 r=>.exc (e _ _ n h) (e _ _ n2 h2) n n2 (aP.ext e r)
 |_,_,.dK h n k r=>.dK (e _ _ n h) n k (ag.ext e r)
 |_,_,.dP h n r=>.dP (e _ _ n h) n (au.ext e r)
theorem au.ext (e:Ext S H H'):∀{ds:List (PK×D)} {vs:List (PK×Addr×V)},au K H S ds vs->au K H' S ds vs
 |_,_,.nil=>.nil
 |_,_,.cons p k r t=>.cons p (Rds.ext e k) (Rds.ext e r) (au.ext e t)
theorem ag.ext (e:Ext S H H'):∀{ds:List D} {vs:List V},ag K H S ds vs->ag K H' S ds vs
 |_,_,.nil=>.nil
 |_,_,.cons r t=>.cons (Rds.ext e r) (ag.ext e t)
theorem aP.ext (e:Ext S H H'):∀{ds:List (Str×D)} {vs:List (Str×V)},aP K H S ds vs->aP K H' S ds vs
 |_,_,.nil=>.nil
 |_,_,.cons r t=>.cons (Rds.ext e r) (aP.ext e t)
end
mutual
theorem Rds.av (e:∀a,S' a->S a∨H a=none):∀{d:D} {v:V},Rds K H S d v->Rds K H S' d v
 |_,_,.non=>.non
 |_,_,.bl b=>.bl b
 |_,_,.int i=>.int i
 |_,_,.str x=>.str x
 |_,_,.ty n=>.ty n
 |_,_,.cl C=>.cl C
 |_,_,.tup h n r=>.tup h (fun z=>(e _ z).elim n fun q=>by rw [h] at q;cases q) (ag.av e r)
 |_,_,.lst h n r=>.lst h (fun z=>(e _ z).elim n fun q=>by rcases h with h|⟨_,h⟩<;>(rw [h] at q;cases q)) (ag.av e r)
 |_,_,.lstK h r=>.lstK h (ag.av e r)
 |_,_,.ins h n r=>.ins h (fun z=>(e _ z).elim n fun q=>by rw [h] at q;cases q) (aP.av e r)
 |_,_,.jJ h n=>.jJ h (fun z=>(e _ z).elim n fun q=>by rw [h] at q;cases q)
 |_,_,.exc h h2 n n2 r=>.exc h h2 (fun z=>(e _ z).elim n fun q=>by rw [h] at q;cases q) (fun z=>(e _ z).elim n2 fun q=>by rw [h2] at q;cases q) (aP.av e r)
 |_,_,.dK h n k r=>.dK h (fun z=>(e _ z).elim n fun q=>by rw [h] at q;cases q) k (ag.av e r)
 |_,_,.dP h n r=>.dP h (fun z=>(e _ z).elim n fun q=>by rw [h] at q;cases q) (au.av e r)
theorem au.av (e:∀a,S' a->S a∨H a=none):∀{ds:List (PK×D)} {vs:List (PK×Addr×V)},au K H S ds vs->au K H S' ds vs
 |_,_,.nil=>.nil
 |_,_,.cons p k r t=>.cons p (Rds.av e k) (Rds.av e r) (au.av e t)
theorem ag.av (e:∀a,S' a->S a∨H a=none):∀{ds:List D} {vs:List V},ag K H S ds vs->ag K H S' ds vs
 |_,_,.nil=>.nil
 |_,_,.cons r t=>.cons (Rds.av e r) (ag.av e t)
theorem aP.av (e:∀a,S' a->S a∨H a=none):∀{ds:List (Str×D)} {vs:List (Str×V)},aP K H S ds vs->aP K H S' ds vs
 |_,_,.nil=>.nil
 |_,_,.cons r t=>.cons (Rds.av e r) (aP.av e t)
end
theorem ag.length:∀{ds:List D} {vs:List V},ag K H S ds vs->ds.length=vs.length
 |_,_,.nil=>rfl
 |_,_,.cons _ t=>by rw [List.length_cons,List.length_cons,ag.length t]
theorem ag.get:∀{ds:List D} {vs:List V} {i:Nat} {d:D},ag K H S ds vs->ds[i]?=some d->∃v,vs[i]?=some v∧Rds K H S d v
 |_,_,0,_,.cons r _,e=>by simp at e;subst e;exact ⟨_,rfl,r⟩
 |_,_,i+1,_,.cons _ t,e=>by
  obtain ⟨v,h1,h2⟩:=ag.get (i:=i) t (by simpa using e);exact ⟨v,by simpa using h1,h2⟩
theorem ag.app:∀{ds es:List D} {vs us:List V},ag K H S ds vs->ag K H S es us->ag K H S (ds++es) (vs++us)
 |_,_,_,_,.nil,s=>s
 |_,_,_,_,.cons r t,s=>.cons r (ag.app t s)
theorem ag.rep (r:Rds K H S d v):∀n:Nat,ag K H S (List.replicate n d) (List.replicate n v)
 |0=>.nil
 |n+1=>.cons r (ag.rep r n)
theorem aP.look:∀{ds:List (Str×D)} {vs:List (Str×V)} {d:D},aP K H S ds vs->ds.lookup f=some d->∃v,vs.lookup f=some v∧Rds K H S d v
 |(n,x)::r,_,d,.cons q t,e=>by
  rw [List.lookup_cons] at e ⊢;cases hb:f==n with
  |true=>rw [hb] at e;cases e;exact ⟨_,rfl,q⟩
  |false=>rw [hb] at e;exact aP.look t e
theorem aP.none:∀{ds:List (Str×D)} {vs:List (Str×V)},aP K H S ds vs->ds.lookup f=none->vs.lookup f=none
 |[],_,.nil,_=>rfl
 |(n,x)::r,_,.cons q t,e=>by
  rw [List.lookup_cons] at e ⊢;cases hb:f==n with
  |true=>rw [hb] at e;cases e
  |false=>rw [hb] at e;exact aP.none t e
theorem Rds.bh (r:Rds K H S (.int i) v):v=.int i:=by cases r;rfl
theorem Rds.blV (r:Rds K H S (.bl b) v):v=.bl b:=by cases r;rfl
theorem Rds.rC (r:Rds K H S .non v):v=.non:=by cases r;rfl
theorem Rds.cC (r:Rds K H S (.tup xs) v):∃a vs,v=.ref a∧H a=some (.tup vs)∧ag K H S xs vs:=by cases r with|tup h n r=>exact ⟨_,_,rfl,h,r⟩
theorem Rds.lA (r:Rds K H S (.lst xs) v):∃a vs,v=.ref a∧SqL K H a vs∧ag K H S xs vs:=by
 cases r with
 |lst h n r=>exact ⟨_,_,rfl,.inl h,r⟩
 |lstK h r=>exact ⟨_,_,rfl,.inr h,r⟩
theorem Rds.iF (r:Rds K H S (.ins C fs) v):∃a dx gs,v=.ref a∧H a=some (.ins C dx gs)∧aP K H S fs gs:=by cases r with|ins h n r=>exact ⟨_,_,_,rfl,h,r⟩
theorem ag.one (r:ag K H S [d] vs):∃v,vs=[v]∧Rds K H S d v:=by cases r with|cons r t=>cases t;exact ⟨_,rfl,r⟩
theorem ag.two (r:ag K H S [d,e] vs):∃v u,vs=[v,u]∧Rds K H S d v∧Rds K H S e u:=by
 cases r with|cons r t=>obtain ⟨u,rfl,q⟩:=t.one;exact ⟨_,_,rfl,r,q⟩
noncomputable def Dom (H:Hp) (S:Ad):Prop:=∀a,S a->H a≠none
theorem Dom.ext (d:Dom H S) (e:aI H H'):Dom H' S:=fun a h=>e.ne (d a h)
theorem Dom.not (d:Dom H S) (hp:H p=Option.none):¬S p:=fun z=>d p z hp
theorem Rds.gi (dm:Dom H S) (hp:H p=Option.none) (r:ag K H S xs vs):Rds K (upd H p (.tup vs)) S (.tup xs) (.ref p):=.tup aD (dm.not hp) (r.ext ((Ext.new hp).to S))
theorem Rds.oE (dm:Dom H S) (hp:H p=Option.none) (r:ag K H S xs vs):Rds K (upd H p (.lst vs)) S (.lst xs) (.ref p):=.lst (.inl aD) (dm.not hp) (r.ext ((Ext.new hp).to S))
end
inductive Ow where
 |l (xs:List D)|d (es:List (PK×D))
noncomputable def Ow.D:Ow->D
 |.l xs=>.lst xs
 |.d es=>.pdc es
noncomputable def cM (K:PySem.W.Frag) (H:Hp) (S:Ad) (a:Addr):Ow->HO->Prop
 |.l xs,o=>∃vs,o=.lst vs∧ag K H S xs vs
 |.d es,o=>∃ep kvs,o=PD a ep kvs∧au K H S es kvs
inductive Sl where
 |nil|any|val (d:D)|owx (c:Ow)|new (C x dx:Addr) (fs:List (Str×D))
noncomputable abbrev Sl.own (xs:List D):Sl:=.owx (.l xs)
noncomputable abbrev Sl.odc (es:List (PK×D)):Sl:=.owx (.d es)
section
variable {K:PySem.W.Frag} {H H':Hp} {S S':Ad} {a:Addr} {c:Ow} {o:HO}
theorem cM.ext (e:Ext S H H') (h:cM K H S a c o):cM K H' S a c o:=by
 cases c with
 |l xs=>obtain ⟨vs,q,r⟩:=h;exact ⟨vs,q,r.ext e⟩
 |d es=>obtain ⟨ep,vs,q,r⟩:=h;exact ⟨ep,vs,q,r.ext e⟩
theorem cM.av (e:∀a,S' a->S a∨H a=none) (h:cM K H S a c o):cM K H S' a c o:=by
 cases c with
 |l xs=>obtain ⟨vs,q,r⟩:=h;exact ⟨vs,q,r.av e⟩
 |d es=>obtain ⟨ep,vs,q,r⟩:=h;exact ⟨ep,vs,q,r.av e⟩
theorem cM.rds (h:cM K H S a c o) (ha:H a=some o) (n:¬S a):Rds K H S c.D (.ref a):=by
 cases c with
 |l xs=>obtain ⟨vs,rfl,r⟩:=h;exact .lst (.inl ha) n r
 |d es=>obtain ⟨ep,vs,rfl,r⟩:=h;exact .dP ha n r
theorem cM.sort (h:cM K H S a c o):(∃vs,o=.lst vs)∨∃ep kvs,o=PD a ep kvs:=by
 cases c with
 |l xs=>obtain ⟨vs,rfl,r⟩:=h;exact .inl ⟨vs,rfl⟩
 |d es=>obtain ⟨ep,vs,rfl,r⟩:=h;exact .inr ⟨ep,vs,rfl⟩
end
noncomputable abbrev Rho:=List Sl
noncomputable def Sl.dU:Sl->Prop
 |.owx _=>True|.new _ _ _ _=>True|_=>False
noncomputable def RO (K:PySem.W.Frag) (H:Hp) (S:Ad):Sl->Option V->Prop
 |.nil,v=>v=none
 |.any,_=>True
 |.val d,v=>∃u,v=some u∧Rds K H S d u
 |.owx c,v=>∃a o,v=some (.ref a)∧S a∧H a=some o∧cM K H S a c o
 |.new C x dx fs,v=>∃gs,v=some (.ref x)∧S x∧H x=some (.ins C dx gs)∧aP K H S fs gs
theorem RO.ext {K:PySem.W.Frag} {H H':Hp} {S:Ad} (e:aI H H'):∀{x:Sl} {v:Option V},RO K H S x v->RO K H' S x v
 |.nil,_,h=>h
 |.any,_,_=>trivial
 |.val _,_,⟨u,h,r⟩=>⟨u,h,r.ext (e.to S)⟩
 |.owx _,_,⟨a,vs,h,s,o,r⟩=>⟨a,vs,h,s,e _ _ (fun z=>z) o,r.ext (e.to S)⟩
 |.new _ _ _ _,_,⟨gs,h,s,o,r⟩=>⟨gs,h,s,e _ _ (fun z=>z) o,r.ext (e.to S)⟩
structure VE (K:PySem.W.Frag) (H:Hp) (S:Ad) (ρ:Rho) (σ:St):Prop where
 len:ρ.length=σ.length
 rel:∀(i:Nat) (x:Sl),ρ[i]?=some x->∃v,σ[i]?=some v∧RO K H S x v
 dist:∀(i j:Nat) (x y:Sl) (a:Addr),i≠j->ρ[i]?=some x->ρ[j]?=some y->x.dU->y.dU->σ[i]?=some (some (.ref a))->σ[j]?≠some (some (.ref a))
 dom:Dom H S
section
variable {K:PySem.W.Frag} {H H':Hp} {S:Ad} {ρ:Rho} {σ:St} {i:Nat}
theorem VE.ext (v:VE K H S ρ σ) (e:aI H H'):VE K H' S ρ σ:=⟨v.len,fun i x h=>let ⟨u,h1,h2⟩:=v.rel i x h;⟨u,h1,h2.ext e⟩,v.dist,v.dom.ext e⟩
theorem VE.get (v:VE K H S ρ σ) (h:ρ[i]?=some (.val d)):∃u,σ[i]?=some (some u)∧Rds K H S d u:=by
 obtain ⟨w,h1,u,rfl,r⟩:=v.rel i _ h;exact ⟨u,h1,r⟩
theorem VE.set (v:VE K H S ρ σ) (r:Rds K H S d u):VE K H S (ρ.set i (.val d)) (σ.set i (some u)):=by
 refine ⟨by simpa using v.len,fun j x h=>?_,fun j k x y a hjk h1 h2 o1 o2 h3=>?_,v.dom⟩
 ·by_cases hj:i=j
  ·subst hj;have hi:i<ρ.length:=by
    have:=(FS.mp h).1;simpa using this
   rw [F3 hi] at h;cases h;exact ⟨some u,F3 (v.len▸hi),u,rfl,r⟩
  ·rw [F4 hj] at h ⊢;exact v.rel j x h
 ·have n1:i≠j:=fun z=>by
   subst z;have hi:=(FS.mp h1).1;rw [F3 (by simpa using hi)] at h1;cases h1;exact o1
  have n2:i≠k:=fun z=>by
   subst z;have hi:=(FS.mp h2).1;rw [F3 (by simpa using hi)] at h2;cases h2;exact o2
  rw [F4 n1] at h1 h3;rw [F4 n2] at h2 ⊢;exact v.dist j k x y a hjk h1 h2 o1 o2 h3
theorem VE.unset (v:VE K H S ρ σ) (h:ρ[i]?=some .nil):σ[i]?=some none:=by
 obtain ⟨w,h1,rfl⟩:=v.rel i _ h;exact h1
end
noncomputable def tD (K:PySem.W.Frag) (ρ:Rho) (d:D):TE:=fun σ H Q=>∃S,VE K H S ρ σ∧∀v H',aI H H'->Rds K H' S d v->Q v H'
noncomputable def tDT (K:PySem.W.Frag) (ρ:Rho) (b:Bool):TT:=fun σ H Q=>∃S,VE K H S ρ σ∧∀H',aI H H'->Q b H'
noncomputable def tDA (K:PySem.W.Frag) (ρ:Rho) (ds:List D):TA:=fun σ H Q=>∃S,VE K H S ρ σ∧∀vs H',aI H H'->ag K H' S ds vs->Q vs H'
noncomputable def DE (X:Cx) (ρ:Rho) (e:Expr) (d:D):Prop:=PE X e (tD X.K ρ d)
noncomputable def DT (X:Cx) (ρ:Rho) (e:Expr) (b:Bool):Prop:=PT X e (tDT X.K ρ b)
noncomputable def DW (X:Cx) (ρ:Rho) (e:Expr) (b:Bool):Prop:=PW X e (tDT X.K ρ b)
noncomputable def DA (X:Cx) (ρ:Rho) (es:List Expr) (ds:List D):Prop:=PA X es (tDA X.K ρ ds)
section
variable {X:Cx}
theorem PE.weak (h:PE X e t) (w:∀σ H Q,t' σ H Q->t σ H Q):PE X e t':=fun pins s σ H Q I q=>h pins s σ H Q I (w σ H Q q)
theorem PT.weak (h:PT X e t) (w:∀σ H Q,t' σ H Q->t σ H Q):PT X e t':=fun pins s σ H Q I q=>h pins s σ H Q I (w σ H Q q)
theorem PW.weak (h:PW X e t) (w:∀σ H Q,t' σ H Q->t σ H Q):PW X e t':=fun wh pins s σ H Q I q=>h wh pins s σ H Q I (w σ H Q q)
theorem PA.weak (h:PA X es t) (w:∀σ H Q,t' σ H Q->t σ H Q):PA X es t':=fun pos pins s σ H Q I q=>h pos pins s σ H Q I (w σ H Q q)
theorem PS.weak {st:Stmt} {t t':TS} (h:PS X st t) (w:∀D σ H,t' D σ H->t D σ H):PS X st t':=fun pins s σ H D I q=>h pins s σ H D I (w D σ H q)
theorem PSs.weak {st:List Stmt} {t t':TS} (h:PSs X st t) (w:∀D σ H,t' D σ H->t D σ H):PSs X st t':=fun pins s σ H D I q=>h pins s σ H D I (w D σ H q)
variable {ρ:Rho} {a b c e:Expr} {pos:Pos} {d da db dc:D}
theorem nQ {i:Nat} {x:Str} (hN:X.N[i]?=some x) (hv:Vis X.env.scope x) (hr:ρ[i]?=some (.val d)) (hd: ~~~((x==("__debug__":Str))=false)) (hcd: ~~~((x==("__classdict__":Str))=false)):DE X ρ (.Name x pos) d:=
 PE.weak (fC hN hv hd hcd) fun σ H Q ⟨S,ve,k⟩=>let ⟨u,h1,r⟩:=ve.get hr;⟨u,h1,k u H Ext.refl r⟩
theorem AX {j}:DE X ρ (.Constant (.int i) j pos) (.int i):=PE.weak Cq fun σ H Q ⟨S,ve,k⟩=>k _ H Ext.refl (.int i)
theorem wU {j}:DE X ρ (.Constant (.bool q) j pos) (.bl q):=PE.weak Ej fun σ H Q ⟨S,ve,k⟩=>k _ H Ext.refl (.bl q)
theorem iz {j}:DE X ρ (.Constant .none j pos) .non:=PE.weak Cr fun σ H Q ⟨S,ve,k⟩=>k _ H Ext.refl .non
theorem A8 {j}:DE X ρ (.Constant (.str x) j pos) (.str x):=PE.weak Cu fun σ H Q ⟨S,ve,k⟩=>k _ H Ext.refl (.str x)
theorem DU (hg:Gl X x) (hm:X.mg x=none) (hv:bootBuiltins x=some (.type n)) (hn: ~~~(x≠"__name__")) (hd: ~~~((x==("__debug__":Str))=false)):DE X ρ (.Name x pos) (.ty n):=
 PE.weak (zC hg hm hv (v:=.ty n) rfl hn hd) fun σ H Q ⟨S,ve,k⟩=>k _ H Ext.refl (.ty n)
theorem DR (hg:Gl X x) (hm:X.mg x=some (.ref C)) (hd: ~~~((x==("__debug__":Str))=false)):DE X ρ (.Name x pos) (.cl C):=
 PE.weak (qd hg hm (v:=.ref C) rfl hd) fun σ H Q ⟨S,ve,k⟩=>k _ H Ext.refl (.cl C)
theorem u_ (hg:Gl X x) (hm:X.mg x=some (.int i t)) (hd: ~~~((x==("__debug__":Str))=false)):DE X ρ (.Name x pos) (.int i):=
 PE.weak (qd hg hm (v:=.int i) ⟨t,rfl⟩ hd) fun σ H Q ⟨S,ve,k⟩=>k _ H Ext.refl (.int i)
noncomputable def R2D (K:PySem.W.Frag) (r:R2) (da db d:D):Prop:=∀(x y:V) (H:Hp) (S:Ad) (Q:VK),Rds K H S da x->Rds K H S db y->Dom H S->(∀v H',aI H H'->Rds K H' S d v->Q v H')->r x y H Q
theorem oG (h:R2D X.K r da db d) (σ:St) (H:Hp) (Q:VK) (q:tD X.K ρ d σ H Q):tOp r (tD X.K ρ da) (tD X.K ρ db) σ H Q:=by
 obtain ⟨S,ve,k⟩:=q;exact ⟨S,ve,fun x H1 e1 r1=>⟨S,ve.ext e1,fun y H2 e2 r2=>h x y H2 S Q (r1.ext (e2.to S)) r2 ((ve.ext e1).ext e2).dom fun v H' e3 r3=>k v H' (e1.trans (e2.trans e3)) r3⟩⟩
theorem dC (ho:OpR X (binaryOp op) r) (h:R2D X.K r da db d) (ha:DE X ρ a da) (hb:DE X ρ b db):DE X ρ (.BinOp a op b pos) d:=PE.weak (Ek ho ha hb) (oG h)
theorem nP (ho:OpR X (compareOp op) r) (h:R2D X.K r da db d) (ha:DE X ρ a da) (hb:DE X ρ b db) (hm:behindInMarks op b=false):DE X ρ (.Compare a [op] [b] pos) d:=PE.weak (zD ho ha hb hm) (oG h)
theorem Ag (h:∀σ H Q,tD X.K ρ (.bl q) σ H Q->te σ H Q) (σ:St) (H:Hp) (Q:Bool->Hp->Prop) (w:tDT X.K ρ q σ H Q):tB te σ H Q:=by
 obtain ⟨S,ve,k⟩:=w;exact h σ H _ ⟨S,ve,fun v H' e r=>⟨q,r.blV,k H' e⟩⟩
theorem nW (ho:OpR X (compareOp op) r) (h:R2D X.K r da db (.bl q)) (ha:DE X ρ a da) (hb:DE X ρ b db) (hm:behindInMarks op b=false):DT X ρ (.Compare a [op] [b] pos) q:=by
 refine PT.weak (zW ho ha hb hm) fun σ H Q w=>?_;obtain ⟨S,ve,k⟩:=w;exact oG h σ H _ ⟨S,ve,fun v H' e r=>by rw [r.blV];exact ⟨q,rfl,k H' e⟩⟩
theorem iB (h:DE X ρ e (.bl q)) (he:∀whole,isTrue e X.env whole=(do let v←whole;standAt e.pos;holding [v] (truthy v)):=by intro _;rfl):DT X ρ e q:=PT.weak (CJ h he) (Ag fun _ _ _ w=>w)
theorem CN {i j:Int} {K:PySem.W.Frag}:R2D K (rI0 fun i j=>.int (i+j)) (.int i) (.int j) (.int (i+j)):=fun x y H S Q rx ry dm k=>⟨i,j,rx.bh,ry.bh,k _ H Ext.refl (.int _)⟩
theorem CU {i j:Int} {K:PySem.W.Frag}:R2D K (rI0 fun i j=>.int (i - j)) (.int i) (.int j) (.int (i - j)):=fun x y H S Q rx ry dm k=>⟨i,j,rx.bh,ry.bh,k _ H Ext.refl (.int _)⟩
theorem CQ {i j:Int} {K:PySem.W.Frag} (h:jt i j):R2D K (rI jt fun i j=>.int (i*j)) (.int i) (.int j) (.int (i*j)):=fun x y H S Q rx ry dm k=>⟨i,j,rx.bh,ry.bh,h,k _ H Ext.refl (.int _)⟩
theorem CP {i j:Int} {K:PySem.W.Frag} (h:0<j):R2D K (rI (fun _ j=>0<j) fun i j=>.int (i%j)) (.int i) (.int j) (.int (i%j)):=fun x y H S Q rx ry dm k=>⟨i,j,rx.bh,ry.bh,h,k _ H Ext.refl (.int _)⟩
theorem zZ {i j:Int} {K:PySem.W.Frag} (h:qr i j):R2D K (rI qr fun i j=>.int (i / j)) (.int i) (.int j) (.int (i / j)):=fun x y H S Q rx ry dm k=>⟨i,j,rx.bh,ry.bh,h,k _ H Ext.refl (.int _)⟩
theorem kO {i j:Int} {K:PySem.W.Frag} {g:Int->Int->Bool}:R2D K (rI0 fun i j=>.bl (g i j)) (.int i) (.int j) (.bl (g i j)):=fun x y H S Q rx ry dm k=>⟨i,j,rx.bh,ry.bh,k _ H Ext.refl (.bl _)⟩
theorem AU (ha:DE X ρ a (.int i)) (hb:DE X ρ b (.int j)):DE X ρ (.BinOp a .Add b pos) (.int (i+j)):=dC Ca CN ha hb
theorem A9 (ha:DE X ρ a (.int i)) (hb:DE X ρ b (.int j)):DE X ρ (.BinOp a .Sub b pos) (.int (i - j)):=dC Cj CU ha hb
theorem A4 (h:jt i j) (ha:DE X ρ a (.int i)) (hb:DE X ρ b (.int j)):DE X ρ (.BinOp a .Mult b pos) (.int (i*j)):=dC Cf (CQ h) ha hb
theorem A3 (h:0<j) (ha:DE X ρ a (.int i)) (hb:DE X ρ b (.int j)):DE X ρ (.BinOp a .Mod b pos) (.int (i%j)):=dC Ce (CP h) ha hb
theorem yr (h:qr i j) (ha:DE X ρ a (.int i)) (hb:DE X ρ b (.int j)):DE X ρ (.BinOp a .FloorDiv b pos) (.int (i / j)):=dC zu (zZ h) ha hb
noncomputable def flat:D->Option V
 |.non=>some .non|.bl b=>some (.bl b)|.int i=>some (.int i)|.str x=>some (.str x)
 |_=>none
theorem kh {K:PySem.W.Frag} {H:Hp} {S:Ad} {d:D} {u v:V} (h:flat d=some u) (r:Rds K H S d v):v=u:=by
 cases r<;>(simp only [flat] at h;first|(cases h;rfl)|cases h)
theorem Ep {K:PySem.W.Frag} {u v:V} (ha:flat da=some u) (hb:flat db=some v) (hs:rE u v=true):R2D K rEq da db (.bl (decide (u=v))):=fun x y H S Q rx ry dm k=>by
 rw [kh ha rx,kh hb ry];exact ⟨hs,k _ H Ext.refl (.bl _)⟩
theorem Er {K:PySem.W.Frag} {u v:V} (ha:flat da=some u) (hb:flat db=some v) (hs:rE u v=true):R2D K rNe da db (.bl (!decide (u=v))):=fun x y H S Q rx ry dm k=>by
 rw [kh ha rx,kh hb ry];exact ⟨hs,k _ H Ext.refl (.bl _)⟩
theorem A5 (ha:DE X ρ a (.int i)):DE X ρ (.UnaryOp .USub a pos) (.int (-i)):=
 PE.weak (Em Di ha) fun σ H Q ⟨S,ve,k⟩=>⟨S,ve,fun v H' e r=>⟨i,r.bh,k _ H' e (.int _)⟩⟩
theorem A7 {op} (h:DE X ρ a d):DE X ρ (.BoolOp op [a] pos) d:=Ct h
theorem sg {p q:Bool} {rest:List Expr} (ha:DE X ρ a (.bl p)) (hb:p=true->DE X ρ (.BoolOp .And (b::rest) pos) (.bl q)):DE X ρ (.BoolOp .And (a::b::rest) pos) (.bl (p&&q)):=by
 cases p with
 |true=>exact PE.weak (tR ha (hb rfl)) fun σ H Q ⟨S,ve,k⟩=>⟨S,ve,fun v H' e r=>⟨true,r.blV,by refine fx ?_;exact ⟨S,ve.ext e,fun v' H'' e' r'=>k v' H'' (e.trans e') r'⟩⟩⟩
 |false=>
  have hn:PE X (.BoolOp .And (b::rest) pos) (fun _ _ _=>False):=fun _ _ _ _ _ _ z=>z.elim;exact PE.weak (tR ha hn) fun σ H Q ⟨S,ve,k⟩=>⟨S,ve,fun v H' e r=>⟨false,r.blV,by refine fT ?_;exact k _ H' e (.bl _)⟩⟩
theorem wW {p q:Bool} {rest:List Expr} (ha:DE X ρ a (.bl p)) (hb:p=false->DE X ρ (.BoolOp .Or (b::rest) pos) (.bl q)):DE X ρ (.BoolOp .Or (a::b::rest) pos) (.bl (p||q)):=by
 cases p with
 |false=>exact PE.weak (xO ha (hb rfl)) fun σ H Q ⟨S,ve,k⟩=>⟨S,ve,fun v H' e r=>⟨false,r.blV,by refine fT ?_;exact ⟨S,ve.ext e,fun v' H'' e' r'=>k v' H'' (e.trans e') r'⟩⟩⟩
 |true=>
  have hn:PE X (.BoolOp .Or (b::rest) pos) (fun _ _ _=>False):=fun _ _ _ _ _ _ z=>z.elim;exact PE.weak (xO ha hn) fun σ H Q ⟨S,ve,k⟩=>⟨S,ve,fun v H' e r=>⟨true,r.blV,by refine fx ?_;exact k _ H' e (.bl _)⟩⟩
theorem A6 (ha:DE X ρ a (.bl p)):DE X ρ (.UnaryOp .Not a pos) (.bl (!p)):=PE.weak (Cs ha) fun σ H Q ⟨S,ve,k⟩=>⟨S,ve,fun v H' e r=>⟨p,r.blV,k _ H' e (.bl _)⟩⟩
theorem Bg (ha:DT X ρ a p):DT X ρ (.UnaryOp .Not a pos) (!p):=PT.weak (CI ha) fun σ H Q ⟨S,ve,k⟩=>⟨S,ve,fun H' e=>k H' e⟩
theorem DW.dt (h:DW X ρ e p):DT X ρ e p:=PW.pt h
theorem yU (ha:DT X ρ a p):DW X ρ (.BoolOp .And [a] pos) p:=zY ha
theorem Bh (ha:DT X ρ a p):DW X ρ (.BoolOp .Or [a] pos) p:=CL ha
theorem sN {p q:Bool} {rest:List Expr} (ha:DT X ρ a p) (hb:p=true->DW X ρ (.BoolOp .And (b::rest) pos) q):DW X ρ (.BoolOp .And (a::b::rest) pos) (p&&q):=by
 cases p with
 |true=>exact PW.weak (uf ha (hb rfl)) fun σ H Q ⟨S,ve,k⟩=>⟨S,ve,fun H' e=>by refine fx ?_;exact ⟨S,ve.ext e,fun H'' e'=>k H'' (e.trans e')⟩⟩
 |false=>
  have hn:PW X (.BoolOp .And (b::rest) pos) (fun _ _ _=>False):=fun _ _ _ _ _ _ _ z=>z.elim;exact PW.weak (uf ha hn) fun σ H Q ⟨S,ve,k⟩=>⟨S,ve,fun H' e=>by refine fT ?_;exact k H' e⟩
theorem wX {p q:Bool} {rest:List Expr} (ha:DT X ρ a p) (hb:p=false->DW X ρ (.BoolOp .Or (b::rest) pos) q):DW X ρ (.BoolOp .Or (a::b::rest) pos) (p||q):=by
 cases p with
 |false=>exact PW.weak (xS ha (hb rfl)) fun σ H Q ⟨S,ve,k⟩=>⟨S,ve,fun H' e=>by refine fT ?_;exact ⟨S,ve.ext e,fun H'' e'=>k H'' (e.trans e')⟩⟩
 |true=>
  have hn:PW X (.BoolOp .Or (b::rest) pos) (fun _ _ _=>False):=fun _ _ _ _ _ _ _ z=>z.elim;exact PW.weak (xS ha hn) fun σ H Q ⟨S,ve,k⟩=>⟨S,ve,fun H' e=>by refine fx ?_;exact k H' e⟩
theorem wV (hc:DT X ρ c p) (ha:p=true->DE X ρ a d) (hb:p=false->DE X ρ b d):DE X ρ (.IfExp c a b pos) d:=by
 have hn:∀e:Expr,PE X e (fun _ _ _=>False):=fun _ _ _ _ _ _ _ z=>z.elim;cases p with
 |true=>exact PE.weak (oI hc (ha rfl) (hn b)) fun σ H Q ⟨S,ve,k⟩=>⟨S,ve,fun H' e=>by refine fx ?_;exact ⟨S,ve.ext e,fun v' H'' e' r'=>k v' H'' (e.trans e') r'⟩⟩
 |false=>exact PE.weak (oI hc (hn a) (hb rfl)) fun σ H Q ⟨S,ve,k⟩=>⟨S,ve,fun H' e=>by refine fT ?_;exact ⟨S,ve.ext e,fun v' H'' e' r'=>k v' H'' (e.trans e') r'⟩⟩
variable {es:List Expr} {ds:List D}
theorem nM:DA X ρ [] []:=PA.weak oH fun σ H Q ⟨S,ve,k⟩=>k [] H Ext.refl .nil
theorem gf (ha:DE X ρ e d) (hr:DA X ρ es ds) (hs:(starEach (e::es) X.env=(false,eval e X.env)::starEach es X.env)⁻¹):DA X ρ (e::es) (d::ds):=
 PA.weak (lI ha hr hs) fun σ H Q ⟨S,ve,k⟩=>⟨S,ve,fun v H' e r=>⟨S,ve.ext e,fun vs H'' e' rs=>k (v::vs) H'' (e.trans e') (.cons (r.ext (e'.to S)) rs)⟩⟩
theorem sj {j} (h:DA X ρ es ds) (hl:ds.length<=sizeLine):DE X ρ (.Tuple es j pos) (.tup ds):=
 PE.weak (Cv h) fun σ H Q ⟨S,ve,k⟩=>⟨S,ve,fun vs H' e rs=>⟨by rw [←rs.length];exact hl,fun p hp=>k _ _ (e.trans (Ext.new hp)) (Rds.gi (ve.ext e).dom hp rs)⟩⟩
theorem si (h:DA X ρ es ds) (hl:ds.length<=sizeLine):DE X ρ (.List es pos) (.lst ds):=
 PE.weak (tS h) fun σ H Q ⟨S,ve,k⟩=>⟨S,ve,fun vs H' e rs=>⟨by rw [←rs.length];exact hl,fun p hp=>k _ _ (e.trans (Ext.new hp)) (Rds.oE (ve.ext e).dom hp rs)⟩⟩
noncomputable def CD (K:PySem.W.Frag) (r:List V->Hp->VK->Prop) (ds:List D) (d:D):Prop:=∀(xs:List V) (H:Hp) (S:Ad) (Q:VK),ag K H S ds xs->Dom H S->(∀v H',aI H H'->Rds K H' S d v->Q v H')->r xs H Q
theorem rZ (h:CD X.K r ds d) (σ:St) (H:Hp) (Q:VK) (q:tD X.K ρ d σ H Q):tCB r (tDA X.K ρ ds) σ H Q:=by
 obtain ⟨S,ve,k⟩:=q;exact ⟨S,ve,fun vs H1 e1 rs=>h vs H1 S Q rs (ve.ext e1).dom fun v H' e3 r3=>k v H' (e1.trans e3) r3⟩
end
set_option autoImplicit true
set_option relaxedAutoImplicit true
noncomputable def ItD (K:PySem.W.Frag) (S:Ad) (J:It) (its:List D) (H:Hp):Prop:=
 ∀(H':Hp) (S':Ad),Ext S H H'->(∀a,S' a->S a∨H a=none)->Dom H' S'->∀i:Nat,(∀d,its[i]?=some d->J.go i H'∧∀x H'',J.yld i H' x H''->aI H' H''∧Rds K H'' S' d x)∧(its.length<=i->J.stop i H')
noncomputable def tDI (K:PySem.W.Frag) (ρ:Rho) (its:List D):TI:=fun σ H R=>∃S,VE K H S ρ σ∧∀J H',aI H H'->ItD K S J its H'->R J H'
noncomputable def DI (X:Cx) (tg:Expr) (ρ:Rho) (iter:Expr) (its:List D):Prop:=PI X tg iter (tDI X.K ρ its)
noncomputable def uI (K:PySem.W.Frag) (S:Ad) (J:It) (its:List D) (H:Hp):Prop:=
 ∀H',aI H H'->Dom H' S->∀i:Nat,(∀d,its[i]?=some d->J.go i H'∧∀x H'',J.yld i H' x H''->aI H' H''∧Rds K H'' S d x)∧(its.length<=i->J.stop i H')
noncomputable def wD (K:PySem.W.Frag) (ρ:Rho) (its:List D):TI:=fun σ H R=>∃S,VE K H S ρ σ∧∀J H',aI H H'->uI K S J its H'->R J H'
noncomputable def DI0 (X:Cx) (tg:Expr) (ρ:Rho) (iter:Expr) (its:List D):Prop:=PI X tg iter (wD X.K ρ its)
section
variable {X:Cx} {tg e:Expr} {ρ:Rho} {pos:Pos}
theorem PI.weak {wi wi':TI} (h:PI X tg e wi) (w:∀σ H R,wi' σ H R->wi σ H R):PI X tg e wi':=fun pins s σ H R I q=>h pins s σ H R I (w σ H R q)
theorem DI.dI0 (h:DI X tg ρ e its):DI0 X tg ρ e its:=PI.weak h fun σ H R ⟨S,ve,k⟩=>⟨S,ve,fun J H' ex hJ=>k J H' ex fun H'' ex' dm i=>hJ H'' S (ex'.to S) (fun a h=>.inl h) dm i⟩
theorem ag.later {K:PySem.W.Frag} {S S':Ad} {H H':Hp} {xs:List D} {vs:List V} (r:ag K H S xs vs) (e:Ext S H H') (h:∀a,S' a->S a∨H a=none):ag K H' S' xs vs:=
 ((r.av (S':=fun a=>S a∨S' a) fun a z=>z.elim .inl (h a)).ext fun a o n q=>e a o (fun z=>n (.inl z)) q).av fun a z=>.inl (.inr z)
theorem Rds.mq {K:PySem.W.Frag} {S:Ad} {H:Hp} {xs:List D} {v:V} (r:Rds K H S (.lst xs) v):∃a vs,v=.ref a∧∀(H':Hp) (S':Ad),Ext S H H'->(∀a,S' a->S a∨H a=none)->SqL K H' a vs∧ag K H' S' xs vs:=by
 cases r with
 |lst h n r=>exact ⟨_,_,rfl,fun H' S' e z=>⟨.inl (CT.Rd.ext e n h),r.later e z⟩⟩
 |lstK h r=>exact ⟨_,_,rfl,fun H' S' e z=>⟨.inr h,r.later e z⟩⟩
theorem Rds.mv {K:PySem.W.Frag} {S:Ad} {H:Hp} {xs:List D} {v:V} (r:Rds K H S (.tup xs) v):∃a vs,v=.ref a∧∀(H':Hp) (S':Ad),Ext S H H'->(∀a,S' a->S a∨H a=none)->SqT K H' a vs∧ag K H' S' xs vs:=by
 cases r with
 |tup h n r=>exact ⟨_,_,rfl,fun H' S' e z=>⟨.inl (.inl (e _ _ n h)),r.later e z⟩⟩
theorem y3 {K:PySem.W.Frag} {S:Ad} {H:Hp} {xs:List D} {a:Addr} {vs:List V} (h:∀(H':Hp) (S':Ad),Ext S H H'->(∀a,S' a->S a∨H a=none)->SqL K H' a vs∧ag K H' S' xs vs):ItD K S (Itl K a) xs H:=by
 intro H' S' e z dm i;obtain ⟨sq,rl⟩:=h H' S' e z;refine ⟨fun d hd=>?_,fun hi=>⟨vs,sq,by rw [←rl.length];exact hi⟩⟩;obtain ⟨v,hv,r⟩:=rl.get hd;refine ⟨⟨vs,v,sq,hv⟩,fun x H'' y=>?_⟩;obtain ⟨e2,y⟩:=y;subst e2;have hx:=y vs sq;rw [hv] at hx;cases hx;exact ⟨Ext.refl,r⟩
theorem y6 {K:PySem.W.Frag} {S:Ad} {H:Hp} {xs:List D} {a:Addr} {vs:List V} (h:∀(H':Hp) (S':Ad),Ext S H H'->(∀a,S' a->S a∨H a=none)->SqT K H' a vs∧ag K H' S' xs vs):ItD K S (Itt K a) xs H:=by
 intro H' S' e z dm i;obtain ⟨sq,rl⟩:=h H' S' e z;refine ⟨fun d hd=>?_,fun hi=>⟨vs,sq,by rw [←rl.length];exact hi⟩⟩;obtain ⟨v,hv,r⟩:=rl.get hd;refine ⟨⟨vs,v,sq,hv⟩,fun x H'' y=>?_⟩;obtain ⟨e2,y⟩:=y;subst e2;have hx:=y vs sq;rw [hv] at hx;cases hx;exact ⟨Ext.refl,r⟩
theorem sA {xs:List D} (h:DE X ρ e (.lst xs)):DI X tg ρ e xs:=PI.weak (zM h) fun σ H R ⟨S,ve,k⟩=>⟨S,ve,fun v H' ex r=>by
 obtain ⟨a,vs,rfl,l⟩:=r.mq;exact ⟨a,rfl,⟨vs,(l H' S Ext.refl fun a h=>.inl h).1⟩,k _ H' ex (y3 l)⟩⟩
theorem sE {xs:List D} (h:DE X ρ e (.tup xs)):DI X tg ρ e xs:=PI.weak (Cz h) fun σ H R ⟨S,ve,k⟩=>⟨S,ve,fun v H' ex r=>by
 obtain ⟨a,vs,rfl,l⟩:=r.mv;exact ⟨a,rfl,⟨vs,(l H' S Ext.refl fun a h=>.inl h).1⟩,k _ H' ex (y6 l)⟩⟩
noncomputable def j1 (n:Nat):List D:=(List.range n).map fun k:Nat=>D.int (k:Int)
theorem y4 {K:PySem.W.Frag} {S:Ad} {H:Hp} {n:Nat}:ItD K S (Itr 0 n) (j1 n) H:=by
 intro H' S' e z dm i;refine ⟨fun d hd=>?_,fun hi=>show n<=i by simpa [j1] using hi⟩;have hi:i<n:=by
  have:=(FS.mp hd).1;simpa [j1] using this
 refine ⟨hi,fun x H'' y=>?_⟩;obtain ⟨e2,e3⟩:=y;subst e2 e3;have hd':d=.int (i:Int):=by
  rw [j1,List.getElem?_map,List.getElem?_range hi] at hd;exact (Gi hd).symm
 subst hd';rw [Int.zero_add];exact ⟨Ext.refl,.int _⟩
theorem vn (hg:Gl X "range") (hm:X.mg "range"=none) (ha:DA X ρ [a] [.int j]) (h1: -(2^62)<=j) (h2:j<2^62) (hs:(starEach [a] X.env=[(false,eval a X.env)])⁻¹):DI X tg ρ (.Call (.Name "range" p) [a] [] pos) (j1 j.toNat):=
 PI.weak (tU hg hm ha hs) fun σ H R ⟨S,ve,k⟩=>⟨S,ve,fun vs H' ex rs=>by
  obtain ⟨v,rfl,r⟩:=rs.one;rw [r.bh];exact ⟨j,rfl,h1,h2,k _ H' ex y4⟩⟩
inductive Sq:D->List D->Prop
 |lst (xs:List D):Sq (.lst xs) xs
 |tup (xs:List D):Sq (.tup xs) xs
theorem Sq.later {K:PySem.W.Frag} {S:Ad} {H:Hp} {d:D} {xs:List D} {v:V} (q:Sq d xs) (r:Rds K H S d v):∃b a vs,v=.ref a∧∀(H':Hp) (S':Ad),Ext S H H'->(∀a,S' a->S a∨H a=none)->SqB K H' b a vs∧ag K H' S' xs vs:=by
 cases q with
 |lst=>obtain ⟨a,vs,e,l⟩:=r.mq;exact ⟨false,a,vs,e,l⟩
 |tup=>obtain ⟨a,vs,e,l⟩:=r.mv;exact ⟨true,a,vs,e,l⟩
end
section
variable {K:PySem.W.Frag} {H H':Hp} {S:Ad} {i:Nat}
theorem oX:∀{das:List D} {dss:List (List D)} {vs:List V},Paired Sq das dss->ag K H S das vs->∃bs:List (Bool×Addr),vs=bs.map (fun c=>V.ref c.2)∧∀(H':Hp) (S':Ad),Ext S H H'->(∀a,S' a->S a∨H a=none)->Paired (fun c xs=>∃us,SqB K H' c.1 c.2 us∧ag K H' S' xs us) bs dss
 |_,_,_,.nil,.nil=>⟨[],rfl,fun _ _ _ _=>.nil⟩
 |_,_,_,.cons q t,.cons r rt=>by
  obtain ⟨b,a,us,rfl,l⟩:=q.later r;obtain ⟨bs,rfl,lt⟩:=oX t rt;exact ⟨(b,a)::bs,rfl,fun H' S' e z=>.cons ⟨us,l H' S' e z⟩ (lt H' S' e z)⟩
theorem uF:∀{bs:List (Bool×Addr)} {dss:List (List D)} {ds:List D},Paired (fun c xs=>∃us,SqB K H c.1 c.2 us∧ag K H S xs us) bs dss->Paired (fun xs x=>xs[i]?=some x) dss ds->∀c∈bs,∃xs x,SqB K H c.1 c.2 xs∧xs[i]?=some x
 |_,_,_,.cons h t,.cons q qt,c,hc=>by
  rcases Fr.mp hc with rfl|hc
  ·obtain ⟨us,s,r⟩:=h;obtain ⟨x,hx,_⟩:=r.get q;exact ⟨us,x,s,hx⟩
  ·exact uF t qt c hc
theorem qp:∀{bs:List (Bool×Addr)} {dss:List (List D)} {ds:List D} {ys:List V},Paired (fun c xs=>∃us,SqB K H c.1 c.2 us∧ag K H S xs us) bs dss->Paired (fun xs x=>xs[i]?=some x) dss ds->Paired (fun c y=>∀xs,SqB K H c.1 c.2 xs->xs[i]?=some y) bs ys->ag K H S ds ys
 |_,_,_,_,.nil,.nil,.nil=>.nil
 |_,_,_,_,.cons h t,.cons q qt,.cons y yt=>by
  obtain ⟨us,s,r⟩:=h;obtain ⟨x,hx,rx⟩:=r.get q;have e:=y us s;rw [hx] at e;cases e;exact .cons rx (qp t qt yt)
theorem ij:∀{bs:List (Bool×Addr)} {dss:List (List D)},Paired (fun c xs=>∃us,SqB K H c.1 c.2 us∧ag K H S xs us) bs dss->(∀c∈bs,∃xs,SqB K H c.1 c.2 xs)∧((∃xs∈dss,xs.length<=i)->∃c∈bs,∃xs,SqB K H c.1 c.2 xs∧xs.length<=i)
 |_,_,.nil=>⟨(fun c hc=>nomatch hc),fun h=>by obtain ⟨_,z,_⟩:=h;cases z⟩
 |_,_,.cons h t=>by
  obtain ⟨us,s,r⟩:=h;obtain ⟨h1,h2⟩:=ij t;refine ⟨fun c hc=>?_,fun h=>?_⟩
  ·rcases Fr.mp hc with rfl|hc
   ·exact ⟨us,s⟩
   ·exact h1 c hc
  ·obtain ⟨xs,hm,hx⟩:=h;rcases Fr.mp hm with rfl|hm
   ·exact ⟨_,Fa,us,s,by rw [←r.length];exact hx⟩
   ·obtain ⟨c,hc,q⟩:=h2 ⟨xs,hm,hx⟩;exact ⟨c,EQ _ hc,q⟩
end
theorem Paired.len {α β:Type} {F:α->β->Prop} {l:List α} {r:List β} (h:Paired F l r):l.length=r.length:=Paired.length h
theorem sF {X:Cx} {ρ:Rho} {elts:List Expr} {tpos:Pos} {e:Expr} {es:List Expr} {das its:List D} {dss:List (List D)} {k} {p pos:Pos} (hg:Gl X "zip") (hm:X.mg "zip"=none) (ha:DA X ρ (e::es) das) (hq:Paired Sq das dss) (hl:dss.length=2∨dss.length=3)
  (hs:starEach (e::es) X.env=(false,eval e X.env)::starEach es X.env) (hp:(backTo pos (starEach es X.env)).any (·.1)=false)
  (hget:∀(i:Nat) d,its[i]?=some d->∃ds,d=.tup ds∧Paired (fun (xs:List D) x=>xs[i]?=some x) dss ds) (hlen:∀i,its.length<=i->∃xs∈dss,xs.length<=i):DI X (.Tuple elts k tpos) ρ (.Call (.Name "zip" p) (e::es) [] pos) its:=
 PI.weak (CA hg hm ha hs hp) fun σ H R zz=>by
  obtain ⟨S,ve,kk⟩:=zz;refine ⟨S,ve,fun vs H' ex rs=>?_⟩;obtain ⟨bs,rfl,l⟩:=oX hq rs;have l0:=l H' S Ext.refl fun a h=>.inl h;refine ⟨bs,rfl,by rw [Paired.len l0];exact hl,(ij (i:=0) l0).1,kk _ H' ex fun H2 S2 e2 z2 dm i=>?_⟩;have l2:=l H2 S2 e2 z2;refine ⟨fun d hd=>?_,fun hi=>⟨(ij (i:=i) l2).1,(ij l2).2 (hlen i hi)⟩⟩;obtain ⟨ds,rfl,hds⟩:=hget i d hd;refine ⟨uF l2 hds,fun z H3 yl=>?_⟩;obtain ⟨T,ys,hT,rfl,rfl,hy⟩:=yl;exact ⟨Ext.new hT,Rds.gi dm hT (qp l2 hds hy)⟩
section
variable {X:Cx} {tg e:Expr} {ρ:Rho} {pos:Pos}
noncomputable def bE:List D->List D->List D
 |x::xs,y::ys=>.tup [x,y]::bE xs ys
 |_,_=>[]
theorem o9:∀{xs ys:List D} {i:Nat} {d:D},(bE xs ys)[i]?=some d->∃x y,xs[i]?=some x∧ys[i]?=some y∧d=.tup [x,y]
 |x::xs,y::ys,0,d,h=>by
  simp [bE] at h;exact ⟨x,y,rfl,rfl,h.symm⟩
 |x::xs,y::ys,i+1,d,h=>by
  simp [bE] at h;obtain ⟨x',y',h1,h2,h3⟩:=o9 h;exact ⟨x',y',by simpa using h1,by simpa using h2,h3⟩
 |[],_,_,_,h=>by simp [bE] at h
 |_::_,[],_,_,h=>by simp [bE] at h
theorem o_:∀{xs ys:List D},(bE xs ys).length=min xs.length ys.length
 |x::xs,y::ys=>by simp [bE,o_]
 |[],_=>by simp [bE]
 |_::_,[]=>by simp [bE]
theorem yF {a b:Expr} {da db:D} {xs ys:List D} {elts:List Expr} {k} {tpos p:Pos} (hg:Gl X "zip") (hm:X.mg "zip"=none) (qa:Sq da xs) (qb:Sq db ys) (ha:DA X ρ [a,b] [da,db])
  (hs:(starEach [a,b] X.env=[(false,eval a X.env),(false,eval b X.env)])⁻¹) (hs2:(starEach [b] X.env=[(false,eval b X.env)])⁻¹):DI X (.Tuple elts k tpos) ρ (.Call (.Name "zip" p) [a,b] [] pos) (bE xs ys):=
 sF hg hm ha (.cons qa (.cons qb .nil)) (.inl rfl) (by rw [hs,hs2]) (by rw [hs2];rfl) (fun i d h=>by obtain ⟨x,y,hx,hy,rfl⟩:=o9 h;exact ⟨_,rfl,.cons hx (.cons hy .nil)⟩) fun i h=>by
  rw [o_] at h
  by_cases z:xs.length<=i
  ·exact ⟨xs,by simp,z⟩
  ·exact ⟨ys,by simp,by omega⟩
end
noncomputable def Chg (ks:List Nat) (σ σ':St):Prop:=σ'.length=σ.length∧∀i:Nat,i∉ks->σ'[i]?=σ[i]?
theorem Chg.fgt (c:Chg ks σ σ') (h:∀k∈ks,σ[k]?=some none):Fgt σ σ':=⟨c.1.symm,fun i v e=>by
 by_cases hi:i∈ks
 ·rw [h i hi] at e;cases e
 ·rw [c.2 i hi];exact e⟩
theorem Chg.trans (a:Chg ks σ σ') (b:Chg ls σ' σ''):Chg (ks++ls) σ σ'':=⟨b.1.trans a.1,fun i hi=>by
 rw [Fk,not_or] at hi;exact (b.2 i hi.2).trans (a.2 i hi.1)⟩
noncomputable def tDG (K:PySem.W.Frag) (ρ:Rho) (d:D) (ρ':Rho) (ks:List Nat):TG:=fun v σ H Q=>∃S,VE K H S ρ σ∧Rds K H S d v∧∀σ',VE K H S ρ' σ'->Chg ks σ σ'->Q σ' H
noncomputable def FN (K:PySem.W.Frag) (ρ:Rho) (ds:List D) (ρ':Rho) (ks:List Nat):TGs:=fun vs σ H Q=>∃S,VE K H S ρ σ∧ag K H S ds vs∧∀σ',VE K H S ρ' σ'->Chg ks σ σ'->Q σ' H
noncomputable def DG (X:Cx) (tg:Expr) (ρ:Rho) (d:D) (ρ':Rho) (ks:List Nat):Prop:=PG X tg (tDG X.K ρ d ρ' ks)
noncomputable def DGs (X:Cx) (tgs:List Expr) (ρ:Rho) (ds:List D) (ρ':Rho) (ks:List Nat):Prop:=PGs X tgs (FN X.K ρ ds ρ' ks)
section
variable {X:Cx} {ρ ρ' ρ'':Rho} {d:D} {ds:List D} {ks ls:List Nat} {pos:Pos} {tg:Expr} {tgs:List Expr}
theorem PG.weak {g g':TG} (h:PG X tg g) (w:∀v σ H Q,g' v σ H Q->g v σ H Q):PG X tg g':=fun pins s σ H v u Q I r q=>h pins s σ H v u Q I r (w v σ H Q q)
theorem PGs.weak {g g':TGs} (h:PGs X tgs g) (w:∀v σ H Q,g' v σ H Q->g v σ H Q):PGs X tgs g':=fun pins s σ H v u Q I r q=>h pins s σ H v u Q I r (w v σ H Q q)
theorem yC (hN:X.N.Nodup) (hi:X.N[k]?=some x) (hx:Loc X.env.scope x) (hf:X.fn x=true∨X.env.scope.names.lookup x=some .local:=by first|exact .inl rfl|exact .inr rfl|assumption):DG X (.Name x pos) ρ d (ρ.set k (.val d)) [k]:=
 PG.weak (zJ hN hi hx hf) fun v σ H Q ⟨S,ve,r,q⟩=>q _ (ve.set r) ⟨by simp,fun i hi=>by
  rw [F4];intro z;exact hi (by simp [z])⟩
theorem yD:DGs X [] ρ [] ρ []:=PGs.weak zK fun vs σ H Q ⟨S,ve,r,q⟩=>⟨by cases r;rfl,q σ ve ⟨rfl,fun _ _=>rfl⟩⟩
theorem vm (h1:DG X tg ρ d ρ' ks) (h2:DGs X tgs ρ' ds ρ'' ls) (hs:((assignEach (tg::tgs) X.env).map (·.2)=assign tg X.env::(assignEach tgs X.env).map (·.2))⁻¹):DGs X (tg::tgs) ρ (d::ds) ρ'' (ks++ls):=
 PGs.weak (wg h1 h2 hs) fun vs σ H Q ⟨S,ve,r,q⟩=>by
  cases r with
  |cons r1 r2=>exact ⟨_,_,rfl,S,ve,r1,fun σ' ve' c=>⟨S,ve',r2,fun σ'' ve'' c'=>q σ'' ve'' (c.trans c')⟩⟩
theorem Bb {k} (hc:X.calm=true) (h:DGs X tgs ρ ds ρ' ks) (hl:ds.length=n) (hn:((assignEach tgs X.env).length=n)⁻¹) (hst:((assignEach tgs X.env).findIdx? (·.1)=none)⁻¹):DG X (.Tuple tgs k pos) ρ (.tup ds) ρ' ks:=
 PG.weak (Cw hc h hn hst) fun v σ H Q ⟨S,ve,r,q⟩=>by
  obtain ⟨a,vs,rfl,ha,rl⟩:=r.cC;exact ⟨a,vs,rfl,.inl (.inl ha),by rw [←rl.length];exact hl,S,ve,rl,q⟩
end
noncomputable def tDB (K:PySem.W.Frag) (ρ:Rho) (out:List D):TB:=fun σ H ys Q=>∃S,VE K H S ρ σ∧ys.length+out.length<=sizeLine∧∀vs H',aI H H'->ag K H' S out vs->Q (ys++vs) H'
noncomputable def DB (Y:Cx) (acc:Addr) (m:Sem Unit) (ρ:Rho) (out:List D):Prop:=PB Y acc m (tDB Y.K ρ out)
noncomputable def DTs (Y:Cx) (ρ:Rho) (ifs:List Expr) (b:Bool):Prop:=PTs Y ifs (tDT Y.K ρ b)
theorem PB.weak {Y:Cx} {acc:Addr} {m:Sem Unit} {t t':TB} (h:PB Y acc m t) (w:∀σ H ys Q,t' σ H ys Q->t σ H ys Q):PB Y acc m t':=fun pins s σ H ys Q I f a q=>h pins s σ H ys Q I f a (w σ H ys Q q)
theorem PTs.weak {Y:Cx} {ifs:List Expr} {t t':TT} (h:PTs Y ifs t) (w:∀σ H Q,t' σ H Q->t σ H Q):PTs Y ifs t':=fun pins s σ H Q I q=>h pins s σ H Q I (w σ H Q q)
section
variable {Y:Cx} {acc:Addr} {ρ:Rho} {d:D}
theorem yS:DTs Y ρ [] true:=PTs.weak lK fun σ H Q ⟨S,ve,k⟩=>k H Ext.refl
theorem yT (h:DT Y ρ c b):DTs Y ρ [c] b:=zX h
theorem yk (he:DE Y ρ elt d):DB Y acc (do let _←call (.builtin "list.append") [.ref acc,←eval elt Y.env]) ρ [d]:=
 PB.weak (zy he) fun σ H ys Q ⟨S,ve,hl,k⟩=>⟨Gb (Nat.le_add_right _ _) hl,S,ve,fun v H' e r=>k [v] H' e (.cons r .nil)⟩
noncomputable def qv (G:Rho->D->Rho->List Nat->Prop) (T:Rho->Bool->Prop) (B:Rho->List D->Prop) (ρ:Rho) (ks:List Nat) (d:D) (out:List D):Prop:=
 ∃ρ' b,G ρ d ρ' ks∧T ρ' b∧(b=true->B ρ' out)∧(b=false->out=[])
noncomputable def gA (K:PySem.W.Frag) (G:Rho->D->Rho->List Nat->Prop):TG:=fun v σ H Q=>∃ρ d ρ' ks,G ρ d ρ' ks∧tDG K ρ d ρ' ks v σ H Q
noncomputable def ttA (K:PySem.W.Frag) (T:Rho->Bool->Prop):TT:=fun σ H Q=>∃ρ b,T ρ b∧tDT K ρ b σ H Q
noncomputable def tbA (K:PySem.W.Frag) (B:Rho->List D->Prop):TB:=fun σ H ys Q=>∃ρ out,B ρ out∧tDB K ρ out σ H ys Q
theorem oK (h:∀ρ d ρ' ks,G ρ d ρ' ks->DG Y tg ρ d ρ' ks):PG Y tg (gA Y.K G):=fun pins s σ H v u Q I r ⟨_,_,_,_,g,q⟩=>h _ _ _ _ g pins s σ H v u Q I r q
theorem xR (h:∀ρ b,T ρ b->DTs Y ρ ifs b):PTs Y ifs (ttA Y.K T):=fun pins s σ H Q I ⟨_,_,g,q⟩=>h _ _ g pins s σ H Q I q
theorem Cm (h:∀ρ out,B ρ out->DB Y acc m ρ out):PB Y acc m (tbA Y.K B):=fun pins s σ H ys Q I f a ⟨_,_,g,q⟩=>h _ _ g pins s σ H ys Q I f a q
theorem n4 {outs:List (List D)} {i:Nat} (h:i<outs.length):(outs.take (i+1)).flatten=(outs.take i).flatten++outs[i]:=by
 rw [List.take_succ_eq_append_getElem h,List.flatten_append];simp
theorem tG {K:PySem.W.Frag} {G:Rho->D->Rho->List Nat->Prop} {T:Rho->Bool->Prop} {B:Rho->List D->Prop} {ks:List Nat} {J:It} {its:List D} {outs:List (List D)} (hks:∀k∈ks,ρ[k]?=some .nil) (hl:its.length=outs.length)
  (ht:∀(i:Nat) d out,its[i]?=some d->outs[i]?=some out->qv G T B ρ ks d out) {σ:St} {H:Hp} {S:Ad} {ys:List V} {Q:List V->Hp->Prop} (ve:VE K H S ρ σ) (hJ:uI K S J its H) (hz:ys.length+outs.flatten.length<=sizeLine)
  (q:∀vs H',aI H H'->ag K H' S outs.flatten vs->Q (ys++vs) H'):hZ (gA K G) (ttA K T) (tbA K B) J σ H ys Q:=by
 refine ⟨fun i n ys' H'=>n=its.length - i∧i<=its.length∧aI H H'∧∃vs,ys'=ys++vs∧ag K H' S (outs.take i).flatten vs,⟨its.length,by simp,Nat.zero_le _,Ext.refl,[],by simp,by simpa using ag.nil⟩,?_⟩;rintro i n ys' H' ⟨rfl,hi,ex,vs,rfl,rv⟩;have dm:=(ve.ext ex).dom;obtain ⟨J1,J2⟩:=hJ H' ex dm i
 by_cases hlt:i<its.length
 ·have hlo:i<outs.length:=hl▸hlt;have hd:its[i]?=some its[i]:=by simp [hlt]
  have ho:outs[i]?=some outs[i]:=by simp [hlo]
  obtain ⟨go,yld⟩:=J1 _ hd;obtain ⟨ρ',b,hg,hts,hb1,hb2⟩:=ht i _ _ hd ho;have step:=n4 hlo;have lenO:(outs.take i).flatten.length+outs[i].length<=outs.flatten.length:=by
   have e:outs.flatten=(outs.take (i+1)).flatten++(outs.drop (i+1)).flatten:=by rw [←List.flatten_append,List.take_append_drop]
   rw [e,step,F5,F5];omega
  refine .inr ⟨go,fun x H1 y=>?_⟩;obtain ⟨e1,r1⟩:=yld x H1 y;have ve1:=(ve.ext ex).ext e1;refine ⟨ρ,its[i],ρ',ks,hg,S,ve1,r1,fun σ2 ve2 c=>⟨c.fgt fun k hk=>ve.unset (hks k hk),ρ',b,hts,S,ve2,fun H2 e2=>?_⟩⟩;cases b with
  |true=>
   refine fx ⟨ρ',_,hb1 rfl,S,ve2.ext e2,?_,fun us H3 e3 ru=>⟨its.length - (i+1),by omega,rfl,hlt,ex.trans (e1.trans (e2.trans e3)),vs++us,by rw [F8],?_⟩⟩
   ·rw [F5,←rv.length];omega
   ·rw [step];exact ag.app (rv.ext ((e1.trans (e2.trans e3)).to S)) ru
  |false=>
   refine fT ⟨its.length - (i+1),by omega,rfl,hlt,ex.trans (e1.trans e2),vs,rfl,?_⟩;rw [step,hb2 rfl,List.append_nil];exact rv.ext ((e1.trans e2).to S)
 ·have e:i=its.length:=by omega
  subst e;refine .inl ⟨J2 (Gd _),q vs H' ex ?_⟩;rw [hl,List.take_length] at rv;exact rv
theorem ym {elt:Expr} {gens:List Comprehension} {scope:Scope} {pos:Pos} {n:Nat} {tg iter:Expr} {ifs:List Expr} {ks:List Nat} {its:List D} {outs:List (List D)} (hg:gens[n+1]?=some ⟨tg,iter,ifs,0⟩) (hc:Y.calm=true) (hx:∀e s,Y.xe e s->False)
  (hi:DI0 Y tg ρ iter its) (hks:∀k∈ks,ρ[k]?=some .nil) (hl:its.length=outs.length)
  (ht:∀(i:Nat) d out,its[i]?=some d->outs[i]?=some out->qv (DG Y tg) (fun ρ b=>DTs Y ρ ifs b) (DB Y acc (a_ elt gens scope pos (n+1) (.ref acc) Y.env)) ρ ks d out)
  (hs:∀x,foldedSetIterable iter Y.env x=pure x:=by intro _;rfl):DB Y acc (a_ elt gens scope pos n (.ref acc) Y.env) ρ outs.flatten:=
 PB.weak (zA hg hc hx hi (oK fun _ _ _ _ h=>h) (xR fun _ _ h=>h) (Cm fun _ _ h=>h) hs) fun σ H ys Q ⟨S,ve,hz,k⟩=>⟨S,ve,fun J H' e hJ=>tG hks hl ht (ve.ext e) hJ hz fun vs H'' e' r=>k vs H'' (e.trans e') r⟩
end
noncomputable def cq:Option Sl->Sl
 |some (.val d)=>.val d
 |some .nil=>.nil
 |_=>.any
noncomputable def cR (own:List Str) (cap:List (Str×Nat)) (ρ:Rho):Rho:=own.map (fun _=>.nil)++cap.map fun p=>cq ρ[p.2]?
theorem uZ:¬(cq o).dU:=by
 unfold cq
 split<;>exact fun h=>h
theorem VE.cap {K:PySem.W.Frag} {H:Hp} {S:Ad} {ρ:Rho} {σ:St} {own:List Str} {cap:List (Str×Nat)} (ve:VE K H S ρ σ):VE K H S (cR own cap ρ) (cS own cap σ):=by
 have nown:∀(i:Nat) (x:Sl),(cR own cap ρ)[i]?=some x->¬x.dU:=fun i x h o=>by
  have hm:=List.mem_of_getElem? h;unfold cR at hm;rcases Fk.mp hm with hm|hm
  ·obtain ⟨y,_,e⟩:=FB.mp hm;rw [←e] at o;exact o
  ·obtain ⟨p,_,e⟩:=FB.mp hm;rw [←e] at o;exact uZ o
 refine ⟨by simp [cR,cS],fun i x h=>?_,fun i j x y a _ h _ o=>absurd o (nown i x h),ve.dom⟩;unfold cR at h;unfold cS
 by_cases hi:i<own.length
 ·rw [List.getElem?_append_left (by simpa using hi),List.getElem?_map] at h;rw [List.getElem?_append_left (by simpa using hi),List.getElem?_map];cases hq:own[i]? with
  |none=>rw [hq] at h;cases h
  |some y=>rw [hq] at h;cases h;exact ⟨none,rfl,rfl⟩
 ·have hi':own.length<=i:=Nat.le_of_not_lt hi;rw [List.getElem?_append_right (by simpa using hi'),List.getElem?_map,F6] at h;rw [List.getElem?_append_right (by simpa using hi'),List.getElem?_map,F6];cases hq:cap[i - own.length]? with
  |none=>rw [hq] at h;cases h
  |some p=>
   rw [hq] at h;have e:cq ρ[p.2]?=x:=Gi h;refine ⟨_,rfl,?_⟩;subst e;cases hr:ρ[p.2]? with
   |none=>trivial
   |some y=>
    cases y with
    |nil=>show (σ[p.2]?).join=none;rw [ve.unset hr];rfl
    |any=>trivial
    |owx xs=>trivial
    |new C x dx fs=>trivial
    |val d=>
     obtain ⟨u,hu,r⟩:=ve.get hr;exact ⟨u,by show (σ[p.2]?).join=some u;rw [hu];rfl,r⟩
section
variable {X:Cx} {scope:Scope} {own:List Str} {cap:List (Str×Nat)} {ρ:Rho} {elt tg iter:Expr} {ifs:List Expr} {rest:List Comprehension} {pos:Pos} {ks:List Nat} {its:List D} {outs:List (List D)}
structure DC (X:Cx) (ρ:Rho) (e:Expr) (ds:List D):Prop where
 pe:PE X e (fun σ H Q=>∃S,VE X.K H S ρ σ∧∀a vs H',aI H H'->H' a=none->ag X.K H' S ds vs->Q (.ref a) (upd H' a (.lst vs)))
 ps:∀(i:Nat) (x:Str) (pos' spos:Pos),X.N.Nodup->X.N[i]?=some x->Loc X.env.scope x->(X.fn x=true∨X.env.scope.names.lookup x=some .local)->swapsWith e (some (.Name x pos')) spos.line X.env=pure true->
  PS X (.Assign [.Name x pos'] e spos) (lR (fun σ H Q=>∃S,VE X.K H S ρ σ∧∀a vs H',aI H H'->H' a=none->ag X.K H' S ds vs->Q (.ref a) (upd H' a (.lst vs))) (eJ i))
theorem yn (cs:CS X scope own cap) (hc:X.calm=true) (hi:DI0 X tg ρ iter its) (hks:∀k∈ks,(cR own cap ρ)[k]?=some .nil) (hl:its.length=outs.length) (hz:outs.flatten.length<=sizeLine)
  (ht:∀(i:Nat) d out,its[i]?=some d->outs[i]?=some out->qv (fun ρ d ρ' ks=>∀p s h f,DG (cX X scope own cap p s h f) tg ρ d ρ' ks) (fun ρ b=>∀p s h f,DTs (cX X scope own cap p s h f) ρ ifs b)
   (fun ρ out=>∀p s h f acc,DB (cX X scope own cap p s h f) acc (a_ elt (⟨tg,iter,ifs,0⟩::rest) scope pos 0 (.ref acc) (bM X scope s.heap.objs.size)) ρ out) (cR own cap ρ) ks d out)
  (hs:∀x,foldedSetIterable iter X.env x=pure x:=by intro _;rfl):DC X ρ (.ListComp elt (⟨tg,iter,ifs,0⟩::rest) scope pos) outs.flatten:=by
 have rd:∀(σ:St) (H:Hp) (Q:VK),(∃S,VE X.K H S ρ σ∧∀a vs H',aI H H'->H' a=none->ag X.K H' S outs.flatten vs->Q (.ref a) (upd H' a (.lst vs)))->
   rG own cap (wD X.K ρ its) (gA X.K _) (ttA X.K _) (tbA X.K _) σ H Q:=fun σ H Q ⟨S,ve,k⟩=>⟨S,ve,fun J H1 e1 hJ=>tG hks hl ht (ve.ext e1).cap hJ (by simpa using hz) fun vs H2 e2 r=>⟨by rw [List.nil_append,←r.length];exact hz,fun a ha=>by
  rw [List.nil_append];exact k a vs H2 (e1.trans e2) ha r⟩⟩
 have g1:∀p s h f,PG (cX X scope own cap p s h f) tg (gA X.K (fun ρ d ρ' ks=>∀p s h f,DG (cX X scope own cap p s h f) tg ρ d ρ' ks)):=fun p s h f=>oK (Y:=cX X scope own cap p s h f) fun _ _ _ _ g=>g p s h f;have g2:∀p s h f,PTs (cX X scope own cap p s h f) ifs (ttA X.K (fun ρ b=>∀p s h f,DTs (cX X scope own cap p s h f) ρ ifs b)):=fun p s h f=>xR (Y:=cX X scope own cap p s h f) fun _ _ g=>g p s h f;have g3:∀p s h f acc,PB (cX X scope own cap p s h f) acc (a_ elt (⟨tg,iter,ifs,0⟩::rest) scope pos 0 (.ref acc) (bM X scope s.heap.objs.size)) (tbA X.K (fun ρ out=>∀p s h f acc,DB (cX X scope own cap p s h f) acc (a_ elt (⟨tg,iter,ifs,0⟩::rest) scope pos 0 (.ref acc) (bM X scope s.heap.objs.size)) ρ out)):=
  fun p s h f acc=>Cm (Y:=cX X scope own cap p s h f) fun _ _ g=>g p s h f acc
 refine ⟨PE.weak (zE cs hc hi g1 g2 g3 hs) rd,fun i x pos' spos hN hix hx hf hsw=>PS.weak (zR cs hc hN hix hx hi g1 g2 g3 hsw hs hf) fun D σ H q=>rd σ H _ q⟩
theorem DC.de (h:DC X ρ e ds):DE X ρ e (.lst ds):=PE.weak h.pe fun σ H Q ⟨S,ve,k⟩=>⟨S,ve,fun a vs H' e hp r=>k _ _ (e.trans (Ext.new hp)) (Rds.oE (ve.ext e).dom hp r)⟩
theorem Bz {α β:Type} {l:List α} {g:α->β} {i:Nat} {b:β} (h:(l.map g)[i]?=some b):∃a,l[i]?=some a∧g a=b:=by
 rw [List.getElem?_map] at h;cases e:l[i]? with
 |none=>rw [e] at h;cases h
 |some a=>rw [e] at h;exact ⟨a,rfl,Gi h⟩
variable {α:Type} {l:List α} {f g:α->D} {x:Str} {k:Nat} {px:Pos}
end
set_option autoImplicit true
set_option relaxedAutoImplicit true
inductive Out where
 |nx (ρ:Rho)|rt (d:D)|rfx (c:Ow)
noncomputable abbrev Ad.and (S:Ad) (a:Addr):Ad:=fun b=>S b∨b=a
structure Fm (K:PySem.W.Frag) (H₀:Hp) (S₀:Ad) (H:Hp) (S:Ad) (ρ:Rho) (σ:St):Prop where
 ve:VE K H S ρ σ
 ext:aI H₀ H
 sub:∀a,S₀ a->S a
 new:∀a,S a->S₀ a∨H₀ a=none
 dm:Dom H₀ S₀
 own:∀(i:Nat) (x:Sl) (a:Addr),ρ[i]?=some x->x.dU->σ[i]?=some (some (.ref a))->H₀ a=none
noncomputable def nh (K:PySem.W.Frag) (H₀:Hp) (S₀:Ad) (E:Ends):Out->Prop
 |.nx ρ'=>∀σ' H' S',Fm K H₀ S₀ H' S' ρ' σ'->E.nx σ' H'
 |.rt d=>∀v H',aI H₀ H'->Rds K H' S₀ d v->E.rt v H'
 |.rfx c=>∀a o H',aI H₀ H'->H₀ a=none->H' a=some o->cM K H' (S₀.and a) a c o->E.rt (.ref a) H'
noncomputable def tDS (K:PySem.W.Frag) (ρ:Rho) (o:Out):TS:=fun E σ H=>∃H₀ S₀ S,Fm K H₀ S₀ H S ρ σ∧nh K H₀ S₀ E o
noncomputable def DS (X:Cx) (ρ:Rho) (st:Stmt) (o:Out):Prop:=PS X st (tDS X.K ρ o)
noncomputable def DSs (X:Cx) (ρ:Rho) (sts:List Stmt) (o:Out):Prop:=PSs X sts (tDS X.K ρ o)
noncomputable def tDF (K:PySem.W.Frag) (ρ:Rho) (xs:List D):TE:=fun σ H Q=>∃S,VE K H S ρ σ∧∀a vs H',aI H H'->H a=none->H' a=some (.lst vs)->ag K H' (S.and a) xs vs->Q (.ref a) H'
noncomputable def DF (X:Cx) (ρ:Rho) (e:Expr) (xs:List D):Prop:=PE X e (tDF X.K ρ xs)
noncomputable def o4 (K:PySem.W.Frag) (ρ:Rho) (c:Ow):TE:=fun σ H Q=>∃S,VE K H S ρ σ∧∀a o H',aI H H'->H a=none->H' a=some o->cM K H' (S.and a) a c o->Q (.ref a) H'
noncomputable def DFx (X:Cx) (ρ:Rho) (e:Expr) (c:Ow):Prop:=PE X e (o4 X.K ρ c)
section
variable {K:PySem.W.Frag} {H₀ H H':Hp} {S₀ S:Ad} {ρ:Rho} {σ:St}
theorem Ext.back (e:aI H H') (h:H' a=none):H a=none:=by
 cases q:H a with
 |none=>rfl
 |some o=>rw [e a o (fun z=>z) q] at h;cases h
theorem Fm.grow (f:Fm K H₀ S₀ H S ρ σ) (e:aI H H'):Fm K H₀ S₀ H' S ρ σ:=⟨f.ve.ext e,f.ext.trans e,f.sub,f.new,f.dm,f.own⟩
theorem Fm.set (f:Fm K H₀ S₀ H S ρ σ) (r:Rds K H S d u):Fm K H₀ S₀ H S (ρ.set i (.val d)) (σ.set i (some u)):=⟨f.ve.set r,f.ext,f.sub,f.new,f.dm,fun j x a h o h2=>by
 by_cases hj:i=j
 ·subst hj;have hi:=(FS.mp h).1;rw [F3 (by simpa using hi)] at h;cases h;exact o.elim
 ·rw [F4 hj] at h h2;exact f.own j x a h o h2⟩
theorem Fm.out (f:Fm K H₀ S₀ H S ρ σ) (r:Rds K H S d v):Rds K H S₀ d v:=r.av fun a h=>.inl (f.sub a h)
theorem RO.av (e:∀a,S' a->S a∨H a=none) (up:∀a,v=some (.ref a)->S a->S' a) (r:RO K H S x v):RO K H S' x v:=by
 cases x with
 |nil=>exact r
 |any=>trivial
 |val d=>obtain ⟨u,h,r⟩:=r;exact ⟨u,h,r.av e⟩
 |owx c=>obtain ⟨a,vs,h,s,o,r⟩:=r;exact ⟨a,vs,h,up a h s,o,r.av e⟩
 |new C x dx fs=>obtain ⟨gs,h,s,o,r⟩:=r;exact ⟨gs,h,up _ h s,o,r.av e⟩
theorem Fm.um (f:Fm K H₀ S₀ H S ρ σ) (e:aI H H') (hn:H a=none) (ha:H' a=some ob) (r:cM K H' (S.and a) a c ob):
  Fm K H₀ S₀ H' (S.and a) (ρ.set i (.owx c)) (σ.set i (some (.ref a))):=by
 have nS:∀b,S b->b≠a:=fun b h z=>f.ve.dom b h (by rw [z];exact hn);have up:∀(x:Sl) (v:Option V),RO K H S x v->RO K H' (S.and a) x v:=fun x v r=>(RO.av (S':=S.and a) (fun b h=>h.imp_right fun z=>by rw [z];exact hn) (fun b _ h=>.inl h) r).ext e;refine ⟨⟨by simpa using f.ve.len,fun j x h=>?_,fun j k x y b hjk h1 h2 o1 o2 h3 h4=>?_,fun b h=>?_⟩,f.ext.trans e,fun b h=>.inl (f.sub b h),fun b h=>?_,f.dm,fun j x b h o h2=>?_⟩
 ·by_cases hj:i=j
  ·subst hj;have hi:=(FS.mp h).1;rw [F3 (by simpa using hi)] at h;cases h;exact ⟨some (.ref a),F3 (f.ve.len▸(by simpa using hi)),a,ob,rfl,.inr rfl,ha,r⟩
  ·rw [F4 hj] at h ⊢;obtain ⟨v,h1,h2⟩:=f.ve.rel j x h;exact ⟨v,h1,up x v h2⟩
 ·
  have own_ne:∀(m:Nat) (x:Sl) (c:Addr),ρ[m]?=some x->x.dU->σ[m]?=some (some (.ref c))->S c:=fun m x c hm ho hs=>by
   obtain ⟨v,q1,q2⟩:=f.ve.rel m x hm;rw [hs] at q1;cases q1;cases x with
   |owx c=>obtain ⟨a',_,z,s,_⟩:=q2;cases z;exact s
   |new C x dx fs=>obtain ⟨_,z,s,_⟩:=q2;cases z;exact s
   |nil=>exact ho.elim
   |any=>exact ho.elim
   |val d=>exact ho.elim
  by_cases hj:i=j
  ·subst hj;have hi:=(FS.mp h1).1;rw [F3 (by rw [←f.ve.len];simpa using hi)] at h3;cases h3;rw [F4 hjk] at h2 h4;exact nS _ (own_ne k y _ h2 o2 h4) rfl
  ·by_cases hk:i=k
   ·subst hk;have hi:=(FS.mp h2).1;rw [F3 (by rw [←f.ve.len];simpa using hi)] at h4;cases h4;rw [F4 hj] at h1 h3;exact nS _ (own_ne j x _ h1 o1 h3) rfl
   ·rw [F4 hj] at h1 h3;rw [F4 hk] at h2 h4;exact f.ve.dist j k x y b hjk h1 h2 o1 o2 h3 h4
 ·rcases h with h|h
  ·exact (f.ve.dom.ext e) b h
  ·rw [h,ha];intro z;cases z
 ·rcases h with h|h
  ·exact f.new b h
  ·rw [h];exact .inr (f.ext.back hn)
 ·by_cases hj:i=j
  ·subst hj;have hi:=(FS.mp h).1;rw [F3 (by rw [←f.ve.len];simpa using hi)] at h2;cases h2;exact f.ext.back hn
  ·rw [F4 hj] at h h2;exact f.own j x b h o h2
theorem Fm.ue (f:Fm K H₀ S₀ H S ρ σ) (hr:ρ[i]?=some (.owx c)) (hs:σ[i]?=some (some (.ref a))) (r:cM K H S a c' ob):Fm K H₀ S₀ (upd H a ob) S (ρ.set i (.owx c')) σ:=by
 have hi:=(FS.mp hr).1;obtain ⟨v,q1,a',vs,z,sa,ha,_⟩:=f.ve.rel i _ hr;rw [hs] at q1;cases q1;cases z;have e:Ext S H (upd H a ob):=Ext.set sa;refine ⟨⟨by simpa using f.ve.len,fun j x h=>?_,fun j k x y b hjk h1 h2 o1 o2 h3=>?_,fun b h z=>?_⟩,fun b o n h=>?_,f.sub,f.new,f.dm,fun j x b h o h2=>?_⟩
 ·by_cases hj:i=j
  ·subst hj;rw [F3 hi] at h;cases h;exact ⟨_,hs,a,ob,rfl,sa,aD,r.ext e⟩
  ·rw [F4 hj] at h;obtain ⟨v,h1,h2⟩:=f.ve.rel j x h;refine ⟨v,h1,?_⟩;cases x with
   |nil=>exact h2
   |any=>trivial
   |val d=>obtain ⟨u,p,r⟩:=h2;exact ⟨u,p,r.ext e⟩
   |owx c=>
    obtain ⟨b,ws,p,s,o,r⟩:=h2;subst p;have nb:b≠a:=fun z=>f.ve.dist i j _ _ a hj hr h trivial trivial hs (by rw [h1,z]);exact ⟨b,ws,rfl,s,by rw [ah nb];exact o,r.ext e⟩
   |new C b dx fs=>
    obtain ⟨gs,p,s,o,r⟩:=h2;subst p;have nb:b≠a:=fun z=>f.ve.dist i j _ _ a hj hr h trivial trivial hs (by rw [h1,z]);exact ⟨gs,rfl,s,by rw [ah nb];exact o,r.ext e⟩
 ·by_cases hj:i=j
  ·subst hj;rw [F4 hjk] at h2;exact f.ve.dist i k _ y b hjk hr h2 trivial o2 h3
  ·rw [F4 hj] at h1
   by_cases hk:i=k
   ·subst hk;exact f.ve.dist j i x _ b hjk h1 hr o1 trivial h3
   ·rw [F4 hk] at h2;exact f.ve.dist j k x y b hjk h1 h2 o1 o2 h3
 ·by_cases hb:b=a
  ·rw [hb,aD] at z;cases z
  ·rw [ah hb] at z;exact f.ve.dom b h z
 ·have nb:b≠a:=fun z=>by
   have:=f.own i _ a hr trivial hs;rw [←z,h] at this;cases this
  rw [ah nb];exact f.ext b o n h
 ·by_cases hj:i=j
  ·subst hj;exact f.own i _ b hr trivial h2
  ·rw [F4 hj] at h;exact f.own j x b h o h2
theorem Fm.ud (f:Fm K H₀ S₀ H S ρ σ) (hr:ρ[i]?=some (.own xs)) (hs:σ[i]?=some (some (.ref a))) (r:ag K H S ys us):Fm K H₀ S₀ (upd H a (.lst us)) S (ρ.set i (.own ys)) σ:=f.ue (c':=.l ys) hr hs ⟨us,rfl,r⟩
noncomputable def putD (f:Str) (d:D):List (Str×D)->List (Str×D)
 |[]=>[(f,d)]
 |(g,x)::r=>if g=f then (g,d)::r else (g,x)::putD f d r
theorem aP.put (q:Rds K H S d v):∀{ds:List (Str×D)} {vs:List (Str×V)},aP K H S ds vs->aP K H S (putD f d ds) (b_ f v vs)
 |[],_,.nil=>.cons q .nil
 |(n,x)::r,_,.cons q' t=>by
  unfold putD b_;split
  ·exact .cons q t
  ·exact .cons q' (aP.put q t)
theorem aP.len:∀{ds:List (Str×D)} {vs:List (Str×V)},aP K H S ds vs->ds.length=vs.length
 |[],_,.nil=>rfl
 |_::_,_,.cons _ t=>by rw [List.length_cons,List.length_cons,aP.len t]
theorem Fm.CK (f:Fm K H₀ S₀ H S ρ σ) (hr:ρ[i]?=some (.new C a dx fs)) (r:aP K H S hs us):Fm K H₀ S₀ (upd H a (.ins C dx us)) S (ρ.set i (.new C a dx hs)) σ:=by
 have hi:=(FS.mp hr).1;obtain ⟨v,hs',gs,z,sa,ha,_⟩:=f.ve.rel i _ hr;subst z;have e:Ext S H (upd H a (.ins C dx us)):=Ext.set sa;refine ⟨⟨by simpa using f.ve.len,fun j x h=>?_,fun j k x y b hjk h1 h2 o1 o2 h3=>?_,fun b h z=>?_⟩,fun b o n h=>?_,f.sub,f.new,f.dm,fun j x b h o h2=>?_⟩
 ·by_cases hj:i=j
  ·subst hj;rw [F3 hi] at h;cases h;exact ⟨_,hs',us,rfl,sa,aD,r.ext e⟩
  ·rw [F4 hj] at h;obtain ⟨v,h1,h2⟩:=f.ve.rel j x h;refine ⟨v,h1,?_⟩;cases x with
   |nil=>exact h2
   |any=>trivial
   |val d=>obtain ⟨u,p,r⟩:=h2;exact ⟨u,p,r.ext e⟩
   |owx c=>
    obtain ⟨b,ws,p,s,o,r⟩:=h2;subst p;have nb:b≠a:=fun z=>f.ve.dist i j _ _ a hj hr h trivial trivial hs' (by rw [h1,z]);exact ⟨b,ws,rfl,s,by rw [ah nb];exact o,r.ext e⟩
   |new C b dx fs=>
    obtain ⟨gs,p,s,o,r⟩:=h2;subst p;have nb:b≠a:=fun z=>f.ve.dist i j _ _ a hj hr h trivial trivial hs' (by rw [h1,z]);exact ⟨gs,rfl,s,by rw [ah nb];exact o,r.ext e⟩
 ·by_cases hj:i=j
  ·subst hj;rw [F4 hjk] at h2;exact f.ve.dist i k _ y b hjk hr h2 trivial o2 h3
  ·rw [F4 hj] at h1
   by_cases hk:i=k
   ·subst hk;exact f.ve.dist j i x _ b hjk h1 hr o1 trivial h3
   ·rw [F4 hk] at h2;exact f.ve.dist j k x y b hjk h1 h2 o1 o2 h3
 ·by_cases hb:b=a
  ·rw [hb,aD] at z;cases z
  ·rw [ah hb] at z;exact f.ve.dom b h z
 ·have nb:b≠a:=fun z=>by
   have:=f.own i _ a hr trivial hs';rw [←z,h] at this;cases this
  rw [ah nb];exact f.ext b o n h
 ·by_cases hj:i=j
  ·subst hj;exact f.own i _ b hr trivial h2
  ·rw [F4 hj] at h;exact f.own j x b h o h2
end
section
variable {X:Cx} {ρ ρ':Rho} {e:Expr} {d:D} {st:Stmt} {sts:List Stmt} {o:Out} {pos:Pos} {xs:List D}
theorem DF.x (h:DF X ρ e xs):DFx X ρ e (.l xs):=PE.weak h fun σ H Q ⟨S,ve,k⟩=>⟨S,ve,fun a vs H' ex hn ha r=>k a (.lst vs) H' ex hn ha ⟨vs,rfl,r⟩⟩
theorem DFx.de (h:DFx X ρ e c):DE X ρ e c.D:=PE.weak h fun σ H Q ⟨S,ve,k⟩=>⟨S,ve,fun a o H' ex hn ha r=>k _ H' ex ((r.av fun b h=>.inl (.inl h)).rds ha (ve.dom.not hn))⟩
theorem DF.de (h:DF X ρ e xs):DE X ρ e (.lst xs):=PE.weak h fun σ H Q ⟨S,ve,k⟩=>⟨S,ve,fun a vs H' ex hn ha r=>k _ H' ex (.lst (.inl ha) (ve.dom.not hn) (r.av fun b h=>.inl (.inl h)))⟩
theorem DC.df (h:DC X ρ e xs):DF X ρ e xs:=PE.weak h.pe fun σ H Q ⟨S,ve,k⟩=>⟨S,ve,fun a vs H' ex hp r=>k a vs _ (ex.trans (Ext.new hp)) (ex.back hp) aD ((r.av (S':=S.and a) fun b h=>h.imp_right fun z=>by rw [z];exact hp).ext ((Ext.new hp).to _))⟩
theorem Ba (h:DA X ρ es xs) (hl:xs.length<=sizeLine):DF X ρ (.List es pos) xs:=
 PE.weak (tS h) fun σ H Q ⟨S,ve,k⟩=>⟨S,ve,fun vs H' ex rs=>⟨by rw [←rs.length];exact hl,fun p hp=>k p vs _ (ex.trans (Ext.new hp)) (ex.back hp) aD ((rs.av (S':=S.and p) fun b h=>h.imp_right fun z=>by rw [z];exact hp).ext ((Ext.new hp).to _))⟩⟩
theorem pO:DSs X ρ [] (.nx ρ):=PSs.weak zV fun E σ H ⟨H₀,S₀,S,f,k⟩=>k σ H S f
theorem gJ (h1:DS X ρ st (.nx ρ')) (h2:DSs X ρ' sts o):DSs X ρ (st::sts) o:=PSs.weak (hI h1 h2) fun E σ H ⟨H₀,S₀,S,f,k⟩=>⟨H₀,S₀,S,f,fun σ' H' S' f'=>⟨H₀,S₀,S',f',k⟩⟩
noncomputable def Out.ends:Out->Prop
 |.nx _=>False
 |_=>True
theorem pN (h1:DS X ρ st o) (ho:o.ends):DSs X ρ (st::sts) o:=PSs.weak (hI h1 (mB (sts:=sts))) fun E σ H ⟨H₀,S₀,S,f,k⟩=>⟨H₀,S₀,S,f,by
 cases o with
 |nx _=>exact ho.elim
 |rt d=>exact k
 |rfx xs=>exact k⟩
theorem yL:DS X ρ (.Pass pos) (.nx ρ):=PS.weak zS fun E σ H ⟨H₀,S₀,S,f,k⟩=>k σ H S f
theorem Bd (h:DE X ρ e d):DS X ρ (.Return (some e) pos) (.rt d):=PS.weak (kM h) fun E σ H ⟨H₀,S₀,S,f,k⟩=>⟨S,f.ve,fun v H' ex r=>k v H' (f.ext.trans ex) ((f.grow ex).out r)⟩
theorem yM:DS X ρ (.Return none pos) (.rt .non):=PS.weak zU fun E σ H ⟨H₀,S₀,S,f,k⟩=>k .non H f.ext .non
theorem vp (h:DFx X ρ e c):DS X ρ (.Return (some e) pos) (.rfx c):=PS.weak (kM h) fun E σ H ⟨H₀,S₀,S,f,k⟩=>⟨S,f.ve,fun a vs H' ex hn ha r=>k a vs H' (f.ext.trans ex) (f.ext.back hn) ha (r.av fun b h=>.inl (h.imp_left (f.sub b)))⟩
theorem yN {i:Nat} {x:Str} {p:Pos} {c:Ow} (hN:X.N[i]?=some x) (hv:Vis X.env.scope x) (hr:ρ[i]?=some (.owx c)) (hd: ~~~((x==("__debug__":Str))=false)) (hcd: ~~~((x==("__classdict__":Str))=false)):
  DS X ρ (.Return (some (.Name x p)) pos) (.rfx c):=PS.weak (kM (fC hN hv hd hcd)) fun E σ H ⟨H₀,S₀,S,f,k⟩=>by
 obtain ⟨v,h1,a,vs,rfl,sa,ha,r⟩:=f.ve.rel i _ hr;exact ⟨_,h1,k a vs H f.ext (f.own i _ a hr trivial h1) ha (r.av fun b h=>.inl (h.elim (f.sub b) fun z=>by rw [z];exact sa))⟩
theorem pL (h:DE X ρ e d) (hs:(swapsWith e none pos.line X.env=pure false)⁻¹):DS X ρ (.Expr e pos) (.nx ρ):=PS.weak (gq h hs) fun E σ H ⟨H₀,S₀,S,f,k⟩=>⟨S,f.ve,fun v H' ex r=>k σ H' S (f.grow ex)⟩
variable {i:Nat} {x:Str} {pos':Pos}
theorem sJ (hN:X.N.Nodup) (hi:X.N[i]?=some x) (hx:Loc X.env.scope x) (he:DE X ρ e d) (hs:(swapsWith e (some (.Name x pos')) pos.line X.env=pure false)⁻¹) (hf:X.fn x=true∨X.env.scope.names.lookup x=some .local:=by first|exact .inl rfl|exact .inr rfl|assumption):
  DS X ρ (.Assign [.Name x pos'] e pos) (.nx (ρ.set i (.val d))):=PS.weak (oM hN hi hx he hs hf) fun E σ H ⟨H₀,S₀,S,f,k⟩=>⟨S,f.ve,fun v H' ex r=>k _ H' S ((f.grow ex).set r)⟩
theorem jH (hN:X.N.Nodup) (hi:X.N[i]?=some x) (hx:Loc X.env.scope x) (he:DFx X ρ e c) (hs:(swapsWith e (some (.Name x pos')) pos.line X.env=pure false)⁻¹) (hf:X.fn x=true∨X.env.scope.names.lookup x=some .local:=by first|exact .inl rfl|exact .inr rfl|assumption):
  DS X ρ (.Assign [.Name x pos'] e pos) (.nx (ρ.set i (.owx c))):=PS.weak (oM hN hi hx he hs hf) fun E σ H ⟨H₀,S₀,S,f,k⟩=>⟨S,f.ve,fun a vs H' ex hn ha r=>k _ H' _ (f.um ex hn ha r)⟩
theorem l9 (hN:X.N[i]?=some x) (hv:Vis X.env.scope x) (hr:ρ[i]?=some (.own xs)) (he:DE X ρ a d) (hz:xs.length<sizeLine) (hd: ~~~((x==("__debug__":Str))=false)) (hcd: ~~~((x==("__classdict__":Str))=false))
  (hs:(swapsWith (.Call (.Attribute (.Name x p) "append" ap) [a] [] cp) none pos.line X.env=pure false)⁻¹)
  (hbase:(attributeBase (.Name x p) "append" X.env (eval (.Name x p) X.env)=eval (.Name x p) X.env)⁻¹)
  (hfew:(((backTo cp (starEach [a] X.env)).all (fun x=>!x.1)&&(backToKw cp (keywordEach [] X.env)).all (fun x=>x.1.isSome)&&decide (([a]:List Expr).length+([]:List Keyword).length+(if ([]:List Keyword).isEmpty then 0 else 1)<30))=true)⁻¹)
  (hline:((ap.endLine==cp.line)=true)⁻¹) (hst:(starEach [a] X.env=(false,eval a X.env)::starEach [] X.env)⁻¹) (hplain:((backTo cp (starEach [] X.env)).any (·.1)=false)⁻¹):
  DS X ρ (.Expr (.Call (.Attribute (.Name x p) "append" ap) [a] [] cp) pos) (.nx (ρ.set i (.own (xs++[d])))):=
 PS.weak (gq (xM PySem.F.plainAttrs_list PySem.F.slot_list_append PySem.F.type_list_append tJ (fC hN hv hd hcd) (lI he oH hst) hbase hfew hline hst hplain) hs) fun E σ H ⟨H₀,S₀,S,f,k⟩=>by
  obtain ⟨v,h1,l,_,rfl,sa,ha,vs,rfl,r⟩:=f.ve.rel i _ hr;refine ⟨_,h1,.inl ⟨rfl,vs,.inl (.inl ha)⟩,S,f.ve,fun y H' ex ry=>⟨l,vs,y,rfl,rfl,ex _ _ (fun z=>z) ha,by rw [←r.length];exact hz,?_⟩⟩;exact k _ _ S ((f.grow ex).ud hr h1 (ag.app (r.ext (ex.to S)) (.cons ry .nil)))
theorem sH (hN:X.N[i]?=some x) (hv:Vis X.env.scope x) (hr:ρ[i]?=some (.new C a dx fs)) (c:Cls X.K C) (na:b5 X.K C fl) (hl:fs.length<1000) (he:DE X ρ e d)
  (hs:(swapsWith e (some (.Attribute (.Name x p) fl pos')) pos.line X.env=pure false)⁻¹) (hd: ~~~((x==("__debug__":Str))=false)) (hcd: ~~~((x==("__classdict__":Str))=false)):
  DS X ρ (.Assign [.Attribute (.Name x p) fl pos'] e pos) (.nx (ρ.set i (.new C a dx (putD fl d fs)))):=
 PS.weak (CF (fC hN hv hd hcd) he hs) fun E σ H ⟨H₀,S₀,S,f,k⟩=>⟨S,f.ve,fun v H' ex r=>by
  have f':=f.grow ex;obtain ⟨w,h1,gs,rfl,sa,ha,rf⟩:=f'.ve.rel i _ hr;exact ⟨_,h1,a,C,dx,gs,rfl,ha,c,na,by rw [←rf.len];exact hl,k _ _ S (f'.CK hr (rf.put r))⟩⟩
theorem je:PSs X sts (fun E σ H=>∃ρ o,DSs X ρ sts o∧tDS X.K ρ o E σ H):=fun pins s σ H D I ⟨_,_,h,q⟩=>h pins s σ H D I q
theorem qF (hc:DT X ρ c q) (ha:q=true->DSs X ρ a o) (hb:q=false->DSs X ρ b o):DS X ρ (.If c a b pos) o:=
 PS.weak (xQ hc (je (sts:=a)) (je (sts:=b))) fun E σ H ⟨H₀,S₀,S,f,k⟩=>⟨S,f.ve,fun H' ex=>by
  cases q with
  |true=>exact fx ⟨ρ,o,ha rfl,H₀,S₀,S,f.grow ex,k⟩
  |false=>exact fT ⟨ρ,o,hb rfl,H₀,S₀,S,f.grow ex,k⟩⟩
end
set_option autoImplicit true
set_option relaxedAutoImplicit true
section
variable {X:Cx} {ρ ρ':Rho} {e:Expr} {d:D} {o:Out} {pos:Pos} {xs:List D} {i:Nat}
theorem Fm.give {K:PySem.W.Frag} {H₀ H:Hp} {S₀ S:Ad} {σ:St} {c:Ow} (f:Fm K H₀ S₀ H S ρ σ) (hr:ρ[i]?=some (.owx c)):∃S',(∀a,S' a->S a)∧Fm K H₀ S₀ H S' (ρ.set i (.val c.D)) σ:=by
 have hi:=(FS.mp hr).1;obtain ⟨v,q1,a,vs,rfl,sa,ha,r⟩:=f.ve.rel i _ hr;have own_ne:∀(m:Nat) (x:Sl) (c:Addr),i≠m->ρ[m]?=some x->x.dU->σ[m]?=some (some (.ref c))->c≠a:=fun m x c hm h ho hs z=>f.ve.dist i m _ x a hm hr h trivial ho q1 (by rw [hs,z]);refine ⟨fun b=>S b∧b≠a,fun b h=>h.1,⟨⟨by simpa using f.ve.len,fun j x h=>?_,fun j k x y b hjk h1 h2 o1 o2 h3=>?_,fun b h=>f.ve.dom b h.1⟩,f.ext,fun b h=>⟨f.sub b h,fun z=>?_⟩,fun b h=>f.new b h.1,f.dm,fun j x b h o h2=>?_⟩⟩
 ·by_cases hj:i=j
  ·subst hj;rw [F3 hi] at h;cases h;exact ⟨_,q1,_,rfl,(r.av fun b h=>.inl h.1).rds ha fun z=>z.2 rfl⟩
  ·rw [F4 hj] at h;obtain ⟨v,h1,h2⟩:=f.ve.rel j x h;refine ⟨v,h1,?_⟩;cases x with
   |nil=>exact h2
   |any=>trivial
   |val d=>obtain ⟨u,p,r⟩:=h2;exact ⟨u,p,r.av fun b h=>.inl h.1⟩
   |owx zs=>exact RO.av (x:=.owx zs) (fun b h=>.inl h.1) (fun b z s=>⟨s,own_ne j _ b hj h trivial (by rw [h1,z])⟩) h2
   |new C y dx fs=>exact RO.av (x:=.new C y dx fs) (fun b h=>.inl h.1) (fun b z s=>⟨s,own_ne j _ b hj h trivial (by rw [h1,z])⟩) h2
 ·have n1:i≠j:=fun z=>by
   subst z;rw [F3 hi] at h1;cases h1;exact o1
  have n2:i≠k:=fun z=>by
   subst z;rw [F3 hi] at h2;cases h2;exact o2
  rw [F4 n1] at h1;rw [F4 n2] at h2;exact f.ve.dist j k x y b hjk h1 h2 o1 o2 h3
 ·have:=f.own i _ a hr trivial q1;exact f.dm b h (by rw [z];exact this)
 ·have n1:i≠j:=fun z=>by
   subst z;rw [F3 hi] at h;cases h;exact o
  rw [F4 n1] at h;exact f.own j x b h o h2
theorem VE.give {K:PySem.W.Frag} {H:Hp} {S:Ad} {σ:St} {c:Ow} (f:VE K H S ρ σ) (hr:ρ[i]?=some (.owx c)):∃S',VE K H S' (ρ.set i (.val c.D)) σ:=by
 have F:Fm K (fun _=>none) no H S ρ σ:=⟨f,(fun a o _ h=>by cases h),fun a h=>h.elim,fun a h=>.inr rfl,fun a h=>h.elim,fun _ _ _ _ _ _=>rfl⟩
 obtain ⟨S',_,f'⟩:=F.give hr;exact ⟨S',f'.ve⟩
theorem yR (hr:ρ[i]?=some (.owx c)) (h:DT X (ρ.set i (.val c.D)) e q):DT X ρ e q:=PT.weak h fun σ H Q ⟨S,ve,k⟩=>by
 obtain ⟨S',ve'⟩:=ve.give hr;exact ⟨S',ve',k⟩
noncomputable def cn (ρ ρ1:Rho) (ks:List Nat):Prop:=∀(i:Nat) (x:Sl),ρ1[i]?=some x->x.dU->i∉ks∧ρ[i]?=some x
theorem C_:cn ρ ρ []:=fun i x h _=>⟨by simp,h⟩
theorem Dc:cn ρ (ρ.set k (.val d)) [k]:=fun i x h o=>by
 by_cases hj:k=i
 ·subst hj;have hi:=(FS.mp h).1;rw [F3 (by simpa using hi)] at h;cases h;exact o.elim
 ·rw [F4 hj] at h;exact ⟨by simp [Ne.symm hj],h⟩
theorem cn.trans (a:cn ρ ρ1 ks) (b:cn ρ1 ρ2 ls):cn ρ ρ2 (ks++ls):=fun i x h o=>by
 obtain ⟨n1,h1⟩:=b i x h o;obtain ⟨n2,h2⟩:=a i x h1 o;exact ⟨by simp [n1,n2],h2⟩
inductive jw (X:Cx) (tg:Expr) (body:List Stmt):List D->Rho->Out->Prop
 |nil (ρ:Rho):jw X tg body [] ρ (.nx ρ)
 |cons {d:D} {ds:List D} {ρ ρ1 ρ2:Rho} {ks:List Nat} {o:Out}:DG X tg ρ d ρ1 ks->cn ρ ρ1 ks->DSs X ρ1 body (.nx ρ2)->jw X tg body ds ρ2 o->jw X tg body (d::ds) ρ o
 |ret {d:D} {ds:List D} {ρ ρ1:Rho} {ks:List Nat} {o:Out}:DG X tg ρ d ρ1 ks->cn ρ ρ1 ks->DSs X ρ1 body o->o.ends->jw X tg body (d::ds) ρ o
theorem Fm.tgt {K:PySem.W.Frag} {H₀ H:Hp} {S₀ S:Ad} {ρ ρ1:Rho} {σ σ':St} {ks:List Nat} (f:Fm K H₀ S₀ H S ρ σ) (ve:VE K H S ρ1 σ') (c:Chg ks σ σ') (h:cn ρ ρ1 ks):Fm K H₀ S₀ H S ρ1 σ':=
 ⟨ve,f.ext,f.sub,f.new,f.dm,fun i x a h1 o h2=>by
  obtain ⟨n,h3⟩:=h i x h1 o;exact f.own i x a h3 o (by rw [←c.2 i n];exact h2)⟩
theorem Fm.mono {K:PySem.W.Frag} {H₀ H1 H:Hp} {S₀ S:Ad} {σ:St} (f:Fm K H1 S₀ H S ρ σ) (e:aI H₀ H1) (dm:Dom H₀ S₀):Fm K H₀ S₀ H S ρ σ:=
 ⟨f.ve,e.trans f.ext,f.sub,fun a h=>(f.new a h).imp_right e.back,dm,fun i x a h o h2=>e.back (f.own i x a h o h2)⟩
theorem nh.mono {K:PySem.W.Frag} {H₀ H1:Hp} {S₀:Ad} {E:Ends} (e:aI H₀ H1) (dm:Dom H₀ S₀) (k:nh K H₀ S₀ E o):nh K H1 S₀ E o:=by
 cases o with
 |nx ρ'=>exact fun σ' H' S' f=>k σ' H' S' (f.mono e dm)
 |rt d=>exact fun v H' ex r=>k v H' (e.trans ex) r
 |rfx xs=>exact fun a vs H' ex hn ha r=>k a vs H' (e.trans ex) (e.back hn) ha r
open Classical in
noncomputable def dB (H:Hp) (S S₀:Ad):Hp:=fun a=>if S a∧¬S₀ a then none else H a
theorem dh (h:H a=some u) (n:S a->S₀ a):dB H S S₀ a=some u:=by
 unfold dB;rw [if_neg fun z=>z.2 (n z.1)];exact h
theorem iy (h:S a) (n:¬S₀ a):dB H S S₀ a=none:=by
 unfold dB;rw [if_pos ⟨h,n⟩]
theorem yi (h:dB H S S₀ a=some u):H a=some u∧(S a->S₀ a):=by
 unfold dB at h;split at h
 ·cases h
 ·rename_i n;exact ⟨h,fun s=>Classical.byContradiction fun z=>n ⟨s,z⟩⟩
theorem Fm.cut {K:PySem.W.Frag} {H₀ H:Hp} {S₀ S:Ad} {σ:St} (f:Fm K H₀ S₀ H S ρ σ):aI H₀ (dB H S S₀)∧Fm K (dB H S S₀) S₀ H S ρ σ:=by
 refine ⟨fun a u n h=>dh (f.ext a u n h) fun s=>(f.new a s).elim (fun z=>z) fun z=>(by rw [h] at z;cases z),⟨f.ve,fun a u n h=>(yi h).1,f.sub,fun a s=>?_,fun a s z=>?_,fun i x a h o h2=>?_⟩⟩
 ·by_cases q:S₀ a
  ·exact .inl q
  ·exact .inr (iy s q)
 ·cases q:H a with
  |none=>exact f.ve.dom a (f.sub a s) q
  |some u=>rw [dh q fun _=>s] at z;cases z
 ·have hn:=f.own i x a h o h2;have ns:¬S₀ a:=fun z=>f.dm a z hn;obtain ⟨v,q1,q2⟩:=f.ve.rel i x h;rw [h2] at q1;cases q1;cases x with
  |owx xs=>obtain ⟨b,_,z,s,_⟩:=q2;cases z;exact iy s ns
  |new C y dx fs=>obtain ⟨_,z,s,_⟩:=q2;cases z;exact iy s ns
  |nil=>exact o.elim
  |any=>exact o.elim
  |val d=>exact o.elim
theorem nV {tg iter:Expr} {body:List Stmt} {its:List D} (hp:PassesOwn (model X.prog X.w) X.A X.env X.xe) (hc:X.calm=true) (hi:DI X tg ρ iter its) (hb:jw X tg body its ρ o)
  (hs:∀x,foldedSetIterable iter X.env x=pure x:=by intro _;rfl):DS X ρ (.For tg iter body [] pos) o:=by
 refine PS.weak (uc hp hc hi (oK (G:=DG X tg) fun _ _ _ _ h=>h) (je (sts:=body)) hs) ?_;rintro E σ H ⟨H₀,S₀,S,f,k⟩;refine ⟨S,f.ve,fun J H1 ex hJ=>?_⟩;have f1:=f.grow ex;obtain ⟨e0,fc⟩:=f1.cut;have k1:=k.mono e0 f.dm;refine ⟨fun i m σ' H'=>∃S' ρ',Fm X.K (dB H1 S S₀) S₀ H' S' ρ' σ'∧jw X tg body (its.drop i) ρ' o∧i<=its.length∧m=its.length - i,⟨its.length,S,ρ,fc,by simpa using hb,Nat.zero_le _,by simp⟩,?_⟩;rintro i m σ' H' ⟨S',ρ',f',hf,hi',rfl⟩;have ext1:Ext S H1 H':=fun a u n h=>f'.ext a u (fun z=>z) (dh h fun s=>(n s).elim);have new1:∀a,S' a->S a∨H1 a=none:=fun a s=>by
  rcases f'.new a s with z|z
  ·exact .inl (f.sub a z)
  ·by_cases q:S a
   ·exact .inl q
   ·cases h:H1 a with
    |none=>exact .inr rfl
    |some u=>rw [dh h fun s=>(q s).elim] at z;cases z
 obtain ⟨J1,J2⟩:=hJ H' S' ext1 new1 f'.ve.dom i
 by_cases hlt:i<its.length
 ·have hd:its[i]?=some its[i]:=by simp [hlt]
  obtain ⟨go,yld⟩:=J1 _ hd;rw [List.drop_eq_getElem_cons hlt] at hf;have rep:∀{ρ1:Rho} {ks:List Nat} {x:V} {H2:Hp},J.yld i H' x H2->DG X tg ρ' its[i] ρ1 ks->cn ρ' ρ1 ks->∀(R:St->Hp->Prop),(∀σ2,Fm X.K (dB H1 S S₀) S₀ H2 S' ρ1 σ2->R σ2 H2)->gA X.K (DG X tg) x σ' H2 R:=fun {ρ1 ks x H2} y hg htg R hR=>by
   obtain ⟨e1,r1⟩:=yld x H2 y;exact ⟨ρ',its[i],ρ1,ks,hg,S',(f'.grow e1).ve,r1,fun σ2 ve2 c=>hR σ2 ((f'.grow e1).tgt ve2 c htg)⟩
  cases hf with
  |cons hg htg hbd hrest=>
   rename_i ρ1 ρ2 ks;refine .inr ⟨go,fun σ2 H2=>∃S2,Fm X.K (dB H1 S S₀) S₀ H2 S2 ρ2 σ2,fun σ2 H2 ⟨S2,f2⟩=>⟨its.length - (i+1),by omega,S2,ρ2,f2,hrest,hlt,rfl⟩,fun x H2 y=>?_⟩;exact rep y hg htg _ fun σ2 f2=>⟨ρ1,_,hbd,_,_,S',f2,fun σ3 H3 S3 f3=>⟨S3,f3⟩⟩
  |ret hg htg hbd hend=>
   rename_i ρ1 ks;refine .inr ⟨go,fun _ _=>False,fun _ _ z=>z.elim,fun x H2 y=>?_⟩;refine rep y hg htg _ fun σ2 f2=>⟨ρ1,o,hbd,_,_,S',f2,?_⟩
   cases o with
   |nx _=>exact hend.elim
   |rt d=>exact k1
   |rfx xs=>exact k1
 ·have e:i=its.length:=by omega
  subst e;rw [List.drop_length] at hf;cases hf;exact .inl ⟨J2 (Gd _),k1 σ' H' S' f'⟩
end
set_option autoImplicit true
set_option relaxedAutoImplicit true
noncomputable def spD (K:PySem.W.Frag) (P:List D->D->Prop):Sp:=fun vs H Q _=>∃S ds d,Dom H S∧ag K H S ds vs∧P ds d∧∀v H',aI H H'->Rds K H' S d v->Q v H'
noncomputable def spI (K:PySem.W.Frag) (C:Addr) (P:List D->List (Str×D)->Prop):Sp:=fun vs H Q _=>∃S x dx us ds fs,vs=.ref x::us∧H x=some (.ins C dx [])∧Dom H S∧S x∧ag K H S ds us∧P ds fs∧
 ∀H' gs,(∀a o,a≠x->H a=some o->H' a=some o)->H' x=some (.ins C dx gs)->aP K H' S fs gs->Q .non H'
noncomputable def aO (N:List Str) (ds:List D):Rho:=ds.map .val++List.replicate (N.length - ds.length) .nil
theorem oY {K:PySem.W.Frag} {H:Hp} {S:Ad} {N:List Str} {ds:List D} {vs:List V} (dm:Dom H S) (r:ag K H S ds vs):VE K H S (aO N ds) (start N vs):=by
 have hl:=r.length;have nown:∀(i:Nat) (x:Sl),(aO N ds)[i]?=some x->¬x.dU:=fun i x h o=>by
  have hm:=List.mem_of_getElem? h;unfold aO at hm;rcases Fk.mp hm with hm|hm
  ·obtain ⟨y,_,e⟩:=FB.mp hm;rw [←e] at o;exact o
  ·rw [(List.mem_replicate.mp hm).2] at o;exact o
 refine ⟨by simp [aO,L2.start,hl],fun i x h=>?_,fun i j x y a _ h _ o=>absurd o (nown i x h),dm⟩;unfold aO at h;unfold L2.start
 by_cases hi:i<ds.length
 ·rw [List.getElem?_append_left (by simpa using hi),List.getElem?_map] at h;rw [List.getElem?_append_left (by simpa [←hl] using hi),List.getElem?_map];cases hq:ds[i]? with
  |none=>rw [hq] at h;cases h
  |some d=>
   rw [hq] at h;cases h;obtain ⟨v,hv,rv⟩:=r.get hq;exact ⟨some v,by rw [hv];rfl,v,rfl,rv⟩
 ·have hi':ds.length<=i:=Nat.le_of_not_lt hi;rw [List.getElem?_append_right (by simpa using hi'),F6,List.getElem?_replicate] at h;rw [List.getElem?_append_right (by simpa [←hl] using hi'),F6,List.getElem?_replicate];rw [←hl];split at h
  ·rename_i z;rw [if_pos z];cases h;exact ⟨none,rfl,rfl⟩
  ·cases h
theorem jY {K:PySem.W.Frag} {H:Hp} {S:Ad} {N:List Str} {ds:List D} {vs:List V} (dm:Dom H S) (r:ag K H S ds vs):Fm K H S H S (aO N ds) (start N vs):=
 ⟨oY dm r,Ext.refl,fun a h=>h,fun a h=>.inl h,dm,fun i x a h o _=>by
  have hm:=List.mem_of_getElem? h;unfold aO at hm;rcases Fk.mp hm with hm|hm
  ·obtain ⟨y,_,e⟩:=FB.mp hm;rw [←e] at o;exact o.elim
  ·rw [(List.mem_replicate.mp hm).2] at o;exact o.elim⟩
noncomputable def ES:Out->D->Prop
 |.rt d,d'=>d=d'
 |.nx _,d'=>d'=.non
 |.rfx c,d'=>d'=c.D
section
variable {P:Program} {w:World} {K:PySem.W.Frag} {mg:Str->Option Value} {base:Heap} {x qual:Str} {st:Stmt} {f:Addr} {fd:FuncData} {N ps:List Str} {k:Nat}
noncomputable def lO (K:PySem.W.Frag) (P:List D->Ow->Prop):Sp:=fun vs H Q _=>∃S ds c,Dom H S∧ag K H S ds vs∧P ds c∧∀a o H',aI H H'->H a=none->H' a=some o->cM K H' (S.and a) a c o->Q (.ref a) H'
theorem DZ (F:Fun K x qual st f fd) (S:bP N ps (aj st)) (len:∀ds xs,Pr ds xs->ds.length=ps.length)
  (hb:∀(cdv:Value) (A:Around) (outer:List Env) (s:Shared) (H:Hp) (E:XK) (ds:List D) (c:Ow),aE k (A.deeper (envOfC qual (aj st) s.heap.objs.size f cdv))->Pr ds c->
   DSs (b9 CX0 P w K mg base N qual (aj st) f cdv A outer s H E).nox (aO N ds) (a7 st) (.rfx c)):aG P w K mg base CX0 (k+1) f fd ps (lO K Pr):=by
 refine F.ok S (fun vs H Q E ⟨S,ds,d,dm,r,p,kk⟩=>by rw [←r.length];exact len ds d p) fun cdv A outer s H vs Q E hr ⟨S',ds,d,dm,r,p,kk⟩=>?_;exact ⟨_,hb cdv A outer s H E ds d hr p,H,S',S',jY dm r,kk⟩
end
section
variable {X:Cx} {ρ:Rho} {k:Nat} {f C:Addr} {fd:FuncData} {ps:List Str} {x m:Str} {p pos apos:Pos} {e o:Expr} {es:List Expr} {ds:List D} {d:D}
theorem gc {K:PySem.W.Frag} {H:Hp} {S:Ad} {ds:List D} {vs:List V} (r:ag K H S ds vs):ag K H S ds (vs++[]):=by rw [List.append_nil];exact r
theorem yo (F:aG X.prog X.w X.K X.mg X.base CX0 k f fd ps (spD X.K Pr)) (hr:aE k X.A) (hg:Gl X x) (hm:X.mg x=some (.ref f)) (hk:PySem.W.keepIn X.K (.ref f)=true) (hb:Binds X.K fd ps [])
  (ha:DA X ρ (e::es) ds) (hp:Pr ds d) (hdb: ~~~((x==("__debug__":Str))=false)) (he:(starEach (e::es) X.env=(false,eval e X.env)::starEach es X.env)⁻¹) (hpl:((backTo pos (starEach es X.env)).any (·.1)=false)⁻¹):
  DE X ρ (.Call (.Name x p) (e::es) [] pos) d:=PE.weak (p8 F hr hg hm hk hb .nil gZ ha hdb he hpl) fun σ H Q ⟨S,ve,kk⟩=>⟨S,ve,fun vs H' ex r=>⟨S,ds,d,(ve.ext ex).dom,gc r,hp,fun v H'' ex' r'=>kk v H'' (ex.trans ex') r'⟩⟩
theorem vj (F:aG X.prog X.w X.K X.mg X.base CX0 k f fd ps (lO X.K Pr)) (hr:aE k X.A) (hg:Gl X x) (hm:X.mg x=some (.ref f)) (hk:PySem.W.keepIn X.K (.ref f)=true) (hb:Binds X.K fd ps [])
  (ha:DA X ρ (e::es) ds) (hp:Pr ds c) (hdb: ~~~((x==("__debug__":Str))=false)) (he:(starEach (e::es) X.env=(false,eval e X.env)::starEach es X.env)⁻¹) (hpl:((backTo pos (starEach es X.env)).any (·.1)=false)⁻¹):
  DFx X ρ (.Call (.Name x p) (e::es) [] pos) c:=PE.weak (p8 F hr hg hm hk hb .nil gZ ha hdb he hpl) fun σ H Q ⟨S,ve,kk⟩=>⟨S,ve,fun vs H' ex r=>⟨S,ds,c,(ve.ext ex).dom,gc r,hp,fun a us H'' ex' hn ha r'=>kk a us H'' (ex.trans ex') (ex.back hn) ha r'⟩⟩
theorem yx (ho:DE X ρ o (.ins C fs)) (hl:fs.lookup m=none) (c:Cls X.K C) (hm:Meth X.K C m f) (F:aG X.prog X.w X.K X.mg X.base CX0 k f fd ps (spD X.K Pr)) (hr:aE k X.A) (hb:Binds X.K fd ps [])
  (ha:DA X ρ (e::es) ds) (hp:Pr (.ins C fs::ds) d) (hst:(starEach (e::es) X.env=(false,eval e X.env)::starEach es X.env)⁻¹) (hpl:((backTo pos (starEach es X.env)).any (·.1)=false)⁻¹)
  (ht:(eval (.Call (.Attribute o m apos) (e::es) [] pos) X.env=(do
   let ov←eval o X.env
   standAt apos.atName
   let (f,first)←holding [ov] (getMethod ov m pl)
   callWith pos f first (backTo pos (starEach (e::es) X.env)) (backToKw pos (keywordEach [] X.env))))⁻¹):
  DE X ρ (.Call (.Attribute o m apos) (e::es) [] pos) d:=PE.weak (qe ho c hm F hr hb .nil gZ ha hst hpl ht) fun σ H Q ⟨S,ve,kk⟩=>⟨S,ve,fun v H1 ex1 r1=>by
   obtain ⟨a,dx,gs,rfl,hh,rf⟩:=r1.iF;exact ⟨a,dx,gs,rfl,hh,rf.none hl,S,ve.ext ex1,fun vs H' ex r=>⟨S,_,d,((ve.ext ex1).ext ex).dom,.cons (r1.ext (ex.to S)) (gc r),hp,fun v H'' ex' r'=>kk v H'' (ex1.trans (ex.trans ex')) r'⟩⟩⟩
theorem va (ho:DE X ρ o (.ins C fs)) (hl:fs.lookup m=none) (c:Cls X.K C) (hm:Meth X.K C m f) (F:aG X.prog X.w X.K X.mg X.base CX0 k f fd ps (spD X.K Pr)) (hr:aE k X.A) (hb:Binds X.K fd ps [])
  (hp:Pr [.ins C fs] d)
  (ht:(eval (.Call (.Attribute o m apos) [] [] pos) X.env=(do
   let ov←eval o X.env
   standAt apos.atName
   let (f,first)←holding [ov] (getMethod ov m pl)
   callWith pos f first (backTo pos (starEach [] X.env)) (backToKw pos (keywordEach [] X.env))))⁻¹):
  DE X ρ (.Call (.Attribute o m apos) [] [] pos) d:=PE.weak (oJ ho c hm F hr hb .nil gZ ht) fun σ H Q ⟨S,ve,kk⟩=>⟨S,ve,fun v H1 ex1 r1=>by
   obtain ⟨a,dx,gs,rfl,hh,rf⟩:=r1.iF;exact ⟨a,dx,gs,rfl,hh,rf.none hl,S,_,d,(ve.ext ex1).dom,.cons r1 .nil,hp,fun v H'' ex' r'=>kk v H'' (ex1.trans ex') r'⟩⟩
theorem AW (ho:DE X ρ o (.ins C fs)) (c:Cls X.K C) (n:b5 X.K C fl) (l:fs.lookup fl=some d) (hb:(attributeBase o fl X.env (eval o X.env)=eval o X.env)⁻¹):DE X ρ (.Attribute o fl pos) d:=
 PE.weak (Cp ho hb) fun σ H Q ⟨S,ve,kk⟩=>⟨S,ve,fun v H1 ex1 r1=>by
  obtain ⟨a,dx,gs,rfl,hh,rf⟩:=r1.iF;obtain ⟨u,hu,ru⟩:=rf.look l;exact ⟨a,C,dx,gs,u,rfl,hh,c,n,hu,kk u H1 ex1 ru⟩⟩
theorem yw (M:Mk X.K C f) (F:aG X.prog X.w X.K X.mg X.base CX0 k f fd ps (spI X.K C Pr)) (hr:aE (k+1) X.A) (hg:Gl X x) (hm:X.mg x=some (.ref C)) (hb:Binds X.K fd ps [])
  (ha:DA X ρ (e::es) ds) (hp:Pr ds fs) (hdb: ~~~((x==("__debug__":Str))=false)) (he:(starEach (e::es) X.env=(false,eval e X.env)::starEach es X.env)⁻¹) (hpl:((backTo pos (starEach es X.env)).any (·.1)=false)⁻¹):
  DE X ρ (.Call (.Name x p) (e::es) [] pos) (.ins C fs):=PE.weak (zF M F hr hg hm hb .nil gZ ha hdb he hpl) fun σ H Q ⟨S,ve,kk⟩=>⟨S,ve,fun vs H1 ex r z dx hz hdx hne=>by
   have e1:aI H1 (upd H1 dx (.own z)):=Ext.new hdx;have hz1:upd H1 dx (.own z) z=none:=by rw [ah (Ne.symm hne)];exact hz
   have e2:aI H1 (upd (upd H1 dx (.own z)) z (.ins C dx [])):=e1.trans (Ext.new hz1);have dm:=(ve.ext ex).dom;refine ⟨S.and z,z,dx,vs++[],ds,fs,rfl,aD,fun a h=>?_,.inr rfl,gc ((r.av (S':=S.and z) fun b h=>h.imp_right fun q=>by rw [q];exact hz).ext (e2.to _)),hp,fun H' gs hk hz' rf=>⟨rfl,?_⟩⟩
   ·rcases h with h|h
    ·exact dm.ext e2 a h
    ·rw [h,aD];intro q;cases q
   ·refine kk _ H' (ex.trans fun a o n h=>hk a o (aC h hz) (e2 a o n h)) (.ins hz' (dm.not hz) (rf.av fun b h=>.inl (.inl h)))⟩
end
set_option autoImplicit true
set_option relaxedAutoImplicit true
section
variable {X:Cx}
theorem nv:∀{ys:List Bool} {its:List Value},Vals (ys.map .bl) its->its=ys.map .bool
 |[],_,.nil=>rfl
 |y::ys,_,.cons r t=>by rw [nv t,show _=Value.bool y from r];rfl
theorem all_range {ys:List Bool}:(List.range ys.length).all (fun i=>ys.getD i true)=ys.all id:=by
 induction ys with
 |nil=>rfl
 |cons y ys ih=>
  rw [List.length_cons,List.range_succ_eq_map,List.all_cons,List.all_map,List.all_cons];rw [←ih];rfl
theorem pq {prog:Program} {w:World} {A:Around} {ys:List Bool}:TruthOf prog w A (fun i v=>(ys.map Value.bool).toArray[i]?=some v) (fun i=>ys.getD i true):=fun i v s Q E hv q=>by
 have hv':(ys.map Value.bool)[i]?=some v:=by simpa using hv
 obtain ⟨b,hb,rfl⟩:=Bz hv';have e:ys.getD i true=b:=by simp [hb]
 exact wpAny_truthy_bool (by rw [←e];exact q)
theorem Dm (hh:A.handled=none) (b:Bool) (I ax:Addr) (hne:ax≠I) (items:Array Value):Walks prog w A I [I,ax] [I] items.size (fun i v=>items[i]?=some v) (fun i h=>Sit h b I ax i∧Ssq h b ax items):=by
 cases b with
 |true=>exact Walks.tuple hh I ax hne items
 |false=>exact Walks.list hh I ax hne items
theorem r6 (hc:X.calm=true):dw X (.builtin "all") (fun xs H Q=>∃(b:Bool) (a:Addr) (ys:List Bool),xs=[.ref a]∧SqB X.K H b a (ys.map .bl)∧Q (.bl (ys.all id)) H):=by
 intro pins s σ H xs us Q I r h;obtain ⟨b,a,ys,rfl,hq,q⟩:=h;obtain ⟨u,rfl,rx⟩:=vals1 r;cases rx;obtain ⟨its,r',pl,hz⟩:=CT.Inv.sqb I hq;have e:=nv r';subst e;have hal:a<s.heap.objs.size:=by
  cases b with
  |true=>obtain ⟨o,ho,_⟩:=pl;exact Cl ho
  |false=>obtain ⟨o,ho,_⟩:=pl;exact Cl ho
 refine call_all_walk (dv pl ⟨_,_,_,_,_,_,_,rfl,Dm (A:=X.A.in1) (I.ok.hd hc) b s.heap.objs.size a (Gc hal) (ys.map Value.bool).toArray,⟨Sit.new b a,pl.at fun o e=>BT _ e⟩,pq (ys:=ys),fun h' tk hk=>?_⟩);refine ⟨.bl (ys.all id),H,I.kept (t':=tk) fun c o e=>hk c o (by simp;exact Gc (Cl e)) (BT _ e),?_,q⟩;show Value.bool _=Value.bool _;rw [List.size_toArray,F6,all_range]
theorem Cd:OpR X (compareOp .Is) (fun x y H Q=>∃a b,x=.bl a∧y=.bl b∧Q (.bl (a==b)) H):=by
 intro pins s σ H x y v u Q I rx ry h;obtain ⟨a,b,rfl,rfl,q⟩:=h;cases rx;cases ry;exact is_bool ⟨.bl _,H,I,rfl,q⟩
theorem tN:OpR X (compareOp .IsNot) (fun x y H Q=>∃a b,x=.bl a∧y=.bl b∧Q (.bl (a !=b)) H):=by
 intro pins s σ H x y v u Q I rx ry h;obtain ⟨a,b,rfl,rfl,q⟩:=h;cases rx;cases ry;exact isnot_bool ⟨.bl _,H,I,rfl,q⟩
theorem vY:OpR X (binaryOp .Add) (fun x y H Q=>∃a b ys,x=.ref a∧y=.ref b∧SqT X.K H a []∧SqT X.K H b ys∧Q (.ref b) H):=by
 intro pins s σ H x y v u Q I rx ry h;obtain ⟨a,b,ys,rfl,rfl,ha,hb,q⟩:=h;cases rx;cases ry;obtain ⟨its,r1,p1,_⟩:=I.tuple ha;obtain ⟨its2,r2,p2,_⟩:=I.tuple hb;cases r1;obtain ⟨⟨cls,dd,data,sl⟩,ho,hc,n,hd⟩:=p1;obtain ⟨⟨cls2,dd2,data2,sl2⟩,ho2,hc2,n2,hd2⟩:=p2;simp only at hc hd hc2 hd2;subst hc hd hc2 hd2;exact concat_meets ⟨_,ho,rfl⟩ ⟨_,ho2,rfl⟩ noFill_tuple_add seq_tuple_add PySem.F.slot_tuple_add PySem.F.entry_tuple_add (PySem.F.args_tuple_add_2 _ _)
  (tuple_addW0 a b #[] its2.toArray n n2 dd dd2 sl sl2 (by simp)) ⟨ho,ho2,⟨.ref b,H,I,rfl,q⟩⟩
theorem zw:OpR X (binaryOp .Mult) (fun x y H Q=>∃a k z,x=.ref a∧y=.int k∧SqT X.K H a [z]∧0<=k∧k<2^20∧(k=1->Q (.ref a) H)∧(k≠1->∀p,H p=none->Q (.ref p) (upd H p (.tup (List.replicate k.toNat z))))):=by
 intro pins s σ H x y v u Q I rx ry h;obtain ⟨a,k,z,rfl,rfl,ha,h0,h1,q1,q2⟩:=h;cases rx;obtain ⟨t,rfl⟩:=ry;obtain ⟨its,r1,p1,_⟩:=I.tuple ha;cases r1 with
 |cons rz rn=>
  cases rn;rename_i uz;obtain ⟨⟨cls,dd,data,sl⟩,ho,hc,n,hd⟩:=p1;simp only at hc hd;subst hc hd;refine wpAny_binaryOp_repeat_ref (T:="tuple") (U:="int") (by decide) ⟨_,ho,rfl⟩ (fun s'=>typeIs_int s' k t) jT F.fills_int_mul F.slot_int_rmul oR F.slot_int_index.lookup
   (call_meets F.slot_int_rmul (typeIs_int s k t) F.entry_int_rmul (F.args_int_rmul_2 _ _) (lM k t a dd _ n sl)
    ⟨ho,rfl,⟨_,ho,rfl⟩,call_meets F.slot_tuple_mul ⟨_,ho,rfl⟩ F.entry_tuple_mul (F.args_tuple_mul_2 _ _) (mO a dd uz n sl k t h0 h1) ⟨ho,?_⟩⟩)
  by_cases k1:k=1
  ·rw [if_pos k1];exact ⟨.ref a,H,I,rfl,q1 k1⟩
  ·rw [if_neg k1];have rr:∀m:Nat,Vals (List.replicate m z) (List.replicate m uz):=fun m=>by
    induction m with
    |zero=>exact .nil
    |succ m ih=>exact .cons rz ih
   refine ⟨.ref s.heap.objs.size,_,I.laid (t':=s.toks) (o:=.tup (List.replicate k.toNat z)) (fun b ob q=>BT _ q) (Gd _) ?_,rfl,q2 k1 _ (I.hok.fresh (Gd _))⟩;exact ⟨by rw [List.length_replicate];show k.toNat<=2^24;omega,_,rr _,IsTup.new _ _⟩
end
set_option autoImplicit true
set_option relaxedAutoImplicit true
section
variable {X:Cx} {ρ:Rho} {e a b:Expr} {es:List Expr} {d da db:D} {ds xs ys:List D} {x:Str} {p pos:Pos}
theorem dR {id:String} {r:List V->Hp->VK->Prop} (hc:dw X (.builtin id) r) (hcd:CD X.K r ds d) (hg:Gl X x) (hm:X.mg x=none) (hv:bootBuiltins x=some (.builtin id)) (ha:DA X ρ (e::es) ds) (hn: ~~~(x≠"__name__")) (hdb: ~~~((x==("__debug__":Str))=false))
  (he:(starEach (e::es) X.env=(false,eval e X.env)::starEach es X.env)⁻¹) (hpl:((backTo pos (starEach es X.env)).any (·.1)=false)⁻¹):DE X ρ (.Call (.Name x p) (e::es) [] pos) d:=PE.weak (v7 hc hg hm hv ha hn hdb he hpl) (rZ hcd)
theorem sh (hc:dw X (.type T) r) (hcd:CD X.K r ds d) (hg:Gl X x) (hm:X.mg x=none) (hv:bootBuiltins x=some (.type T)) (ha:DA X ρ (e::es) ds) (hn: ~~~(x≠"__name__")) (hdb: ~~~((x==("__debug__":Str))=false))
  (he:(starEach (e::es) X.env=(false,eval e X.env)::starEach es X.env)⁻¹) (hpl:((backTo pos (starEach es X.env)).any (·.1)=false)⁻¹):DE X ρ (.Call (.Name x p) (e::es) [] pos) d:=PE.weak (mz hc hg hm hv ha hn hdb he hpl) (rZ hcd)
theorem Sq.sq {K:PySem.W.Frag} {H:Hp} {S:Ad} {v:V} (q:Sq d xs) (r:Rds K H S d v):∃b a vs,v=.ref a∧SqB K H b a vs∧ag K H S xs vs:=by
 obtain ⟨b,a,vs,e,l⟩:=q.later r;exact ⟨b,a,vs,e,l H S Ext.refl fun _ h=>.inl h⟩
theorem SqB.or {K:PySem.W.Frag} {H:Hp} {c:Bool} {a:Addr} {vs:List V} (h:SqB K H c a vs):SqL K H a vs∨SqT K H a vs:=by
 cases c with
 |true=>exact .inr h
 |false=>exact .inl h
theorem A2 (q:Sq da xs) (hg:Gl X "len") (hm:X.mg "len"=none) (ha:DA X ρ [e] [da]) (he:(starEach [e] X.env=(false,eval e X.env)::starEach [] X.env)⁻¹) (hpl:((backTo pos (starEach [] X.env)).any (·.1)=false)⁻¹):DE X ρ (.Call (.Name "len" p) [e] [] pos) (.int xs.length):=
 dR nE (fun vs H S Q rs dm k=>by
  obtain ⟨v,rfl,r⟩:=rs.one;obtain ⟨c,a,us,rfl,sq,rl⟩:=q.sq r;exact ⟨a,us,rfl,sq.or,by rw [←rl.length];exact k _ H Ext.refl (.int _)⟩) hg hm boot_len ha (by decide) (by decide) he hpl
theorem ph:bootBuiltins "tuple"=some (.type "tuple"):=by decide+kernel
theorem rQ:bootBuiltins "all"=some (.builtin "all"):=by decide+kernel
theorem rP:bootBuiltins "abs"=some (.builtin "abs"):=by decide+kernel
theorem eX:bootBuiltins "isinstance"=some (.builtin "isinstance"):=by decide+kernel
theorem vf (q:Sq da xs) (hg:Gl X "tuple") (hm:X.mg "tuple"=none) (ha:DA X ρ [e] [da]) (he:(starEach [e] X.env=(false,eval e X.env)::starEach [] X.env)⁻¹) (hpl:((backTo pos (starEach [] X.env)).any (·.1)=false)⁻¹):DE X ρ (.Call (.Name "tuple" p) [e] [] pos) (.tup xs):=
 sh mL (fun vs H S Q rs dm k=>by
  obtain ⟨v,rfl,r⟩:=rs.one;cases q with
  |lst=>
   obtain ⟨a,us,rfl,sq,rl⟩:=r.lA;exact ⟨a,us,rfl,.inl ⟨sq,fun l hl=>k _ _ (Ext.new hl) (Rds.gi dm hl rl)⟩⟩
  |tup=>
   obtain ⟨a,us,rfl,h,rl⟩:=r.cC;exact ⟨a,us,rfl,.inr ⟨.inl (.inl h),k _ H Ext.refl r⟩⟩) hg hm ph ha (by decide) (by decide) he hpl
theorem wK {K:PySem.W.Frag} {H:Hp} {S:Ad}:∀{ys:List Bool} {vs:List V},ag K H S (ys.map .bl) vs->vs=ys.map .bl
 |[],_,.nil=>rfl
 |y::ys,_,.cons r t=>by rw [wK t,r.blV];rfl
theorem AV {bs:List Bool} (hc:X.calm=true) (q:Sq da (bs.map .bl)) (hg:Gl X "all") (hm:X.mg "all"=none) (ha:DA X ρ [e] [da]) (he:(starEach [e] X.env=(false,eval e X.env)::starEach [] X.env)⁻¹) (hpl:((backTo pos (starEach [] X.env)).any (·.1)=false)⁻¹):
  DE X ρ (.Call (.Name "all" p) [e] [] pos) (.bl (bs.all id)):=
 dR (r6 hc) (fun vs H S Q rs dm k=>by
  obtain ⟨v,rfl,r⟩:=rs.one;obtain ⟨c,a,us,rfl,sq,rl⟩:=q.sq r;exact ⟨c,a,bs,rfl,by rw [←wK rl];exact sq,k _ H Ext.refl (.bl _)⟩) hg hm rQ ha (by decide) (by decide) he hpl
theorem AS {i:Int} (hg:Gl X "abs") (hm:X.mg "abs"=none) (ha:DA X ρ [e] [.int i]) (he:(starEach [e] X.env=(false,eval e X.env)::starEach [] X.env)⁻¹) (hpl:((backTo pos (starEach [] X.env)).any (·.1)=false)⁻¹):
  DE X ρ (.Call (.Name "abs" p) [e] [] pos) (.int (if i<0 then -i else i)):=
 dR uW (fun vs H S Q rs dm k=>by
  obtain ⟨v,rfl,r⟩:=rs.one;exact ⟨i,by rw [r.bh],k _ H Ext.refl (.int _)⟩) hg hm rP ha (by decide) (by decide) he hpl
theorem yq (ha:DE X ρ a (.tup xs)) (hb:DE X ρ b (.tup ys)) (hl:xs.length+ys.length<=sizeLine):DE X ρ (.BinOp a .Add b pos) (.tup (xs++ys)):=by
 by_cases hx:xs=[]
 ·subst hx;exact dC vY (fun x y H S Q rx ry dm k=>by
   obtain ⟨p,us,rfl,h1,r1⟩:=rx.cC;obtain ⟨q,vs,rfl,h2,r2⟩:=ry.cC;cases r1;exact ⟨p,q,vs,rfl,rfl,.inl (.inl h1),.inl (.inl h2),k _ H Ext.refl ry⟩) ha hb
 ·exact dC zt (fun x y H S Q rx ry dm k=>by
   obtain ⟨p,us,rfl,h1,r1⟩:=rx.cC;obtain ⟨q,vs,rfl,h2,r2⟩:=ry.cC;refine ⟨p,q,us,vs,rfl,rfl,.inl (.inl h1),.inl (.inl h2),fun z=>hx ?_,by rw [←r1.length,←r2.length];exact hl,fun z=>?_,fun z l hp=>k _ _ (Ext.new hp) (Rds.gi dm hp (ag.app r1 r2))⟩
   ·subst z;cases r1;rfl
   ·subst z;cases r2;rw [List.append_nil] at k;exact k _ H Ext.refl rx) ha hb
theorem yB (ha:DE X ρ a (.tup [d])) (hb:DE X ρ b (.int k)) (h0:0<=k) (h1:k<2^20):DE X ρ (.BinOp a .Mult b pos) (.tup (List.replicate k.toNat d)):=
 dC zw (fun x y H S Q rx ry dm kk=>by
  obtain ⟨p,us,rfl,h2,r1⟩:=rx.cC;obtain ⟨v,rfl,r⟩:=r1.one;refine ⟨p,k,v,rfl,ry.bh,.inl (.inl h2),h0,h1,fun z=>?_,fun z l hp=>kk _ _ (Ext.new hp) (Rds.gi dm hp (ag.rep r _))⟩;subst z;exact kk _ H Ext.refl rx) ha hb
theorem wJ {K:PySem.W.Frag} {H:Hp} {S:Ad} {vs:List V} {i:Int} (r:ag K H S xs vs) (h:atI xs i=some d):∃v,atI vs i=some v∧Rds K H S d v:=by
 unfold atI at h ⊢;rw [←r.length];cases q:ixN xs.length i with
 |none=>rw [q] at h;cases h
 |some j=>
  rw [q] at h;exact r.get h
theorem A0 (ha:DE X ρ a (.lst xs)) (hb:DE X ρ b (.int i)) (h:atI xs i=some d) (hs:k6 b:=by exact fun _ _=>rfl):DE X ρ (.Subscript a b pos) d:=
 PE.weak (xN y8 ha hb hs) (oG fun x y H S Q rx ry dm k=>by
  obtain ⟨p,us,rfl,sq,r1⟩:=rx.lA;obtain ⟨v,hv,r⟩:=wJ r1 h;exact ⟨p,us,i,v,rfl,ry.bh,sq,hv,k _ H Ext.refl r⟩)
theorem A1 (ha:DE X ρ a (.tup xs)) (hb:DE X ρ b (.int i)) (h:atI xs i=some d) (hs:k6 b:=by exact fun _ _=>rfl):DE X ρ (.Subscript a b pos) d:=
 PE.weak (xN BE ha hb hs) (oG fun x y H S Q rx ry dm k=>by
  obtain ⟨p,us,rfl,h2,r1⟩:=rx.cC;obtain ⟨v,hv,r⟩:=wJ r1 h;exact ⟨p,us,i,v,rfl,ry.bh,.inl (.inl h2),hv,k _ H Ext.refl r⟩)
theorem u7 (ha:DE X ρ a (.int i)) (hb:DE X ρ b (.int j)) (hc:DE X ρ c (.int k)) (hm:lastMarks [CmpOp.LtE,CmpOp.Lt] [b,c]=false:=by with_unfolding_all rfl):
  DE X ρ (.Compare a [.LtE,.Lt] [b,c] pos) (.bl (decide (i<=j)&&decide (j<k))):=PE.weak (v8 xI xJ ha hb hc hm) fun σ H Q ⟨S,ve,kk⟩=>
 ⟨S,ve,fun x H1 e1 r1=>⟨S,ve.ext e1,fun y H2 e2 r2=>⟨i,j,r1.bh,r2.bh,decide (i<=j),rfl,by
  cases hq:decide (i<=j) with
  |false=>
   rw [hq] at kk;exact fT (kk _ H2 (e1.trans e2) (.bl _))
  |true=>
   rw [hq,Bool.true_and] at kk;exact fx ⟨S,(ve.ext e1).ext e2,fun z H3 e3 r3=>⟨j,k,r2.bh,r3.bh,kk _ H3 (e1.trans (e2.trans e3)) (.bl _)⟩⟩⟩⟩⟩
structure Isi (K:PySem.W.Frag) (C:Addr):Prop where
 cl:Cls K C
 ha:PySem.W.findIn K (.ref C) "__class__"=some (some (.builtin "object.__class__"))
 hn:PySem.W.specialIn K (.builtin "object.__class__") "__get__"=some (some (.builtin "getset_descriptor.__get__"))
 tk:PySem.W.takesIn K (.builtin "object.__class__")=some true
 mr:PySem.W.mroIn K C (.type "object")=some true
structure jz (K:PySem.W.Frag) (C:Addr):Prop where
 cl:eC K C
 ha:PySem.W.findIn K (.ref C) "__class__"=some (some (.builtin "object.__class__"))
 hn:PySem.W.specialIn K (.builtin "object.__class__") "__get__"=some (some (.builtin "getset_descriptor.__get__"))
 tk:PySem.W.takesIn K (.builtin "object.__class__")=some true
theorem jz.find {K:PySem.W.Frag} {C:Addr} (i:jz K C) (od:Option Obj):PySem.W.findObj K C od "__class__"=some (.bind (.builtin "getset_descriptor.__get__") (.builtin "object.__class__")):=by
 obtain ⟨cd,hc,_⟩:=PySem.W.any_some i.cl.ov;unfold PySem.W.findObj;rw [hc,Option.bind_some,i.ha,Option.bind_some];simp [i.hn,i.tk]
inductive TyD (K:PySem.W.Frag):D->Value->Prop
 |non:TyD K .non (.type "NoneType")
 |bl (b:Bool):TyD K (.bl b) (.type "bool")
 |int (i:Int):TyD K (.int i) (.type "int")
 |str (x:Str):TyD K (.str x) (.type "str")
 |tup (xs:List D):TyD K (.tup xs) (.type "tuple")
 |lst (xs:List D):TyD K (.lst xs) (.type "list")
 |ins {C:Addr} (fs:List (Str×D)) (i:Isi K C):TyD K (.ins C fs) (.ref C)
 |exc {C:Addr} (fs:List (Str×D)) (i:jz K C):TyD K (.exc C fs) (.ref C)
 |dct (kvs:List (D×D)):TyD K (.dct kvs) (.type "dict")
 |pdc (es:List (PK×D)):TyD K (.pdc es) (.type "dict")
theorem xD (I:Inv X pins σ H s) (r:Rds X.K H S d v) (rv:RelV v u) (ty:TyD X.K d t):
  ∃Hh:Heap->Prop,PySem.W.KitX X.K u t Hh∧Hh s.heap∧u≠.builtin "__main__.__loader__#opaque":=by
 cases ty with
 |non=>cases r;cases (show u=Value.none from rv);exact ⟨_,PySem.W.kitx_none,True.intro,fun z=>nomatch z⟩
 |bl b=>cases r;cases (show u=Value.bool b from rv);exact ⟨_,PySem.W.kitx_bool,True.intro,fun z=>nomatch z⟩
 |int i=>cases r;obtain ⟨t,q⟩:=(show ∃t,u=Value.int i t from rv);cases q;exact ⟨_,PySem.W.kitx_int,True.intro,fun z=>nomatch z⟩
 |str x=>cases r;obtain ⟨t,q⟩:=(show ∃t,u=Value.str x t from rv);cases q;exact ⟨_,PySem.W.kitx_str,True.intro,fun z=>nomatch z⟩
 |tup xs=>
  obtain ⟨a,vs,rfl,h,_⟩:=r.cC;cases (show u=Value.ref a from rv);obtain ⟨its,_,⟨o,h1,h2,_⟩,_⟩:=I.tuple (.inl (.inl h));exact ⟨_,PySem.W.kitx_tuple,⟨o,h1,h2⟩,fun z=>nomatch z⟩
 |lst xs=>
  obtain ⟨a,vs,rfl,h,_⟩:=r.lA;cases (show u=Value.ref a from rv);obtain ⟨its,_,⟨o,n,h1,h2,_⟩,_⟩:=I.list h;exact ⟨_,PySem.W.kitx_list,⟨o,h1,h2⟩,fun z=>nomatch z⟩
 |@ins C fs i=>
  obtain ⟨a,dx,gs,rfl,h,_⟩:=r.iF;cases (show u=Value.ref a from rv);obtain ⟨mA,O,_⟩:=i8 I.hok h;obtain ⟨od,J,_⟩:=O.look;exact ⟨_,PySem.W.kitx_own (i.cl.get _) i.cl.hd i.ha i.hn i.tk i.mr,J,fun z=>nomatch z⟩
 |@exc C fs i=>
  cases r with
  |@jJ fr a _ h n=>
   cases (show u=Value.ref a from rv);obtain ⟨vs,h1,_⟩:=fe (I.hok a _ h);exact ⟨_,oh (ox:=⟨.ref C,none,.fields vs,#[]⟩) (od:=none) i.cl (i.find none),⟨h1,rfl,rfl,trivial⟩,fun z=>nomatch z⟩
  |@exc fr a _ dx _ gs h h2 n n2 rf=>
   cases (show u=Value.ref a from rv);obtain ⟨vs,mA,odd,h1,_,_,_,J,_⟩:=EN I h h2;exact ⟨_,oh i.cl (i.find _),J,fun z=>nomatch z⟩
 |dct kvs=>
  cases r with
  |@dK a ks _ h _ _ _=>
   cases (show u=Value.ref a from rv);obtain ⟨_,_,_,_,o,_,_,h1,h2,_⟩:=I.hok a _ h;exact ⟨_,PySem.W.kitx_dict,⟨o,h1,h2.1⟩,fun z=>nomatch z⟩
 |pdc es=>
  cases r with
  |@dP a ep ks _ h _ _=>
   cases (show u=Value.ref a from rv);obtain ⟨_,_,_,_,o,_,h1,h2,_⟩:=cm I.hok h;exact ⟨_,PySem.W.kitx_dict,⟨o,h1,h2.1⟩,fun z=>nomatch z⟩
inductive ClD:D->Value->Prop
 |ty (n:String):ClD (.ty n) (.type n)
 |cl (C:Addr):ClD (.cl C) (.ref C)
inductive ju:List D->List Value->Prop
 |nil:ju [] []
 |cons {d:D} {c:Value} {ds:List D} {cs:List Value}:ClD d c->ju ds cs->ju (d::ds) (c::cs)
theorem ClD.val {K:PySem.W.Frag} {H:Hp} {S:Ad} {v:V} {u c:Value} (h:ClD d c) (r:Rds K H S d v) (rv:RelV v u):u=c:=by
 cases h with
 |ty n=>cases r;exact rv
 |cl C=>cases r;exact rv
theorem ju.vals {K:PySem.W.Frag} {H:Hp} {S:Ad}:∀{ds:List D} {vs:List V} {us cs:List Value},ju ds cs->ag K H S ds vs->Vals vs us->us=cs
 |_,_,_,_,.nil,.nil,.nil=>rfl
 |_,_,_,_,.cons h t,.cons r rt,.cons q qt=>by rw [h.val r q,ju.vals t rt qt]
theorem l5 {t:TA} {R:V->V->Hp->VK->Prop} (hR:∀(pins:List (Addr×Obj)) (s:Shared) (σ:St) (H:Hp) (x y:V) (u c:Value) (Q:VK),Inv X pins σ H s->RelV x u->RelV y c->R x y H Q->wpAny (model X.prog X.w) X.A (call (.builtin "isinstance") [u,c]) (EP X pins σ Q) X.xe s):
  dw X (.builtin "isinstance") (fun xs H Q=>∃x y,xs=[x,y]∧R x y H Q):=by
 intro pins s σ H xs us Q I r h;obtain ⟨x,y,rfl,q⟩:=h;cases r with
 |cons r1 r2=>
  cases r2 with
  |cons r2 r3=>
   cases r3;exact hR pins s σ H x y _ _ Q I r1 r2 q
theorem AZ {t c:Value} {q:Bool} {dc:D} (hg:Gl X "isinstance") (hm:X.mg "isinstance"=none) (ty:TyD X.K d t) (cl:ClD dc c) (hk:PySem.W.kitOne X.K t c=some q) (ha:DA X ρ [a,b] [d,dc])
  (he:(starEach [a,b] X.env=(false,eval a X.env)::starEach [b] X.env)⁻¹) (hpl:((backTo pos (starEach [b] X.env)).any (·.1)=false)⁻¹):DE X ρ (.Call (.Name "isinstance" p) [a,b] [] pos) (.bl q):=by
 refine dR (l5 (t:=rJ) (R:=fun x y H Q=>∃S,Rds X.K H S d x∧Rds X.K H S dc y∧Q (.bl q) H) ?_) (fun vs H S Q rs dm k=>?_) hg hm eX ha (by decide) (by decide) he hpl
 ·intro pins s σ H x y u cv Q I rx ry ⟨S,r1,r2,qq⟩;obtain ⟨Hh,Z,hh,hx⟩:=xD I r1 rx ty;rw [cl.val r2 ry];exact PySem.W.kia_one Z I.kIn hh hk hx fun tk=>⟨.bl q,H,I.tok tk,rfl,qq⟩
 ·obtain ⟨v,u,rfl,r1,r2⟩:=rs.two;exact ⟨v,u,rfl,S,r1,r2,k _ H Ext.refl (.bl _)⟩
theorem yu {t:Value} {cs:List Value} {q:Bool} {dcs:List D} (hg:Gl X "isinstance") (hm:X.mg "isinstance"=none) (ty:TyD X.K d t) (cl:ju dcs cs) (hk:PySem.W.kitAny X.K t cs=some q) (ha:DA X ρ [a,b] [d,.tup dcs])
  (he:(starEach [a,b] X.env=(false,eval a X.env)::starEach [b] X.env)⁻¹) (hpl:((backTo pos (starEach [b] X.env)).any (·.1)=false)⁻¹):DE X ρ (.Call (.Name "isinstance" p) [a,b] [] pos) (.bl q):=by
 refine dR (l5 (t:=rJ) (R:=fun x y H Q=>∃S,Rds X.K H S d x∧Rds X.K H S (.tup dcs) y∧Q (.bl q) H) ?_) (fun vs H S Q rs dm k=>?_) hg hm eX ha (by decide) (by decide) he hpl
 ·intro pins s σ H x y u cv Q I rx ry ⟨S,r1,r2,qq⟩;obtain ⟨Hh,Z,hh,hx⟩:=xD I r1 rx ty;obtain ⟨tp,us,rfl,h2,rl⟩:=r2.cC;cases (show cv=Value.ref tp from ry);obtain ⟨its,rv,⟨⟨oc,od,odt,osl⟩,h3,h4,n,h5⟩,_⟩:=I.tuple (.inl (.inl h2));simp only at h4 h5;subst h4 h5;rw [←cl.vals rl rv] at hk;exact PySem.W.kia_tup Z I.kIn hh h3 hk hx fun tk=>⟨.bl q,H,I.tok tk,rfl,qq⟩
 ·obtain ⟨v,u,rfl,r1,r2⟩:=rs.two;exact ⟨v,u,rfl,S,r1,r2,k _ H Ext.refl (.bl _)⟩
mutual
noncomputable def toPy:D->PyData
 |.non=>.none|.bl b=>.bool b|.int i=>.int i|.str x=>.str x
 |.tup xs=>.tuple (eO xs)|.lst xs=>.list (eO xs)
 |.ins _ _=>.none|.ty _=>.none|.cl _=>.none|.exc _ _=>.none|.dct _=>.none|.pdc _=>.none
noncomputable def eO:List D->List PyData
 |[]=>[]
 |x::xs=>toPy x::eO xs
end
mutual
noncomputable def bu:D->Bool
 |.non=>true|.bl _=>true|.int _=>true|.str x=>PyData.strOk x
 |.tup xs=>cz xs|.lst xs=>cz xs
 |.ins _ _=>false|.ty _=>false|.cl _=>false|.exc _ _=>false|.dct _=>false|.pdc _=>false
noncomputable def cz:List D->Bool
 |[]=>true
 |x::xs=>bu x&&cz xs
end
mutual
theorem dQ:∀{d:D},bu d=true->(toPy d).canLay0=true
 |.non,_=>rfl
 |.bl _,_=>rfl
 |.int _,_=>rfl
 |.str x,h=>h
 |.tup xs,h=>jF (xs:=xs) h
 |.lst xs,h=>jF (xs:=xs) h
 |.ins _ _,h=>nomatch h
 |.exc _ _,h=>nomatch h
 |.dct _,h=>nomatch h
 |.pdc _,h=>nomatch h
 |.ty _,h=>nomatch h
 |.cl _,h=>nomatch h
theorem jF:∀{xs:List D},cz xs=true->PyData.canLayAll0 (eO xs)=true
 |[],_=>rfl
 |x::xs,h=>by
  have h':bu x=true∧cz xs=true:=by simpa [cz] using h
  show (PyData.canLay0 (toPy x)&&PyData.canLayAll0 (eO xs))=true;rw [dQ h'.1,jF h'.2];rfl
end
section
variable {pins:List (Addr×Obj)} {σ:St} {H:Hp} {s:Shared} {S:Ad}
mutual
theorem dX (I:Inv X pins σ H s):∀(d:D) {v:V} {u:Value},bu d=true->Rds X.K H S d v->RelV v u->∃as,Reads s.heap u (toPy d) as
 |.non,_,u,_,r,q=>by cases r;cases (show u=Value.none from q);exact ⟨_,.none⟩
 |.bl b,_,u,_,r,q=>by cases r;cases (show u=Value.bool b from q);exact ⟨_,.bool b⟩
 |.int i,_,u,_,r,q=>by cases r;obtain ⟨t,q⟩:=(show ∃t,u=Value.int i t from q);cases q;exact ⟨_,.int i t⟩
 |.str x,_,u,_,r,q=>by cases r;obtain ⟨t,q⟩:=(show ∃t,u=Value.str x t from q);cases q;exact ⟨_,.str x t⟩
 |.tup xs,_,u,hd,r,q=>by
  obtain ⟨a,vs,rfl,h,rl⟩:=r.cC;cases (show u=Value.ref a from q);obtain ⟨its,rv,⟨o,h1,h2,k,h3⟩,_⟩:=I.tuple (.inl (.inl h));obtain ⟨as,ra⟩:=jX I xs hd rl rv;exact ⟨_,.tuple h1 h2 h3 ra⟩
 |.lst xs,_,u,hd,r,q=>by
  obtain ⟨a,vs,rfl,h,rl⟩:=r.lA;cases (show u=Value.ref a from q);obtain ⟨its,rv,⟨o,k,h1,h2,_,h3⟩,_⟩:=I.list h;obtain ⟨as,ra⟩:=jX I xs hd rl rv;exact ⟨_,.list h1 h2 h3 ra⟩
 |.ins _ _,_,_,h,_,_=>nomatch h
 |.exc _ _,_,_,h,_,_=>nomatch h
 |.dct _,_,_,h,_,_=>nomatch h
 |.pdc _,_,_,h,_,_=>nomatch h
 |.ty _,_,_,h,_,_=>nomatch h
 |.cl _,_,_,h,_,_=>nomatch h
theorem jX (I:Inv X pins σ H s):∀(ds:List D) {vs:List V} {us:List Value},cz ds=true->ag X.K H S ds vs->Vals vs us->∃as,ReadsAll s.heap us (eO ds) as
 |[],_,_,_,r,q=>by cases r;cases q;exact ⟨_,.nil⟩
 |d::ds,_,_,hd,r,q=>by
  cases r with
  |cons r t=>
   cases q with
   |cons q qt=>
    have h':bu d=true∧cz ds=true:=by simpa [cz] using hd
    obtain ⟨as,ra⟩:=dX I d h'.1 r q;obtain ⟨bs,rb⟩:=jX I ds h'.2 t qt;exact ⟨_,.cons ra rb⟩
end
end
noncomputable def eqD (d d':D):Bool:=PyData.eqv (toPy d) (toPy d')
theorem Cb {hu:X.A.units+64<cLine} (h1:bu da=true) (h2:bu db=true) (hd:min (toPy da).depth (toPy db).depth<=64):OpR X (compareOp .Eq) (fun x y H Q=>∃S,Rds X.K H S da x∧Rds X.K H S db y∧Q (.bl (eqD da db)) H):=by
 intro pins s σ H x y v u Q I rx ry ⟨S,r1,r2,q⟩;obtain ⟨as,ra⟩:=dX I _ h1 r1 rx;obtain ⟨bs,rb⟩:=dX I _ h2 r2 ry;exact SeqAt.compareEq_reads ra rb (dQ h1) (dQ h2) (Ga (Nat.add_le_add_left hd _) hu) ⟨.bl _,H,I,rfl,q⟩
theorem Cg {hu:X.A.units+64<cLine} (h1:bu da=true) (h2:bu db=true) (hd:min (toPy da).depth (toPy db).depth<=64):OpR X (compareOp .NotEq) (fun x y H Q=>∃S,Rds X.K H S da x∧Rds X.K H S db y∧Q (.bl (!eqD da db)) H):=by
 intro pins s σ H x y v u Q I rx ry ⟨S,r1,r2,q⟩;obtain ⟨as,ra⟩:=dX I _ h1 r1 rx;obtain ⟨bs,rb⟩:=dX I _ h2 r2 ry;exact SeqAt.compareNe_reads ra rb (dQ h1) (dQ h2) (Ga (Nat.add_le_add_left hd _) hu) ⟨.bl _,H,I,rfl,q⟩
end
set_option autoImplicit true
set_option relaxedAutoImplicit true
noncomputable def dY (scope sc:Scope):Scope:={scope with names:=scope.names.map fun (n,k)=>if (k==.free&&sc.kind==.function&&sc.names.lookup n==some .cell) then (n,.cell) else (n,k)}
noncomputable def lg (scope:Scope) (own:List Str) (cap:List (Str×Nat)) (sc:Scope) (N:List Str):Bool:=
 decide (scope.kind=.function)&&decide ((scope.names.map (·.1)).Nodup)&&(scope.names.all fun x=>x.2 !=.free||sc.names.lookup x.1==some .cell||sc.names.lookup x.1==some .free)&&
  (own.all fun x=>scope.names.contains (x,.local)||scope.names.contains (x,.cell))&&(cap.all fun p=>N[p.2]?==some p.1&&scope.names.contains (p.1,.free))&&decide ((own++cap.map (·.1)).Nodup)
theorem CS.of (sc:Scope) (N:List Str) (h1:X.env.scope=sc) (h2:X.N=N) (h:lg scope own cap sc N=true):CS X scope own cap:=by
 unfold lg at h;simp only [Bool.and_eq_true,decide_eq_true_eq,List.all_eq_true,Bool.or_eq_true,beq_iff_eq,bne_iff_ne,ne_eq,List.contains_iff_mem] at h;obtain ⟨⟨⟨⟨⟨a1,a2⟩,a3⟩,a4⟩,a5⟩,a6⟩:=h;subst h2;refine ⟨a1,a2,fun x hx e=>?_,a4,a5,a6⟩;show X.env.scope.names.lookup x.1=_∨X.env.scope.names.lookup x.1=_;rw [h1];rcases a3 x hx with (z|z)|z
 ·exact absurd e z
 ·exact .inl z
 ·exact .inr z
theorem mK:∀{ks ns:List Int},bE (ks.map .int) (ns.map .int)=(ks.zip ns).map fun p=>.tup [.int p.1,.int p.2]
 |[],_=>by simp [bE]
 |_::_,[]=>by simp [bE]
 |k::ks,n::ns=>by simp [bE,mK]
noncomputable def bo (n:Int):List Int:=(List.range n.toNat).map fun k:Nat=>(k:Int)
theorem uC (n:Int):j1 n.toNat=(bo n).map D.int:=by simp [j1,bo]
theorem tH (h:k∈bo n):0<=k∧k<n:=by
 obtain ⟨i,hi,rfl⟩:=FB.mp h;have:=List.mem_range.mp hi;omega
theorem sD (hg:Gl X "range") (hm:X.mg "range"=none) (ha:DA X ρ [a] [.int j]) (h1: -(2^62)<=j) (h2:j<2^62) (hs:(starEach [a] X.env=[(false,eval a X.env)])⁻¹):DI X tg ρ (.Call (.Name "range" p) [a] [] pos) ((bo j).map D.int):=by
 rw [←uC];exact vn hg hm ha h1 h2 hs
noncomputable abbrev ja (ns:List Int):List D:=ns.map .int
noncomputable abbrev tupI (ns:List Int):D:=.tup (ns.map .int)
noncomputable def Wk (ρ ρ':Rho):Prop:=ρ'.length=ρ.length∧∀(i:Nat) (x:Sl),ρ'[i]?=some x->x=.any∨ρ[i]?=some x
theorem Fm.wk {K:PySem.W.Frag} {H₀ H:Hp} {S₀ S:Ad} {ρ ρ':Rho} {σ:St} (w:Wk ρ ρ') (f:Fm K H₀ S₀ H S ρ σ):Fm K H₀ S₀ H S ρ' σ:=by
 have go:∀(i:Nat) (x:Sl),ρ'[i]?=some x->x.dU->ρ[i]?=some x:=fun i x h o=>by
  rcases w.2 i x h with z|z
  ·rw [z] at o;exact o.elim
  ·exact z
 refine ⟨⟨w.1.trans f.ve.len,fun i x h=>?_,fun i j x y a hij h1 h2 o1 o2=>f.ve.dist i j x y a hij (go i x h1 o1) (go j y h2 o2) o1 o2,f.ve.dom⟩,f.ext,f.sub,f.new,f.dm,fun i x a h o=>f.own i x a (go i x h o) o⟩;rcases w.2 i x h with z|z
 ·subst z;have hi:=(FS.mp h).1;have hi':i<σ.length:=by rw [←f.ve.len,←w.1];exact hi
  exact ⟨σ[i],by simp [hi'],trivial⟩
 ·exact f.ve.rel i x z
section
variable {X:Cx} {ρ ρ' ρ1:Rho} {sts:List Stmt} {st:Stmt} {o:Out}
theorem lj (w:Wk ρ ρ') (h:DSs X ρ' sts o):DSs X ρ sts o:=PSs.weak h fun E σ H ⟨H₀,S₀,S,f,k⟩=>⟨H₀,S₀,S,f.wk w,k⟩
end
mutual
noncomputable def ak:D->Bool
 |.non=>true|.bl _=>true|.int _=>true|.str _=>true|.ty _=>true|.cl _=>false
 |.tup xs=>aW xs|.lst _=>false|.ins _ fs=>gj fs|.exc _ _=>false|.dct _=>false|.pdc _=>false
noncomputable def aW:List D->Bool
 |[]=>true
 |x::xs=>ak x&&aW xs
noncomputable def gj:List (Str×D)->Bool
 |[]=>true
 |(_,x)::xs=>ak x&&gj xs
end
section
variable {K:PySem.W.Frag} {H:Hp} {S:Ad} {a:Addr} {us:List V} {o:HO}
noncomputable def gw (a:Addr) (o:HO):Prop:=(∃vs,o=.lst vs)∨∃ep kvs,o=PD a ep kvs
theorem gw.tup (c:gw a o) (ha:H a=some o) (e:H b=some (.tup vs)):b≠a:=fun q=>by
 rw [q,ha] at e;rcases c with ⟨_,rfl⟩|⟨_,_,rfl⟩<;>cases e
theorem gw.ins (c:gw a o) (ha:H a=some o) (e:H b=some (.ins C dx gs)):b≠a:=fun q=>by
 rw [q,ha] at e;rcases c with ⟨_,rfl⟩|⟨_,_,rfl⟩<;>cases e
mutual
theorem Rds.cZ (cc:gw a o) (ha:H a=some o):∀(d:D) {v:V},ak d=true->Rds K H S d v->Rds K H (S.and a) d v
 |.non,_,_,r=>by cases r;exact .non
 |.bl b,_,_,r=>by cases r;exact .bl b
 |.int i,_,_,r=>by cases r;exact .int i
 |.str x,_,_,r=>by cases r;exact .str x
 |.ty n,_,_,r=>by cases r;exact .ty n
 |.cl _,_,h,_=>nomatch h
 |.lst _,_,h,_=>nomatch h
 |.exc _ _,_,h,_=>nomatch h
 |.dct _,_,h,_=>nomatch h
 |.pdc _,_,h,_=>nomatch h
 |.tup xs,_,h,r=>by
  cases r with
  |tup e n r=>exact .tup e (fun z=>z.elim n (cc.tup ha e)) (ag.cZ cc ha xs h r)
 |.ins C fs,_,h,r=>by
  cases r with
  |ins e n r=>exact .ins e (fun z=>z.elim n (cc.ins ha e)) (aP.cZ cc ha fs h r)
theorem ag.cZ (cc:gw a o) (ha:H a=some o):∀(ds:List D) {vs:List V},aW ds=true->ag K H S ds vs->ag K H (S.and a) ds vs
 |[],_,_,r=>by cases r;exact .nil
 |d::ds,_,h,r=>by
  have h':ak d=true∧aW ds=true:=by simpa [aW] using h
  cases r with
  |cons r t=>exact .cons (Rds.cZ cc ha d h'.1 r) (ag.cZ cc ha ds h'.2 t)
theorem aP.cZ (cc:gw a o) (ha:H a=some o):∀(ds:List (Str×D)) {vs:List (Str×V)},gj ds=true->aP K H S ds vs->aP K H (S.and a) ds vs
 |[],_,_,r=>by cases r;exact .nil
 |(n,d)::ds,_,h,r=>by
  have h':ak d=true∧gj ds=true:=by simpa [gj] using h
  cases r with
  |cons r t=>exact .cons (Rds.cZ cc ha d h'.1 r) (aP.cZ cc ha ds h'.2 t)
end
end
theorem cJ:∀ks:List Int,aW (ks.map .int)=true
 |[]=>rfl
 |k::ks=>by show (true&&aW (ks.map .int))=true;rw [cJ ks];rfl
theorem VE.xg {K:PySem.W.Frag} {H:Hp} {S:Ad} {ρ:Rho} {σ:St} {i:Nat} {c:Ow} (f:VE K H S ρ σ) (hr:ρ[i]?=some (.owx c)):∃S' a o,H a=some o∧gw a o∧(∀b,S b->S' b∨b=a)∧VE K H S' (ρ.set i (.val c.D)) σ:=by
 obtain ⟨v,q1,a,vs,rfl,sa,ha,r⟩:=f.rel i _ hr;have hi:=(FS.mp hr).1;have own_ne:∀(m:Nat) (x:Sl) (c:Addr),i≠m->ρ[m]?=some x->x.dU->σ[m]?=some (some (.ref c))->c≠a:=fun m x c hm h ho hs z=>f.dist i m _ x a hm hr h trivial ho q1 (by rw [hs,z]);refine ⟨fun b=>S b∧b≠a,a,vs,ha,r.sort,fun b h=>(Classical.em (b=a)).elim .inr fun n=>.inl ⟨h,n⟩,⟨by simpa using f.len,fun j x h=>?_,fun j k x y b hjk h1 h2 o1 o2 h3=>?_,fun b h=>f.dom b h.1⟩⟩
 ·by_cases hj:i=j
  ·subst hj;rw [F3 hi] at h;cases h;exact ⟨_,q1,_,rfl,(r.av fun b h=>.inl h.1).rds ha fun z=>z.2 rfl⟩
  ·rw [F4 hj] at h;obtain ⟨v,h1,h2⟩:=f.rel j x h;refine ⟨v,h1,?_⟩;cases x with
   |nil=>exact h2
   |any=>trivial
   |val d=>obtain ⟨u,p,r⟩:=h2;exact ⟨u,p,r.av fun b h=>.inl h.1⟩
   |owx zs=>exact RO.av (x:=.owx zs) (fun b h=>.inl h.1) (fun b z s=>⟨s,own_ne j _ b hj h trivial (by rw [h1,z])⟩) h2
   |new C y dx fs=>exact RO.av (x:=.new C y dx fs) (fun b h=>.inl h.1) (fun b z s=>⟨s,own_ne j _ b hj h trivial (by rw [h1,z])⟩) h2
 ·have n1:i≠j:=fun z=>by
   subst z;rw [F3 hi] at h1;cases h1;exact o1
  have n2:i≠k:=fun z=>by
   subst z;rw [F3 hi] at h2;cases h2;exact o2
  rw [F4 n1] at h1;rw [F4 n2] at h2;exact f.dist j k x y b hjk h1 h2 o1 o2 h3
theorem vd (hr:ρ[i]?=some (.owx c)) (hf:ak d=true) (h:DE X (ρ.set i (.val c.D)) e d):DE X ρ e d:=PE.weak h fun σ H Q ⟨S,ve,k⟩=>by
 obtain ⟨S',a,us,ha,cc,hS,ve'⟩:=ve.xg hr;refine ⟨S',ve',fun v H' ex r=>k v H' ex ?_⟩;exact (Rds.cZ cc (ex _ _ (fun z=>z) ha) d hf r).av fun b h=>.inl (hS b h)
set_option autoImplicit true
set_option relaxedAutoImplicit true
noncomputable def bq:List D->List D->List D->List D
 |x::xs,y::ys,z::zs=>.tup [x,y,z]::bq xs ys zs
 |_,_,_=>[]
theorem mI:∀{xs ys zs:List D} {i:Nat} {d:D},(bq xs ys zs)[i]?=some d->∃x y z,xs[i]?=some x∧ys[i]?=some y∧zs[i]?=some z∧d=.tup [x,y,z]
 |x::xs,y::ys,z::zs,0,d,h=>by
  simp [bq] at h;exact ⟨x,y,z,rfl,rfl,rfl,h.symm⟩
 |x::xs,y::ys,z::zs,i+1,d,h=>by
  simp [bq] at h;obtain ⟨x',y',z',h1,h2,h3,h4⟩:=mI h;exact ⟨x',y',z',by simpa using h1,by simpa using h2,by simpa using h3,h4⟩
 |[],_,_,_,_,h=>by simp [bq] at h
 |_::_,[],_,_,_,h=>by simp [bq] at h
 |_::_,_::_,[],_,_,h=>by simp [bq] at h
theorem mJ:∀{xs ys zs:List D},(bq xs ys zs).length=min xs.length (min ys.length zs.length)
 |x::xs,y::ys,z::zs=>by simp [bq,mJ]
 |[],_,_=>by simp [bq]
 |_::_,[],_=>by simp [bq]
 |_::_,_::_,[]=>by simp [bq]
section
variable {X:Cx} {ρ:Rho} {pos p tpos:Pos} {a b c:Expr}
theorem yG {da db dc:D} {xs ys zs:List D} {elts:List Expr} {k} (hg:Gl X "zip") (hm:X.mg "zip"=none) (qa:Sq da xs) (qb:Sq db ys) (qc:Sq dc zs) (ha:DA X ρ [a,b,c] [da,db,dc])
  (hs:(starEach [a,b,c] X.env=[(false,eval a X.env),(false,eval b X.env),(false,eval c X.env)])⁻¹) (hs2:(starEach [b,c] X.env=[(false,eval b X.env),(false,eval c X.env)])⁻¹):DI X (.Tuple elts k tpos) ρ (.Call (.Name "zip" p) [a,b,c] [] pos) (bq xs ys zs):=
 sF hg hm ha (.cons qa (.cons qb (.cons qc .nil))) (.inr rfl) (by rw [hs,hs2]) (by rw [hs2];rfl) (fun i d h=>by obtain ⟨x,y,z,hx,hy,hz,rfl⟩:=mI h;exact ⟨_,rfl,.cons hx (.cons hy (.cons hz .nil))⟩) fun i h=>by
  rw [mJ] at h
  by_cases z:xs.length<=i
  ·exact ⟨xs,by simp,z⟩
  by_cases z:ys.length<=i
  ·exact ⟨ys,by simp,z⟩
  ·exact ⟨zs,by simp,by omega⟩
end
inductive WhO (X:Cx) (c:Expr) (body:List Stmt):Nat->Rho->Out->Prop
 |stop {n:Nat} {ρ:Rho}:DT X ρ c false->WhO X c body n ρ (.nx ρ)
 |turn {n:Nat} {ρ ρ':Rho} {o:Out}:DT X ρ c true->DSs X ρ body (.nx ρ')->WhO X c body n ρ' o->WhO X c body (n+1) ρ o
 |ret {n:Nat} {ρ:Rho} {o:Out}:DT X ρ c true->DSs X ρ body o->o.ends->WhO X c body n ρ o
theorem vu (hp:PassesOwn (model X.prog X.w) X.A X.env X.xe) (h:WhO X c body n ρ o):DS X ρ (.While c body [] pos) o:=by
 have pc:PT X c (ttA X.K fun ρ b=>DT X ρ c b):=fun pins s σ H Q I ⟨_,_,g,q⟩=>g pins s σ H Q I q;refine PS.weak (wt hp pc (je (sts:=body))) ?_;rintro E σ H ⟨H₀,S₀,S,f,k⟩;refine ⟨fun m σ' H'=>∃S' ρ',Fm X.K H₀ S₀ H' S' ρ' σ'∧WhO X c body m ρ' o,⟨n,S,ρ,f,h⟩,?_⟩;rintro m σ' H' ⟨S',ρ',f',hw⟩;cases hw with
 |stop hc=>exact ⟨ρ',false,hc,S',f'.ve,fun H1 ex=>fT (k σ' H1 S' (f'.grow ex))⟩
 |turn hc hb hr=>
  rename_i n ρ2;refine ⟨ρ',true,hc,S',f'.ve,fun H1 ex=>fx ⟨fun σ2 H2=>∃S2,Fm X.K H₀ S₀ H2 S2 ρ2 σ2,fun σ2 H2 ⟨S2,f2⟩=>⟨n,Nat.lt_succ_self _,S2,ρ2,f2,hr⟩,ρ',_,hb,H₀,S₀,S',f'.grow ex,fun σ3 H3 S3 f3=>⟨S3,f3⟩⟩⟩
 |ret hc hb hend=>
  refine ⟨ρ',true,hc,S',f'.ve,fun H1 ex=>fx ⟨fun _ _=>False,fun _ _ z=>z.elim,ρ',o,hb,H₀,S₀,S',f'.grow ex,?_⟩⟩;cases o with
  |nx _=>exact hend.elim
  |rt d=>exact k
  |rfx xs=>exact k
section
variable {X:Cx} {ρ:Rho} {e a b:Expr} {p pos:Pos} {da:D}
noncomputable def kr (i j:Int):List Int:=(List.range (j - i).toNat).map fun k:Nat=>i+(k:Int)
theorem sC (hg:Gl X "range") (hm:X.mg "range"=none) (ha:DA X ρ [a,b] [.int i,.int j]) (hb: -(2^62)<=i∧i<2^62∧ -(2^62)<=j∧j<2^62)
  (hs:(starEach [a,b] X.env=[(false,eval a X.env),(false,eval b X.env)])⁻¹) (hs2:(starEach [b] X.env=[(false,eval b X.env)])⁻¹):DI X tg ρ (.Call (.Name "range" p) [a,b] [] pos) ((kr i j).map D.int):=
 PI.weak (tV hg hm ha hs hs2) fun σ H R ⟨S,ve,k⟩=>⟨S,ve,fun vs H' ex rs=>by
  obtain ⟨v,u,rfl,r1,r2⟩:=rs.two;rw [r1.bh,r2.bh];refine ⟨i,j,rfl,hb,k _ H' ex fun H2 S2 e z dm m=>?_⟩;refine ⟨fun d hd=>?_,fun hi=>show _<=m by simpa [kr] using hi⟩;have hm:m<(j - i).toNat:=by
   have:=(FS.mp hd).1;simpa [kr] using this
  refine ⟨hm,fun x H3 y=>?_⟩;obtain ⟨e2,e3⟩:=y;subst e2 e3;have hd':d=.int (i+(m:Int)):=by
   rw [kr,List.map_map,List.getElem?_map,List.getElem?_range hm] at hd;exact (Gi hd).symm
  subst hd';exact ⟨Ext.refl,.int _⟩⟩
end
set_option autoImplicit true
set_option relaxedAutoImplicit true
theorem Draws.FK (hh:A.handled=none) (b:Bool) (it l:Addr) (hne:l≠it) (items:Array Value):
  Draws prog w A it [it,l] items.size (fun i v=>items[i]?=some v) (fun i h=>Sit h b it l i∧Ssq h b l items) where
 live:=fun _ _ st=>let ⟨o,_,_,ho,_⟩:=Sit.rec st.1;⟨o,ho⟩
 frame:=fun _ _ _ st hk=>⟨Sit.at st.1 fun o e=>hk it (by simp) o e,Ssq.at st.2 fun o e=>hk l (by simp) o e⟩
 item:=fun i s Q E hi st hQ=>kF st.1 st.2 (x:=items[i]) (by simp [hi]) fun h' a c=>hQ _ h' s.toks (by simp [hi]) ⟨a,Ssq.at st.2 fun o e=>c.extBut _ _ hne e⟩ c
 done:=fun s Q E st hE=>iN hh st.1 st.2 (by simp) hE
theorem ri (b:Bool) (a:Addr) (xs:Array Value):
  Meets (Builtin.«enumerate.__new__» ⟨[.type "enumerate",.ref a],[]⟩) (fun _ R s=>Ssq s.heap b a xs∧
   ∀h',IsEnum h' (s.heap.objs.size+1) s.heap.objs.size 0 .none->Sit h' b s.heap.objs.size a 0->(∀c o,s.heap.get? c=some o->h'.get? c=some o)->R (.ok (.ret (.ref (s.heap.objs.size+1)))) {s with heap:=h'}):=
 .of_wp fun prog w A R s h=>by
  obtain ⟨hp,g,d,tk,os⟩:=s;obtain ⟨hl,h⟩:=h;have hsub:=sub_enumerate;have hL:Ssq (Shared.heap ⟨hp,g,d,tk,os⟩) b a xs:=hl;have fin:∀h2,h2=(hp.push (bz b a)).push {cls:=.type "enumerate",data:=.fields #[.none,.bool false,.ref hp.objs.size,rawInt 0,.none,.none]}->R (.ok (.ret (.ref (hp.push (bz b a)).objs.size))) ⟨h2,g,d,tk,os⟩:=fun h2 e=>by
   have z:=Heap.size_push hp (bz b a);have g5:=Ch (hp.push (bz b a)) (o:={cls:=.type "enumerate",data:=.fields #[.none,.bool false,.ref hp.objs.size,rawInt 0,.none,.none]}) rfl;rw [z] at g5 ⊢;subst e;exact h _ g5 (Sit.at (Sit.new (h:=hp) b a) fun o e=>BT _ e) fun c o e=>BT _ (BT _ e)
  have ho:∃o,hp.get? a=some o:=by cases b<;>exact let ⟨o,ho,_⟩:=hl;⟨o,ho⟩
  obtain ⟨o,ho⟩:=ho
  wp_walk using AutoSeq1.wpAny_loadPart' ho
  refine wpAny_stack_any fun st=>AC ?_;split
  ·rename_i c _ _ _ _ _;cases (c==Value.type "enumerate")<;>(wp_walk using AutoSeq1.wpAny_loadPart' ho,dv hL;exact ⟨_,rfl,fin _ rfl⟩)
  ·wp_walk using AutoSeq1.wpAny_loadPart' ho,dv hL
   exact ⟨_,rfl,fin _ rfl⟩
theorem r8 (hl:Ssq s.heap b a xs)
  (h:∀h',IsEnum h' (s.heap.objs.size+1) s.heap.objs.size 0 .none->Sit h' b s.heap.objs.size a 0->(∀c o,s.heap.get? c=some o->h'.get? c=some o)->Q (.ref (s.heap.objs.size+1)) {s with heap:=h'}):
  wpAny (model prog w) A (call (.type "enumerate") [.ref a]) Q E s:=
 callType_new F.called_enumerate (by decide) (F.typeCall_enumerate_1 _) (F.newCall_enumerate_1 _) (fun obj=>F.args_object_init_2 obj _) F.entry_enumerate_new (ri b a xs)
  ⟨hl,fun h' q1 q2 q3=>⟨⟨_,q1,rfl⟩,h h' q1 q2 q3⟩⟩
theorem Draws.FJ (hh:A.handled=none) (b:Bool) (it l:Addr) (hx:items[n]?=none):
  Draws prog w A it [it,l] n (fun _ _=>False) (fun j h=>j=n∧Sit h b it l n∧Ssq h b l items) where
 live:=fun _ _ st=>let ⟨o,_,_,ho,_⟩:=Sit.rec st.2.1;⟨o,ho⟩
 frame:=fun _ _ _ st hk=>⟨st.1,Sit.at st.2.1 fun o e=>hk it (by simp) o e,Ssq.at st.2.2 fun o e=>hk l (by simp) o e⟩
 item:=fun i s Q E hi st hQ=>absurd (st.1▸hi) (Nat.lt_irrefl _)
 done:=fun s Q E st hE=>iN hh st.2.1 st.2.2 hx hE
noncomputable def Ite (K:PySem.W.Frag) (b:Bool) (a:Addr):It:=
 ⟨fun i H=>∃xs x,SqB K H b a xs∧xs[i]?=some x,
  fun i H v H'=>∃T x,H T=none∧v=.ref T∧H'=upd H T (.tup [.int (i:Int),x])∧∀xs,SqB K H b a xs->xs[i]?=some x,
  fun i H=>∃xs,SqB K H b a xs∧xs.length<=i⟩
theorem uy {P:Program} {w:World} {K:PySem.W.Frag} {elts:List Expr} {x1} {pos:Pos} {b:Bool} {e it a:Addr} (hne:e≠it):
  Turn P w K (.Tuple elts x1 pos) (Ite K b a) [e,it] e (fun i h=>(∃old,IsEnum h e it i old)∧Sit h b it a i) where
 mem:=by simp
 obj:=fun i h ⟨⟨old,q1⟩,q2⟩ b hb=>by
  simp only [List.mem_cons,List.not_mem_nil,or_false] at hb;rcases hb with rfl|rfl
  ·exact ⟨_,q1,fun v z=>by have z':Data.fields _=Data.cell v:=z;cases z'⟩
  ·obtain ⟨o,_,_,ho,_,hd⟩:=Sit.rec q2;exact ⟨o,ho,fun v z=>by rw [hd] at z;cases z⟩
 keep:=fun i h h' ⟨⟨old,q1⟩,q2⟩ k=>⟨⟨old,k e (by simp) _ q1⟩,Sit.at q2 fun o ho=>k it (by simp) _ ho⟩
 item:=by
  intro X hP hw hK hc i pins s σ H E I hf ⟨⟨old,q1⟩,q2⟩ hg;subst hP hw hK;obtain ⟨xs,x,hx,ex⟩:=hg;obtain ⟨its,r1,p1,_⟩:=CT.Inv.sqb I hx;obtain ⟨u,eu,ru⟩:=Dl r1 ex;have hel:=Cl q1;have hil:it<s.heap.objs.size:=by obtain ⟨o,_,_,ho,_⟩:=Sit.rec q2;exact Cl ho
  have nae:=CT.Inv.m4 I hx (hf e (by simp));have nai:=CT.Inv.m4 I hx (hf it (by simp));refine wpAny_pyNext_enum_itemD (Draws.FK (A:=X.A.in1) (I.ok.hd hc) b it a nai its.toArray) q1 ⟨q2,p1⟩ (by obtain ⟨z,_⟩:=Array.getElem?_eq_some_iff.mp eu;exact z) hne (by simp [hne,Ne.symm nae]) fun u' h' tk eu' z1 z2 z3 z4 kk=>?_;rw [eu] at eu';cases eu';refine ⟨_,rfl,wpAny_letOwnedTupleGo_enum (s:={s with heap:=h',toks:=tk+1}) z1 fun h2 z1' sb=>?_⟩;have k2:∀c o,c∉[e,it]->s.heap.get? c=some o->h2.get? c=some o:=fun c o hc q=>sb.extBut c o (fun z=>hc (by simp [z])) (kk c o (fun z=>hc (by simp [z])) (fun z=>hc (by simp [z])) q);have I1:Inv X pins σ H {s with heap:=h2,toks:=tk+1}:=CT.Inv.jg (t':=tk+1) (ch:=[e,it]) I hf k2;have hT:h2.get? s.heap.objs.size=some {cls:=.type "tuple",data:=.seq #[.int i tk,u]}:=sb.extBut _ _ (Nat.ne_of_gt hel) z3;have I2:Inv X pins σ (upd H s.heap.objs.size (.tup [.int (i:Int),x])) {s with heap:=h2,toks:=tk+1}:=CT.Inv.adopt I1 (I.gM (Gd _) (I.hok.fresh (Gd _)))
   ⟨by show 2<=sizeLine;decide,[.int i tk,u],.cons ⟨_,rfl⟩ (.cons ru .nil),_,hT,rfl,_,rfl⟩
  refine ⟨.ref s.heap.objs.size,_,I2,rfl,⟨_,x,I.hok.fresh (Gd _),rfl,rfl,fun xs' h'=>by rw [CT.Inv.qk I h' hx];exact ex⟩,⟨⟨_,by exact z1'⟩,Sit.at z2.1 fun o ho=>sb.extBut _ _ (Ne.symm hne) ho⟩,fun b hb=>?_⟩;simp only [List.mem_cons,List.not_mem_nil,or_false] at hb;rcases hb with rfl|rfl
  ·rw [ah (Gc hel)];exact (hf _ (by simp)).1
  ·rw [ah (Gc hil)];exact (hf _ (by simp)).1
 done:=by
  intro X hP hw hK hc i pins s σ H E I hf ⟨⟨old,q1⟩,q2⟩ hg;subst hP hw hK;obtain ⟨xs,hx,he⟩:=hg;obtain ⟨its,r1,p1,_⟩:=CT.Inv.sqb I hx;refine wpAny_pyNext_enum_endD (Draws.FJ (A:=X.A.in1) (I.ok.hd hc) b it a (Dk r1 he)) q1 ⟨rfl,q2,p1⟩ fun h' kk=>⟨rfl,?_⟩
  exact CT.Inv.jg (t':=s.toks) (ch:=[e,it]) I hf fun b o hb q=>kk b o (fun z=>hb (by simp [z])) q
 self:=fun _ _ _ _ _ ⟨⟨old,q1⟩,_⟩ h=>wpAny_pyIter_enum q1 h
theorem boot_enumerate:bootBuiltins "enumerate"=some (.type "enumerate"):=by decide+kernel
noncomputable def D5 (K:PySem.W.Frag) (t:TA):TI:=fun σ H R=>t σ H fun vs H1=>∃b a xs,vs=[.ref a]∧SqB K H1 b a xs∧R (Ite K b a) H1
theorem zL {X:Cx} {elts:List Expr} {tpos:Pos} {a:Expr} {ta:TA} {k} {p pos:Pos} (hg:Gl X "enumerate") (hm:X.mg "enumerate"=none) (ha:PA X [a] ta) (hs:(starEach [a] X.env=[(false,eval a X.env)])⁻¹):
  PI X (.Tuple elts k tpos) (.Call (.Name "enumerate" p) [a] [] pos) (D5 X.K ta):=by
 intro pins s σ H R I h;refine Call_ (fA I hg hm boot_enumerate (PyProof.Rows.callWith_type1 (thn (ha pos pins s σ H _ I h) fun us s1 zz=>?_) (by rw [hs];rfl) rfl));obtain ⟨vs,H1,I1,r1,q1⟩:=zz;obtain ⟨b,l,xs,rfl,hx,q⟩:=q1;obtain ⟨its,rv,p1,_⟩:=CT.Inv.sqb I1 hx;cases r1 with
 |cons r rr=>
  cases rr;cases r;refine r8 p1 fun h' he hi hk=>?_;refine wpAny_pyIter_enum he ?_;refine ⟨_,_,_,_,H1,rfl,I1.kept (t':=s1.toks) hk,uy (Nat.succ_ne_self _),⟨⟨_,he⟩,hi⟩,fun b hb=>?_,q⟩;have hle:s1.heap.objs.size<=b:=by
   simp only [List.mem_cons,List.not_mem_nil,or_false] at hb;rcases hb with rfl|rfl<;>omega
  exact I1.gM hle (I1.hok.fresh hle)
noncomputable def a9 (k:Nat):List D->List D
 |[]=>[]
 |x::xs=>.tup [.int (k:Int),x]::a9 (k+1) xs
theorem iC:∀{xs:List D} {k i:Nat} {d:D},(a9 k xs)[i]?=some d->∃x,xs[i]?=some x∧d=.tup [.int ((k+i:Nat):Int),x]
 |x::xs,k,0,d,h=>by
  simp [a9] at h;exact ⟨x,rfl,h.symm⟩
 |x::xs,k,i+1,d,h=>by
  simp [a9] at h;obtain ⟨x',h1,h2⟩:=iC h;exact ⟨x',by simpa using h1,by rw [h2,show k+1+i=k+(i+1) by omega]⟩
 |[],_,_,_,h=>by simp [a9] at h
theorem iD:∀{xs:List D} {k:Nat},(a9 k xs).length=xs.length
 |[],_=>rfl
 |x::xs,k=>by simp [a9,iD]
theorem yE {k} (hg:Gl X "enumerate") (hm:X.mg "enumerate"=none) (qa:Sq da xs) (ha:DA X ρ [a] [da]) (hs:(starEach [a] X.env=[(false,eval a X.env)])⁻¹):
  DI X (.Tuple elts k tpos) ρ (.Call (.Name "enumerate" p) [a] [] pos) (a9 0 xs):=
 PI.weak (zL hg hm ha hs) fun σ H R ⟨S,ve,kk⟩=>⟨S,ve,fun vs H' ex rs=>by
  obtain ⟨v,rfl,r⟩:=rs.one;obtain ⟨b,l,us,rfl,l1⟩:=qa.later r;refine ⟨b,l,us,rfl,(l1 H' S Ext.refl fun a h=>.inl h).1,kk _ H' ex fun H2 S2 e2 z2 dm i=>?_⟩;obtain ⟨s1,t1⟩:=l1 H2 S2 e2 z2;refine ⟨fun d hd=>?_,fun hi=>⟨us,s1,?_⟩⟩
  ·obtain ⟨x,hx,rfl⟩:=iC hd;obtain ⟨x',hx',rx⟩:=t1.get hx;refine ⟨⟨us,x',s1,hx'⟩,fun z H3 yl=>?_⟩;obtain ⟨T,x2,hT,rfl,rfl,g1⟩:=yl;have e1:=g1 us s1;rw [hx'] at e1;cases e1;rw [Nat.zero_add];exact ⟨Ext.new hT,Rds.gi dm hT (.cons (.int _) (.cons rx .nil))⟩
  ·have h1:=t1.length;rw [iD] at hi
   omega⟩
set_option autoImplicit true
set_option relaxedAutoImplicit true
section
variable {X:Cx} {ρ:Rho} {k:Nat} {f C:Addr} {fd:FuncData} {ps:List Str} {x:Str} {p pos:Pos} {e o a b:Expr} {es:List Expr} {ds xs ys:List D} {d:D}
theorem zr:OpR X (binaryOp .Add) (fun x y H Q=>∃a b us vs,x=.ref a∧y=.ref b∧SqL X.K H a us∧SqL X.K H b vs∧us.length+vs.length<=sizeLine∧∀z,H z=none->Q (.ref z) (upd H z (.lst (us++vs)))):=by
 intro pins s σ H x y v u Q I rx ry ⟨a,b,us,vs,ex,ey,h1,h2,hl,q⟩;subst ex ey;obtain rfl:v=Value.ref a:=rx;obtain rfl:u=Value.ref b:=ry;obtain ⟨i1,r1,p1,_⟩:=I.list h1;obtain ⟨i2,r2,p2,_⟩:=I.list h2;obtain ⟨⟨c,dd,dt,sl⟩,ho,hc,n,hd⟩:=p1.isList;obtain ⟨⟨c2,dd2,dt2,sl2⟩,ho2,hc2,n2,hd2⟩:=p2.isList;simp only at hc hd hc2 hd2;subst hc hd hc2 hd2;have l1:=r1.length;have l2:=r2.length;refine concat_meets ⟨_,ho,rfl⟩ ⟨_,ho2,rfl⟩ noFill_list_add seq_list_add PySem.F.slot_list_add PySem.F.entry_list_add (PySem.F.args_list_add_2 _ _) (list_addW a b i1.toArray i2.toArray n n2 dd dd2 sl sl2 (by simp;omega)) ⟨ho,ho2,?_⟩;have e:i1.toArray++i2.toArray=(i1++i2).toArray:=by simp
 rw [e];refine ⟨.ref s.heap.objs.size,_,I.laid (o:=.lst (us++vs)) (t':=s.toks) (fun c w z=>BT _ z) (Gd _) ⟨by rw [F5];exact hl,i1++i2,_,r1.append r2,Ch _ rfl⟩,rfl,q _ (I.hok.fresh (Gd _))⟩
theorem yp (ha:DE X ρ a (.lst xs)) (hb:DE X ρ b (.lst ys)) (hl:xs.length+ys.length<=sizeLine):DE X ρ (.BinOp a .Add b pos) (.lst (xs++ys)):=
 dC zr (fun x y H S Q rx ry dm k=>by
  obtain ⟨p,us,rfl,h1,r1⟩:=rx.lA;obtain ⟨q,vs,rfl,h2,r2⟩:=ry.lA;exact ⟨p,q,us,vs,rfl,rfl,h1,h2,by rw [←r1.length,←r2.length];exact hl,fun z hz=>k _ _ (Ext.new hz) (Rds.oE dm hz (r1.app r2))⟩) ha hb
end
set_option autoImplicit true
set_option relaxedAutoImplicit true
section
variable {X:Cx} {scope:Scope} {own:List Str} {cap:List (Str×Nat)} {ρ:Rho} {elt iter c:Expr} {pos px py tp:Pos} {α:Type} {l:List α} {g1 g2:α->D} {x y:Str} {k k2:Nat} {sc:Scope} {N:List Str}
theorem iE:∀(l:List α) (k:Nat),a9 k (l.map g)=((l.zipIdx k).map fun a=>.tup [.int (a.2:Int),g a.1])
 |[],_=>rfl
 |a::l,k=>by rw [List.map_cons,List.zipIdx_cons,List.map_cons,a9,iE l (k+1)]
end
noncomputable def j2 (K:PySem.W.Frag) (C:Addr):Bool:=PySem.W.hasDictIn K C&&(PySem.W.clsIn K C).any (fun cd=>kI cd.mro)&&PySem.W.findIn K (.ref C) "__getattribute__"==some (some (.builtin "BaseException.__getattribute__"))&&
 PySem.W.findIn K (.ref C) "__getattr__"==some none&&PySem.W.findIn K (.ref C) "__setattr__"==some (some (.builtin "object.__setattr__"))&&PySem.W.findIn K (.ref C) "__class__"==some (some (.builtin "object.__class__"))&&
 PySem.W.specialIn K (.builtin "object.__class__") "__get__"==some (some (.builtin "getset_descriptor.__get__"))&&PySem.W.takesIn K (.builtin "object.__class__")==some true
theorem jh {K:PySem.W.Frag} {C:Addr} (h:j2 K C=true):jz K C:=by
 unfold j2 at h;simp only [Bool.and_eq_true,beq_iff_eq] at h;obtain ⟨⟨⟨⟨⟨⟨⟨h1,h2⟩,h3⟩,h4⟩,h5⟩,h6⟩,h7⟩,h8⟩:=h;exact ⟨⟨h1,h2,h3,h4,h5⟩,h6,h7,h8⟩
set_option autoImplicit true
set_option relaxedAutoImplicit true
section
variable {X:Cx} {ρ:Rho} {a b e:Expr} {d:D} {pos:Pos}
theorem intBits_le (h:k.natAbs<2^n):Builtin.Int.intBits k<=n:=by
 unfold Builtin.Int.intBits;split
 ·exact Nat.zero_le _
 ·rename_i hk;have hp:k.natAbs≠0:=fun z=>hk (by simp [Int.natAbs_eq_zero.mp z]);have:=(Nat.log2_lt hp).mpr h;omega
noncomputable def j4 (i j:Int):Prop:=i.natAbs<2^100000∧j.natAbs<2^100000
theorem j4.ok (h:j4 i j):IntMulOk i j:=by
 have h1:=intBits_le h.1;have h2:=intBits_le h.2;have e:Builtin.Int.intTooBig (Builtin.Int.intBits i+Builtin.Int.intBits j)=false:=by
  unfold Builtin.Int.intTooBig bitsLine;refine Gf ?_;have:(2:Nat)^27=134217728:=by decide
  rw [this];omega
 unfold IntMulOk;rw [e];simp
theorem zv:OpR X (binaryOp .Mult) (rI j4 fun i j=>.int (i*j)):=opI fun _ _ _ _ _ _ _ hc q=>mul_int q hc.ok
theorem yy (h:j4 i j) (ha:DE X ρ a (.int i)) (hb:DE X ρ b (.int j)):DE X ρ (.BinOp a .Mult b pos) (.int (i*j)):=
 dC zv (fun x y H S Q rx ry dm k=>⟨i,j,rx.bh,ry.bh,h,k _ H Ext.refl (.int _)⟩) ha hb
end
set_option autoImplicit true
set_option relaxedAutoImplicit true
noncomputable def tyN:D->Option String
 |.non=>some "NoneType"|.bl _=>some "bool"|.int _=>some "int"|.str _=>some "str"|.tup _=>some "tuple"|.lst _=>some "list"|.dct _=>some "dict"|.pdc _=>some "dict"
 |_=>none
noncomputable def qO (x:D) (c:String):Bool:=match tyN x with
 |some n=>n==c||(n=="bool"&&c=="int")
 |none=>false
section
variable {X:Cx} {ρ:Rho} {a b:Expr} {x:D} {p pos:Pos}
theorem Fo {K:PySem.W.Frag} {x:D} (hx:tyN x≠none):∃n,TyD K x (.type n)∧PySem.W.kitAny K (.type n) [.type "list",.type "tuple"]=some (qO x "list"||qO x "tuple"):=by
 cases x with
 |non=>exact ⟨_,.non,rfl⟩
 |bl b=>exact ⟨_,.bl b,rfl⟩
 |int i=>exact ⟨_,.int i,rfl⟩
 |str s=>exact ⟨_,.str s,rfl⟩
 |tup xs=>exact ⟨_,.tup xs,rfl⟩
 |lst xs=>exact ⟨_,.lst xs,rfl⟩
 |dct xs=>exact ⟨_,.dct xs,rfl⟩
 |pdc xs=>exact ⟨_,.pdc xs,rfl⟩
 |ins _ _=>exact absurd rfl hx
 |exc _ _=>exact absurd rfl hx
 |ty _=>exact absurd rfl hx
 |cl _=>exact absurd rfl hx
end
noncomputable def noStar:Expr->Bool
 |.Starred ..=>false
 |_=>true
theorem bF (h:noStar e=true):starEach (e::es) env=(false,eval e env)::starEach es env:=by
 cases e<;>first|rfl|cases h
end CT
set_option autoImplicit true
set_option relaxedAutoImplicit true
namespace CT
open PySem PySem.Spec PySem.W L2
open PyProof.Rows hiding St
section
variable {X:Cx} {ρ:Rho} {a:Expr} {lo hi:Option Expr} {xs:List D} {l u:Option Int} {pos p2:Pos}
noncomputable def DO (X:Cx) (ρ:Rho) (e:Option Expr) (o:Option Int):Prop:=PO X e fun σ H Q=>∃S,VE X.K H S ρ σ∧∀H',aI H H'->Q o H'
theorem yH:DO X ρ none none:=fun pins s σ H Q I ⟨S,ve,k⟩=>zO pins s σ H Q I (k H Ext.refl)
theorem yI (h:DE X ρ e (.int i)):DO X ρ (some e) (some i):=fun pins s σ H Q I ⟨S,ve,k⟩=>zP h pins s σ H Q I ⟨S,ve,fun v H' e r=>⟨i,r.bh,k H' e⟩⟩
noncomputable def AO (xs:List D) (lo hi:Option Int):List D:=(xs.drop (HT.sIx xs.length 0 lo)).take (HT.sIx xs.length xs.length hi - HT.sIx xs.length 0 lo)
end
end CT
set_option autoImplicit true
set_option relaxedAutoImplicit true
namespace CT
open PySem PySem.Spec L2
open PyProof.Rows hiding St
section
variable {P:Program} {w:World} {K:PySem.W.Frag} {H H':Hp} {h:Heap} {S:Ad}
mutual
theorem key_is (ok:HOk P w H h):∀(k:PK) {v:V} {u:Value},Rds K H S (PK.d k) v->RelV v u->bL h k u
 |.i n,_,u,r,q=>by
  cases (show Rds K H S (.int n) _ from r);exact q
 |.t l,_,u,r,q=>by
  obtain ⟨a,vs,rfl,e,rl⟩:=(show Rds K H S (.tup (PK.dL l)) _ from r).cC;cases (show u=Value.ref a from q);obtain ⟨_,its,rv,o,h1,h2,n,h3⟩:=(show aX P w H h a (.tup vs) from ok a _ e)
  exact ⟨a,o,its.toArray,n,rfl,h1,h2,h3,by simpa using og ok l rl rv⟩
theorem og (ok:HOk P w H h):∀(l:List PK) {vs:List V} {us:List Value},ag K H S (PK.dL l) vs->Vals vs us->bt h l us
 |[],_,_,r,q=>by
  cases (show ag K H S [] _ from r);cases q;rfl
 |k::ks,_,_,r,q=>by
  have r':ag K H S (PK.d k::PK.dL ks) _:=r;cases r' with
  |cons r1 t1=>
   cases q with
   |cons q qt=>exact ⟨_,_,rfl,key_is ok k r1 q,og ok ks t1 qt⟩
end
theorem Rds.key (hd:k.dp<=8) (r:Rds K H S (PK.d k) (.ref b)):dI H k b:=⟨hd,fun P w h ok=>key_is ok k r rfl⟩
theorem au.keys:∀{es:List (PK×D)} {kvs:List (PK×Addr×V)},au K H S es kvs->dJ H kvs
 |_,_,.nil=>fun p hp=>nomatch hp
 |_,_,.cons hd k r t=>fun p hp=>by
  rcases Fr.mp hp with e|hp
  ·subst e;exact Rds.key hd k
  ·exact au.keys t p hp
theorem au.length:∀{es:List (PK×D)} {kvs:List (PK×Addr×V)},au K H S es kvs->es.length=kvs.length
 |_,_,.nil=>rfl
 |_,_,.cons _ _ _ t=>by rw [List.length_cons,List.length_cons,au.length t]
theorem au.names:∀{es:List (PK×D)} {kvs:List (PK×Addr×V)},au K H S es kvs->kvs.map (·.1)=es.map (·.1)
 |_,_,.nil=>rfl
 |_,_,.cons _ _ _ t=>by rw [List.map_cons,List.map_cons,au.names t]
theorem au.get:∀{es:List (PK×D)} {kvs:List (PK×Addr×V)} {i:Nat} {p:PK×D},au K H S es kvs->es[i]?=some p->∃q,kvs[i]?=some q∧q.1=p.1∧Rds K H S (PK.d p.1) (.ref q.2.1)∧Rds K H S p.2 q.2.2
 |_,_,0,_,.cons _ k r _,e=>by simp at e;subst e;exact ⟨_,rfl,rfl,k,r⟩
 |_,_,i+1,_,.cons _ _ _ t,e=>by
  obtain ⟨q,h1,h2⟩:=au.get (i:=i) t (by simpa using e);exact ⟨q,by simpa using h1,h2⟩
noncomputable def a8 (es:List (PK×D)) (k:PK):Option D:=(es.find? fun p=>decide (p.1=k)).map (·.2)
noncomputable def dG (es:List (PK×D)) (k:PK) (d:D):List (PK×D):=if (a8 es k).isSome then es.map (fun p=>if p.1=k then (p.1,d) else p) else es++[(k,d)]
theorem au.look:∀{es:List (PK×D)} {kvs:List (PK×Addr×V)},au K H S es kvs->(∀d,a8 es k=some d->∃v,cQ kvs k=some v∧Rds K H S d v)∧(a8 es k=none->cQ kvs k=none)
 |_,_,.nil=>⟨fun d e=>by simp [a8] at e,fun _=>rfl⟩
 |_,_,.cons (k:=k') (ds:=ds) (vs:=vs) _ _ r t=>by
  obtain ⟨i1,i2⟩:=au.look (k:=k) t;unfold a8 cQ at i1 i2 ⊢;rw [List.find?_cons,List.find?_cons]
  by_cases e:k'=k
  ·simp only [e,decide_true];exact ⟨fun d q=>by cases q;exact ⟨_,rfl,r⟩,fun q=>nomatch q⟩
  ·simp only [e,decide_false];exact ⟨i1,i2⟩
theorem au.iK (rd:Rds K H S d v):∀{es:List (PK×D)} {kvs:List (PK×Addr×V)},au K H S es kvs->au K H S (es.map fun p=>if p.1=k then (p.1,d) else p) (kvs.map fun p=>if p.1=k then (p.1,p.2.1,v) else p)
 |_,_,.nil=>.nil
 |_,_,.cons (k:=k') hd kk r t=>by
  rw [List.map_cons,List.map_cons]
  by_cases e:k'=k
  ·rw [if_pos (show (k',_).1=k from e),if_pos (show (k',_).1=k from e)];exact .cons hd kk rd (au.iK rd t)
  ·rw [if_neg (show ¬(k',_).1=k from e),if_neg (show ¬(k',_).1=k from e)];exact .cons hd kk r (au.iK rd t)
theorem au.snoc (hd:k.dp<=8) (kk:Rds K H S (PK.d k) (.ref b)) (rd:Rds K H S d v):∀{es:List (PK×D)} {kvs:List (PK×Addr×V)},au K H S es kvs->au K H S (es++[(k,d)]) (kvs++[(k,b,v)])
 |_,_,.nil=>.cons hd kk rd .nil
 |_,_,.cons h1 h2 h3 t=>.cons h1 h2 h3 (au.snoc hd kk rd t)
theorem au.put (hd:k.dp<=8) (kk:Rds K H S (PK.d k) (.ref b)) (rd:Rds K H S d v) (r:au K H S es kvs):au K H S (dG es k d) (fV kvs k b v):=by
 have e:(a8 es k).isSome=(cQ kvs k).isSome:=by
  obtain ⟨i1,i2⟩:=au.look (k:=k) r;cases q:a8 es k with
  |none=>rw [i2 q];rfl
  |some d=>obtain ⟨v,z,_⟩:=i1 d q;rw [z];rfl
 unfold dG fV;rw [e];split
 ·exact r.iK rd
 ·exact r.snoc hd kk rd
end
section
variable {X:Cx} {ρ:Rho} {o i e value tg:Expr} {pos pos' p ap cp:Pos} {es:List (PK×D)} {l:List PK} {d:D} {x:Str} {n:Nat}
theorem yA (hu:X.A.units+9<cLine) (ho:DE X ρ o (.pdc es)) (hi:DE X ρ i (PK.d (.t l))) (hk:(PK.t l).dp<=8) (hl:a8 es (.t l)=some d) (hs:qu i):DE X ρ (.Subscript o i pos) d:=
 PE.weak (zG hu ho hi hs) fun σ H Q ⟨S,ve,k⟩=>⟨S,ve,fun u H1 e1 r1=>⟨S,ve.ext e1,fun y H2 e2 r2=>by
  have r1':=r1.ext (e2.to S);cases r1' with
  |@dP a ep kvs _ ha ns rp=>
   obtain ⟨b,vs,rfl,hb,rl⟩:=(show Rds X.K H2 S (.tup (PK.dL l)) y from r2).cC;obtain ⟨v,hv,rv⟩:=(au.look (k:=.t l) rp).1 d hl;exact ⟨a,b,ep,kvs,.t l,v,rfl,rfl,ha,rp.keys,Rds.key hk r2,hv,k v H2 (e1.trans e2) rv⟩⟩⟩
theorem vc (hu:X.A.units+9<cLine) (ho:DE X ρ o (.pdc es)) (hi:DE X ρ e (PK.d (.t l))) (hk:(PK.t l).dp<=8) (m:M1 X o "get" ap e cp):DE X ρ (.Call (.Attribute o "get" ap) [e] [] cp) ((a8 es (.t l)).getD .non):=
 PE.weak (v_ hu ho hi m) fun σ H Q ⟨S,ve,k⟩=>⟨S,ve,fun u H1 e1 r1=>by
  cases r1 with
  |@dP a ep kvs _ ha ns rp=>
   refine ⟨a,ep,kvs,rfl,ha,S,ve.ext e1,fun y H2 e2 r2=>?_⟩;obtain ⟨b,vs,rfl,hb,rl⟩:=(show Rds X.K H2 S (.tup (PK.dL l)) y from r2).cC;have rp2:=rp.ext (e2.to S);refine ⟨b,.t l,rfl,e2 _ _ (fun z=>z) ha,rp2.keys,Rds.key hk r2,k _ H2 (e1.trans e2) ?_⟩;obtain ⟨i1,i2⟩:=au.look (k:=.t l) rp2;cases q:a8 es (.t l) with
   |none=>rw [i2 q];exact .non
   |some d=>obtain ⟨v,hv,rv⟩:=i1 d q;rw [hv];exact rv⟩
theorem lh:DFx X ρ (.Dict [] [] pos) (.d []):=PE.weak zH fun σ H Q ⟨S,ve,k⟩ p hp=>k p _ _ (Ext.new hp) hp aD ⟨0,[],rfl,.nil⟩
theorem Bc (ho:DE X ρ e (.pdc es)):DI X tg ρ e (es.map fun p=>PK.d p.1):=PI.weak (Cy ho) fun σ H R ⟨S,ve,k⟩=>⟨S,ve,fun v H' ex r=>by
 cases r with
 |@dP a ep kvs _ ha ns rp=>
  refine ⟨a,ep,kvs,rfl,ha,k _ H' ex fun H2 S2 e2 z dm i=>?_⟩;have ha2:H2 a=some (PD a ep kvs):=e2 _ _ ns ha;have rp2:au X.K H2 S2 es kvs:=((rp.av (S':=fun a=>S a∨S2 a) fun a q=>q.elim .inl (z a)).ext fun a o n q=>e2 a o (fun y=>n (.inl y)) q).av fun a q=>.inl (.inr q);refine ⟨fun d hd=>?_,fun hi=>⟨ha2,by rw [←rp.length];simpa using hi⟩⟩;rw [List.getElem?_map] at hd;cases q:es[i]? with
  |none=>rw [q] at hd;cases hd
  |some p=>
   rw [q] at hd;cases hd;obtain ⟨kv,h1,_,h3,_⟩:=au.get rp2 q;refine ⟨⟨ha2,(FS.mp h1).1⟩,fun x H3 ⟨e3,p',hp',hx⟩=>?_⟩;subst e3;rw [h1] at hp';cases hp';rw [hx];exact ⟨Ext.refl,h3⟩⟩
end
set_option autoImplicit true
set_option relaxedAutoImplicit true
theorem qy:bootBuiltins "dict"=some (.type "dict"):=by decide+kernel
section
variable {X:Cx} {ρ:Rho} {o i e value tg:Expr} {pos pos' p ap cp:Pos} {es:List (PK×D)} {l:List PK} {d:D} {x:Str} {n:Nat}
theorem pM (hu:X.A.units+9<cLine) (hN:X.N[n]?=some x) (hv:Vis X.env.scope x) (hr:ρ[n]?=some (.odc es)) (hi:DE X ρ i (PK.d (.t l))) (he:DE X ρ value d) (hk:(PK.t l).dp<=8) (hz:es.length<sizeLine)
  (hs:(swapsWith value (some (.Subscript (.Name x p) i pos')) pos.line X.env=pure false)⁻¹) (hd: ~~~((x==("__debug__":Str))=false)) (hcd: ~~~((x==("__classdict__":Str))=false)):
  DS X ρ (.Assign [.Subscript (.Name x p) i pos'] value pos) (.nx (ρ.set n (.odc (dG es (.t l) d)))):=
 PS.weak (zT hu (fC hN hv hd hcd) hi he hs) fun E σ H ⟨H₀,S₀,S,f,k⟩=>⟨S,f.ve,fun v H1 ex r=>by
  have f1:=f.grow ex;obtain ⟨w,h1,a,_,rfl,sa,ha,ep,kvs,rfl,rp⟩:=f1.ve.rel n _ hr;refine ⟨_,h1,S,f1.ve,fun y H2 e2 r2=>?_⟩;obtain ⟨b,vs,rfl,hb,rl⟩:=(show Rds X.K H2 S (.tup (PK.dL l)) y from r2).cC;have rp2:=rp.ext (e2.to S);refine ⟨a,b,ep,kvs,.t l,rfl,rfl,e2 _ _ (fun z=>z) ha,rp2.keys,Rds.key hk r2,by rw [←rp2.length];exact hz,fun ep'=>?_⟩;exact k _ _ S ((f1.grow e2).ue (c':=.d (dG es (.t l) d)) hr h1 ⟨ep',_,rfl,au.put hk r2 (r.ext (e2.to S)) rp2⟩)⟩
theorem vk (hh:(es.map fun q=>q.1.hs).Nodup) (hg:Gl X "dict") (hm:X.mg "dict"=none) (ha:DA X ρ [e] [.pdc es]) (he:starEach [e] X.env=(false,eval e X.env)::starEach [] X.env:=by rfl) (hpl:(backTo pos (starEach [] X.env)).any (·.1)=false:=by rfl):DFx X ρ (.Call (.Name "dict" p) [e] [] pos) (.d es):=
 PE.weak (mz qB hg hm qy ha (by decide) (by decide) he hpl) fun σ H Q ⟨S,ve,k⟩=>⟨S,ve,fun vs H' ex rs=>by
  obtain ⟨v,rfl,r⟩:=rs.one;cases r with
  |@dP a ep kvs _ hA ns rp=>
   have e2:(kvs.map fun q=>q.1.hs)=es.map fun q=>q.1.hs:=by
    have:=congrArg (List.map PK.hs) rp.names;rw [List.map_map,List.map_map] at this;exact this
   exact ⟨a,ep,kvs,rfl,hA,rp.keys,by rw [e2];exact hh,fun q ep' hq=>k q _ _ (ex.trans (Ext.new hq)) (ex.back hq) aD ⟨ep',kvs,rfl,((rp.av (S':=S.and q) fun b h=>h.imp_right fun z=>by rw [z];exact hq).ext ((Ext.new hq).to _))⟩⟩⟩
noncomputable def dD:D->Bool
 |.non=>true
 |_=>false
theorem Rds.rB {K:PySem.W.Frag} {H:Hp} {S:Ad} {d:D} {v:V} (r:Rds K H S d v):decide (v=V.non)=dD d:=by
 cases r<;>first|rfl|exact Gf (fun z=>nomatch z)
theorem AY {j} {pos':Pos} (ha:DE X ρ e d):DE X ρ (.Compare e [.Is] [.Constant .none j pos'] pos) (.bl (dD d)):=
 nP tM (fun x y H S Q rx ry dm k=>⟨ry.rC,by rw [rx.rB];exact k _ H Ext.refl (.bl _)⟩) ha iz (bC _)
theorem yz {j} {pos':Pos} (ha:DE X ρ e d):DE X ρ (.Compare e [.IsNot] [.Constant .none j pos'] pos) (.bl (!dD d)):=
 nP pZ (fun x y H S Q rx ry dm k=>⟨ry.rC,by rw [rx.rB];exact k _ H Ext.refl (.bl _)⟩) ha iz (bC _)
theorem Bf {j} {pos':Pos} (ha:DE X ρ e d):DT X ρ (.Compare e [.Is] [.Constant .none j pos'] pos) (dD d):=
 nW tM (fun x y H S Q rx ry dm k=>⟨ry.rC,by rw [rx.rB];exact k _ H Ext.refl (.bl _)⟩) ha iz (bC _)
theorem yQ {j} {pos':Pos} (ha:DE X ρ e d):DT X ρ (.Compare e [.IsNot] [.Constant .none j pos'] pos) (!dD d):=
 nW pZ (fun x y H S Q rx ry dm k=>⟨ry.rC,by rw [rx.rB];exact k _ H Ext.refl (.bl _)⟩) ha iz (bC _)
end
set_option autoImplicit true
set_option relaxedAutoImplicit true
noncomputable abbrev KVs:=List (PK×Addr×V)
noncomputable def EO (h:Heap) (a:Addr) (y:Nat×KVs):Prop:=∃xs,KP y.2 xs∧Ar h a xs y.1
noncomputable def eD:AK (Nat×KVs):=⟨EO,fun ⟨xs,k,o,es,e,r⟩ kp=>⟨xs,k,o,es,kp o e,r⟩,fun ⟨xs,k,o,es,e,x,d,_⟩=>⟨o,e,fun v z=>by rw [d] at z;cases z⟩⟩
noncomputable def gQ (kx vx:Expr) (acc:Addr) (env:Env):Sem Unit:=do
 let kv←eval kx env
 let vv←holding [kv] (eval vx env)
 standAt {kx.pos with endLine:=vx.pos.endLine,endCol:=vx.pos.endCol}
 holding [kv,vv] (dictSet acc kv vv)
noncomputable def C4 (tk tv:TE):TBg (Nat×KVs):=fun σ H ys Q=>tk σ H fun y H1=>tv σ H1 fun v H2=>∃b k,y=.ref b∧dJ H2 ys.2∧dI H2 k b∧ys.2.length<=sizeLine∧∀ep',Q (ep',fV ys.2 k b v) H2
section
variable {Y:Cx} {acc:Addr} {kx vx tg iter:Expr} {scope:Scope} {pos:Pos}
theorem v5 (hu:Y.A.units+9<cLine) (hk:PE Y kx tk) (hv:PE Y vx tv):PBg eD Y acc (gQ kx vx acc Y.env) (C4 tk tv):=by
 intro pins s σ H ys Q I hf ha h;have I1:=I.pinned (fp:=[acc]) (iL hf) (iL (eD.obj ha));obtain ⟨o,eo,_⟩:=eD.obj ha;refine At (thn (hk _ s σ H _ I1 h) fun kv s1 zz=>?_);obtain ⟨y,H1,I2,ry,q1⟩:=zz;refine At (Db (thn (hv _ s1 σ H1 _ I2 q1) fun vv s2 zz=>?_));obtain ⟨v,H2,I3,rv,b,k,ey,ks,kb,hl,q2⟩:=zz;have pin:=I3.pin (acc,o) (Do _ (Do _ (bJ (by simp) eo)));obtain ⟨xs,rel,dd⟩:=eD.kept (h':=s2.heap) ha fun o' e'=>by rw [eo] at e';cases e';exact pin.1
 obtain ⟨f0,f1,f2,f3,f4,f5⟩:=hf;subst ey;obtain rfl:kv=Value.ref b:=ry;refine At (wpAny_standAt (Db ?_));refine wpAny_dictSet_heap (knd:=bD Y.prog Y.w) (hsz:=by rw [←rel.length];exact hl) (show (bD Y.prog Y.w).room Y.A by show Y.A.units+8<cLine;omega) (kb.is I3.hok) (aA.ofH (knd:=bD Y.prog Y.w) dd (rel.is ks I3.hok)) fun h' dd' hs=>?_;obtain ⟨ep',rw'⟩:=qi dd';exact ⟨(ep',fV ys.2 k b v),H2,I3.bZ.turned (t':=_) (fun b o hb e=>(hs.2 b hb).trans e) pin.2.1 f1 f3 f4 f5,pin.2.1,⟨_,rel.put k b rv,rw'⟩,q2 ep'⟩
theorem xF {P:Program} {w:World} {gens:List Comprehension} {d:Nat} {it acc:Value} {env:Env}:j5 P w (.DictComp kx vx gens scope pos) d it acc env:=⟨fun _=>rfl,rfl⟩
theorem xW:j6 (.DictComp kx vx [⟨tg,iter,[],0⟩] scope pos) 0 tg iter [] it (.ref acc) env (gQ kx vx acc env):=by
 unfold j6;rw [compTurn_dict];simp only [List.forIn_nil,pure_bind,if_true];rfl
theorem pR (H0:Hp) (h:Heap) (a:Addr) (ys:Nat×KVs) (hd:(a==sysModules)=false) (ac:eD.ac h a ys) (hz:ys.2.length<=sizeLine):aX P w H0 h a (PD a ys.1 ys.2):=by
 obtain ⟨xs,k,r⟩:=ac;exact kJ hz hd k r
end
section
variable {X:Cx} {scope:Scope} {own:List Str} {cap:List (Str×Nat)} {kx vx tg iter:Expr} {pos:Pos} {wi:TI} {g:TG} {tb:TBg (Nat×KVs)}
noncomputable def oZ (own:List Str) (cap:List (Str×Nat)) (wi:TI) (g:TG) (tb:TBg (Nat×KVs)):TE:=fun σ H Q=>wi σ H fun J H1=>hZ g nc tb J (cS own cap σ) H1 (0,[]) fun ys H2=>ys.2.length<=sizeLine∧∀a,H2 a=none->Q (.ref a) (upd H2 a (PD a ys.1 ys.2))
theorem ui (h:Heap) (a:Addr) (e:h.get? a=some {cls:=.type "dict",dict:=none,data:=.dict #[]}):eD.ac h a (0,[]):=
 ⟨[],.nil,_,_,e,⟨rfl,rfl,rfl⟩,rfl,rfl,List.nodup_nil⟩
theorem v9 (cs:CS X scope own cap) (hc:X.calm=true) (hi:PI X tg iter wi) (h1:∀pins s₂ H₂ fp,PG (cX X scope own cap pins s₂ H₂ fp) tg g)
  (h3:∀pins s₂ H₂ fp acc,PBg eD (cX X scope own cap pins s₂ H₂ fp) acc (gQ kx vx acc (bM X scope s₂.heap.objs.size)) tb)
  (hs:∀x,foldedSetIterable iter X.env x=pure x:=by intro _;rfl):PE X (.DictComp kx vx [⟨tg,iter,[],0⟩] scope pos) (oZ own cap wi g tb):=by
 intro pins s σ H Q I h;rw [arm_eval_DictComp];refine wpAny_comprehension_free (use:=none) rfl hs (cV (cs.lq I.ok)) cs.kind cs.names ?_;refine thn (hi pins s σ H _ I h) fun x s1 h1'=>thn h1' fun itv s2 h2'=>?_;obtain ⟨it,fp,tn,J,H2,e,I2,T,st2,f2,lp⟩:=h2';subst e;refine fI (B:=eD) (fin:=fun ys=>ys.2.length<=sizeLine) (ho:=fun a ys=>PD a ys.1 ys.2) (RR:=fun acc C=>compPost (model X.prog X.w) X.A X.xe none (EP X pins σ Q) acc C) cs wpAny_newObj_type rfl ui pR (fun _ _ _=>xF) (fun it acc env=>xW) codeAny_compStart_dict hc h1 (fun _ _ _ _=>lK) h3 T I2 st2 f2 lp ?_;intro acc C s' H' m hC I' hn hns q;exact ⟨m,hns,fun h' hs'=>⟨.ref acc,H',CT.Inv.mY I2 I' hC hn hs',rfl,q⟩⟩
theorem wo (cs:CS X scope own cap) (hc:X.calm=true) (hN:X.N.Nodup) (hix:X.N[i]?=some x) (hx:Loc X.env.scope x) (hi:PI X tg iter wi) (h1:∀pins s₂ H₂ fp,PG (cX X scope own cap pins s₂ H₂ fp) tg g)
  (h3:∀pins s₂ H₂ fp acc,PBg eD (cX X scope own cap pins s₂ H₂ fp) acc (gQ kx vx acc (bM X scope s₂.heap.objs.size)) tb)
  (hsw:swapsWith (.DictComp kx vx [⟨tg,iter,[],0⟩] scope pos) (some (.Name x pos')) spos.line X.env=pure true)
  (hs:∀x,foldedSetIterable iter X.env x=pure x:=by intro _;rfl) (hf:X.fn x=true∨X.env.scope.names.lookup x=some .local:=by first|exact .inl rfl|exact .inr rfl|assumption):
  PS X (.Assign [.Name x pos'] (.DictComp kx vx [⟨tg,iter,[],0⟩] scope pos) spos) (lR (oZ own cap wi g tb) (eJ i)):=by
 intro pins s σ H D I h;rw [exec_Assign_Name_used _ _ _ _ hsw];refine At (wpAny_standAt (At ?_));show wpAny _ X.A (do let _←comprehension (.DictComp kx vx [⟨tg,iter,[],0⟩] scope pos) scope X.env _ newDict false (eval iter X.env) (some (assign (.Name x pos') X.env))) _ _ s;refine At (AT (wpAny_comprehension_free (use:=some (assign (.Name x pos') X.env)) (Q:=fun _ s'=>SP X pins D .next s') rfl hs (cV (cs.lq I.ok)) cs.kind cs.names ?_) (fun _ s' hq=>AC (AC hq)) fun _ _ e=>e);refine thn (hi pins s σ H _ I h) fun xv s1 h1'=>thn h1' fun itv s2 h2'=>?_;obtain ⟨it,fp,tn,J,H2,e,I2,T,st2,f2,lp⟩:=h2';subst e;refine fI (B:=eD) (fin:=fun ys=>ys.2.length<=sizeLine) (ho:=fun a ys=>PD a ys.1 ys.2) (Q:=fun x H1=>eJ i x σ H1 D.nx) (RR:=fun acc C=>compPost (model X.prog X.w) X.A X.xe (some (assign (.Name x pos') X.env)) (fun _ s'=>SP X pins D .next s') acc C) cs wpAny_newObj_type rfl ui pR (fun _ _ _=>xF) (fun it acc env=>xW) codeAny_compStart_dict hc h1 (fun _ _ _ _=>lK) h3 T I2 st2 f2 lp ?_;intro acc C s' H' m hC I' hn hns q;show wpAny _ X.A (assign (.Name x pos') X.env (.ref acc)) _ _ _;refine wpAny_assign_Name (iS I' hN hix hx (v:=.ref acc) rfl (fun s'' I'' ⟨a,sb,ha⟩=>?_) hf);have hne:C≠a:=by
  rcases ha with z|z
  ·rw [z];exact Nat.ne_of_gt (F9 I2.lt hC)
  ·obtain ⟨v,hv⟩:=I2.cell x a z;exact Nat.ne_of_gt (F9 hv.lt hC)
 exact ⟨m,hns.sameBut sb hne,fun h' hs'=>⟨_,H',CT.Inv.mY I2 I'' hC hn hs',q⟩⟩
end
structure DCx (X:Cx) (ρ:Rho) (e:Expr) (c:Ow):Prop where
 pe:DFx X ρ e c
 ps:∀(i:Nat) (x:Str) (pos' spos:Pos),X.N.Nodup->X.N[i]?=some x->Loc X.env.scope x->(X.fn x=true∨X.env.scope.names.lookup x=some .local)->swapsWith e (some (.Name x pos')) spos.line X.env=pure true->
  PS X (.Assign [.Name x pos'] e spos) (lR (o4 X.K ρ c) (eJ i))
section
variable {X:Cx} {ρ:Rho} {e:Expr} {c:Ow} {xs:List D} {i:Nat} {x:Str} {pos pos':Pos}
theorem DC.cx (h:DC X ρ e xs):DCx X ρ e (.l xs):=⟨h.df.x,fun i x pos' spos hN hix hx hf hsw=>PS.weak (h.ps i x pos' spos hN hix hx hf hsw) fun D σ H ⟨S,ve,k⟩=>⟨S,ve,fun a vs H' ex hp r=>
 k a (.lst vs) _ (ex.trans (Ext.new hp)) (ex.back hp) aD ⟨vs,rfl,((r.av (S':=S.and a) fun b h=>h.imp_right fun z=>by rw [z];exact hp).ext ((Ext.new hp).to _))⟩⟩⟩
theorem vq (hN:X.N.Nodup) (hi:X.N[i]?=some x) (hx:Loc X.env.scope x) (he:DCx X ρ e c) (hsw:swapsWith e (some (.Name x pos')) pos.line X.env=pure true) (hf:X.fn x=true∨X.env.scope.names.lookup x=some .local):
  DS X ρ (.Assign [.Name x pos'] e pos) (.nx (ρ.set i (.owx c))):=PS.weak (he.ps i x pos' pos hN hi hx hf hsw) fun E σ H ⟨H₀,S₀,S,f,k⟩=>⟨S,f.ve,fun a vs H' ex hn ha r=>k _ H' _ (f.um ex hn ha r)⟩
end
noncomputable def C3 (K:PySem.W.Frag) (ρ:Rho) (k:PK) (d:D):TBg (Nat×KVs):=fun σ H ys Q=>∃S es,VE K H S ρ σ∧au K H S es ys.2∧es.length<=sizeLine∧k.dp<=8∧∀ep' kvs' H',aI H H'->au K H' S (dG es k d) kvs'->Q (ep',kvs') H'
noncomputable def DBd (Y:Cx) (acc:Addr) (m:Sem Unit) (ρ:Rho) (k:PK) (d:D):Prop:=PBg eD Y acc m (C3 Y.K ρ k d)
section
variable {Y:Cx} {acc:Addr} {ρ:Rho} {d:D} {kx vx:Expr}
theorem u4 (hu:Y.A.units+9<cLine) (hk:DE Y ρ kx (PK.d (.t l))) (hv:DE Y ρ vx d):DBd Y acc (gQ kx vx acc Y.env) ρ (.t l) d:=fun pins s σ H ys Q I hf ha ⟨S,es,ve,rp,hl,hd,kk⟩=>
 v5 hu hk hv pins s σ H ys Q I hf ha ⟨S,ve,fun y H1 e1 r1=>⟨S,ve.ext e1,fun v H2 e2 r2=>by
  have r1':=r1.ext (e2.to S);obtain ⟨b,vs,rfl,hb,rl⟩:=(show Rds Y.K H2 S (.tup (PK.dL l)) y from r1').cC;have rp2:=rp.ext ((e1.trans e2).to S);exact ⟨b,.t l,rfl,rp2.keys,Rds.key hd r1',by rw [←rp.length];exact hl,fun ep'=>kk ep' _ H2 (e1.trans e2) (au.put hd r1' r2 rp2)⟩⟩⟩
noncomputable def tbD (K:PySem.W.Frag) (B:Rho->PK->D->Prop):TBg (Nat×KVs):=fun σ H ys Q=>∃ρ k d,B ρ k d∧C3 K ρ k d σ H ys Q
theorem ze {K:PySem.W.Frag} {G:Rho->D->Rho->List Nat->Prop} {B:Rho->PK->D->Prop} {ks:List Nat} {J:It} {its:List D} {E:Nat->List (PK×D)} (hks:∀k∈ks,ρ[k]?=some .nil) (E0:E 0=[])
  (ht:∀(i:Nat) d,its[i]?=some d->∃ρ' k v,G ρ d ρ' ks∧B ρ' k v∧E (i+1)=dG (E i) k v∧(E i).length<=sizeLine∧k.dp<=8) {σ:St} {H:Hp} {S:Ad} {Q:Nat×KVs->Hp->Prop} (ve:VE K H S ρ σ) (hJ:uI K S J its H)
  (q:∀ep kvs H',aI H H'->au K H' S (E its.length) kvs->Q (ep,kvs) H'):hZ (gA K G) nc (tbD K B) J σ H (0,[]) Q:=by
 refine ⟨fun i n ys' H'=>n=its.length - i∧i<=its.length∧aI H H'∧au K H' S (E i) ys'.2,⟨its.length,by simp,Nat.zero_le _,Ext.refl,by rw [E0];exact .nil⟩,?_⟩;rintro i n ys' H' ⟨rfl,hi,ex,rv⟩;have dm:=(ve.ext ex).dom;obtain ⟨J1,J2⟩:=hJ H' ex dm i
 by_cases hlt:i<its.length
 ·have hd:its[i]?=some its[i]:=by simp [hlt]
  obtain ⟨go,yld⟩:=J1 _ hd;obtain ⟨ρ',k,v,hg,hb,he,hz,hdp⟩:=ht i _ hd;refine .inr ⟨go,fun x H1 y=>?_⟩;obtain ⟨e1,r1⟩:=yld x H1 y;have ve1:=(ve.ext ex).ext e1;refine ⟨ρ,its[i],ρ',ks,hg,S,ve1,r1,fun σ2 ve2 c=>⟨c.fgt fun k hk=>ve.unset (hks k hk),by
   unfold nc;dsimp only;rw [if_pos rfl];exact ⟨ρ',k,v,hb,S,E i,ve2,rv.ext (e1.to S),hz,hdp,fun ep' kvs' H3 e3 ru=>⟨its.length - (i+1),by omega,rfl,hlt,ex.trans (e1.trans e3),by rw [he];exact ru⟩⟩⟩⟩
 ·have e:i=its.length:=by omega
  subst e;exact .inl ⟨J2 (Gd _),q ys'.1 ys'.2 H' ex rv⟩
end
section
variable {X:Cx} {scope:Scope} {own:List Str} {cap:List (Str×Nat)} {ρ:Rho} {kx vx tg iter:Expr} {pos:Pos} {ks:List Nat} {its:List D} {E:Nat->List (PK×D)}
theorem u6 (cs:CS X scope own cap) (hc:X.calm=true) (hi:DI0 X tg ρ iter its) (hks:∀k∈ks,(cR own cap ρ)[k]?=some .nil) (E0:E 0=[]) (hz:(E its.length).length<=sizeLine)
  (ht:∀(i:Nat) d,its[i]?=some d->∃ρ' k v,(∀p s h f,DG (cX X scope own cap p s h f) tg (cR own cap ρ) d ρ' ks)∧(∀p s h f acc,DBd (cX X scope own cap p s h f) acc (gQ kx vx acc (bM X scope s.heap.objs.size)) ρ' k v)∧E (i+1)=dG (E i) k v∧(E i).length<=sizeLine∧k.dp<=8)
  (hs:∀x,foldedSetIterable iter X.env x=pure x:=by intro _;rfl):DCx X ρ (.DictComp kx vx [⟨tg,iter,[],0⟩] scope pos) (.d (E its.length)):=by
 have rd:∀(σ:St) (H:Hp) (Q:VK),o4 X.K ρ (.d (E its.length)) σ H Q->oZ own cap (wD X.K ρ its) (gA X.K _) (tbD X.K _) σ H Q:=fun σ H Q ⟨S,ve,k⟩=>⟨S,ve,fun J H1 e1 hJ=>
  ze (G:=fun ρ d ρ' ks=>∀p s h f,DG (cX X scope own cap p s h f) tg ρ d ρ' ks) (B:=fun ρ k d=>∀p s h f acc,DBd (cX X scope own cap p s h f) acc (gQ kx vx acc (bM X scope s.heap.objs.size)) ρ k d) hks E0 ht (ve.ext e1).cap hJ fun ep kvs H2 e2 r=>⟨by rw [←r.length];exact hz,fun a ha=>
   k a (PD a ep kvs) _ ((e1.trans e2).trans (Ext.new ha)) ((e1.trans e2).back ha) aD ⟨ep,kvs,rfl,((r.av (S':=S.and a) fun b h=>h.imp_right fun z=>by rw [z];exact ha).ext ((Ext.new ha).to _))⟩⟩⟩
 have g1:∀p s h f,PG (cX X scope own cap p s h f) tg (gA X.K (fun ρ d ρ' ks=>∀p s h f,DG (cX X scope own cap p s h f) tg ρ d ρ' ks)):=fun p s h f=>oK (Y:=cX X scope own cap p s h f) fun _ _ _ _ g=>g p s h f;have g3:∀p s h f acc,PBg eD (cX X scope own cap p s h f) acc (gQ kx vx acc (bM X scope s.heap.objs.size)) (tbD X.K (fun ρ k d=>∀p s h f acc,DBd (cX X scope own cap p s h f) acc (gQ kx vx acc (bM X scope s.heap.objs.size)) ρ k d)):=
  fun p s h f acc pins s σ H ys Q I fo a ⟨_,_,_,g,q⟩=>g p _ h f acc pins s σ H ys Q I fo a q
 exact ⟨PE.weak (v9 cs hc hi g1 g3 hs) rd,fun i x pos' spos hN hix hx hf hsw=>PS.weak (wo cs hc hN hix hx hi g1 g3 hsw hs hf) fun D σ H q=>rd σ H _ q⟩
end
set_option autoImplicit true
set_option relaxedAutoImplicit true
section
variable {prog:Program} {w:World} {K:Type} [DecidableEq K] {knd:HeapKind prog w K} {A:Around} {E:Value->Shared->Prop} {s:Shared} {d a:Addr} {k:K} {xs:List (K×Addr×Value)}
theorem vI {f:Bool->Value} {Q:Value->Shared->Prop} (hu:knd.room A.in1) (hkey:knd.is s.heap k a) (hd:(d==sysModules)=false) (hm:s.heap.DictOfH knd d xs) (h:Q (f (atKey xs k).isSome) {s with toks:=s.toks+knd.draws k}):
  wpAny (model prog w) A (contains (.ref d) (.ref a)>>=fun b=>pure (f b)) Q E s:=by
 refine At ?_;unfold contains
 try with_reducible refine Db ?_
 refine At (wpAny_specialOf hm.typeIs slot_dict_contains.lookup ?_);show wpAny _ _ (if (some (Value.builtin "dict.__contains__")==some Value.none)=true then _ else _) _ E s;rw [if_neg (by rw [beq_builtin_none];exact Gh)];refine At (wpAny_callSpecialUnlessNone?_slot (name:=Str.ofString "__contains__") hm.typeIs slot_dict_contains
  (wpAny_call_entry slot_dict_contains hm.typeIs entry_dict_contains ?_ (args_dict_contains _ _)))
 show wpAny _ _ (dictGet d (.ref a)>>=_) _ _ s;refine At (wpAny_dictGet_heap hu hkey hm ?_);cases hf:atKey xs k with
 |some p=>
  rw [hf] at h;show wpAny _ _ (ret (.bool true)) _ _ _;exact AC ⟨_,rfl,wpAny_truthy_bool (AC h)⟩
 |none=>
  rw [hf] at h;show wpAny _ _ (Builtin.Dict.pendingKey? d (.ref a)>>=_) _ _ _;exact At (wpAny_pendingKey_other hd (AC ⟨_,rfl,wpAny_truthy_bool (AC h)⟩))
end
section
variable {X:Cx} {ρ:Rho} {a b:Expr} {pos:Pos} {es:List (PK×D)} {l:List PK}
theorem tL {f:Bool->Bool} {op:CmpOp} (hop:∀u v:Value,compareOp op v u=(contains u v>>=fun b=>pure (.bool (f b)))) (hu:X.A.units+9<cLine):OpR X (compareOp op) (fun x y H Q=>∃b a ep kvs k,x=.ref b∧y=.ref a∧H a=some (PD a ep kvs)∧dJ H kvs∧dI H k b∧Q (.bl (f (cQ kvs k).isSome)) H):=by
 intro pins s σ H x y v u Q I rx ry ⟨b,a,ep,kvs,k,e1,e2,he,ks,kb,q⟩;subst e1 e2;obtain rfl:v=Value.ref b:=rx;obtain rfl:u=Value.ref a:=ry;obtain ⟨z,hd,xs,rel,dd⟩:=cm I.hok he;rw [hop];refine vI (knd:=bD X.prog X.w) (f:=fun b=>.bool (f b)) (show X.A.units+1+8<cLine by omega) (kb.is I.hok) hd (dd.ofH (rel.is ks I.hok)) ⟨.bl _,H,I.tok _,?_,q⟩;show Value.bool _=Value.bool _;rw [(rel.val k).tq,Option.isSome_map]
theorem xi {f:Bool->Bool} (hk:(PK.t l).dp<=8) {x y:V} {H:Hp} {S:Ad} {Q:VK} (rx:Rds X.K H S (PK.d (.t l)) x) (ry:Rds X.K H S (.pdc es) y) (k:∀v H',aI H H'->Rds X.K H' S (.bl (f (a8 es (.t l)).isSome)) v->Q v H'):
  ∃b a ep kvs k,x=.ref b∧y=.ref a∧H a=some (PD a ep kvs)∧dJ H kvs∧dI H k b∧Q (.bl (f (cQ kvs k).isSome)) H:=by
 cases ry with
 |@dP a ep kvs _ ha ns rp=>
  obtain ⟨b,vs,rfl,hb,rl⟩:=(show Rds X.K H S (.tup (PK.dL l)) x from rx).cC;refine ⟨b,a,ep,kvs,.t l,rfl,rfl,ha,rp.keys,Rds.key hk rx,?_⟩;have e:(cQ kvs (.t l)).isSome=(a8 es (.t l)).isSome:=by
   obtain ⟨i1,i2⟩:=au.look (k:=.t l) rp;cases q:a8 es (.t l) with
   |none=>rw [i2 q];rfl
   |some d=>obtain ⟨v,hv,_⟩:=i1 d q;rw [hv];rfl
  rw [e];exact k _ H Ext.refl (.bl _)
end
section
variable {prog:Program} {w:World} {K:Type} [DecidableEq K] {knd:HeapKind prog w K} {A:Around} {E:Value->Shared->Prop} {s:Shared} {d:Addr} {xs:List (K×Addr×Value)} {ep:Nat}
theorem zc (hd:(d==sysModules)=false) (hm:aA knd s.heap d xs ep) (hfit:(xs.length:Int)<2^63) (h:Q (.int xs.length (s.toks+1)) {s with toks:=s.toks+1+1}):
  wpAny (model prog w) A (call (.builtin "len") [.ref d]) Q E s:=by
 have key:MeetsIn prog w (Builtin.«dict.__len__» ⟨[.ref d],[]⟩) (fun _ R s=>(∃xs ep,aA knd s.heap d xs ep∧R (.ok (.ret (.int xs.length s.toks))) {s with toks:=s.toks+1})):=
  .of_wp fun A R s ⟨xs,ep,hm,h⟩=>by
   obtain ⟨o,es,ho,hc,hdat,hk,hn⟩:=hm;show wpAny _ _ (dictSize d>>=_) _ _ s;unfold dictSize;refine At (At (wpAny_dictEntries ho hdat (AC ?_)));show wpAny _ _ (Builtin.Dict.pendingCount d>>=_) _ _ s;refine At (wpAny_pendingCount_other hd ?_);refine wpAny_ret_mkInt ?_;have:es.size=xs.length:=by rw [←Array.length_toList,hk,F6]
   rw [Nat.add_zero,this];exact h
 refine Calls.call_function_entry kind_len plain_len entry_len (args_len1 _) ?_;unfold Builtin.«len»;refine At (m:=oneArg "len" _) (AC ?_);refine At (m:=callSpecial? (.ref d) (Str.ofString "__len__")) (wpAny_callSpecial?_slot (name:=Str.ofString "__len__") hm.typeIs F.slot_dict_len
  (call_meetsIn F.slot_dict_len hm.typeIs F.entry_dict_len (F.args_dict_len_1 _) key ⟨xs,ep,hm,?_⟩))
 show wpAny _ _ _ _ _ {s with toks:=s.toks+1};refine At (Db (AC ?_));refine At (wpAny_letGo ?_);show wpAny _ _ (if ((xs.length:Nat):Int)<0 then _ else _) _ _ _;rw [if_neg (by omega)];show wpAny _ _ (if ((xs.length:Nat):Int)≥2^63 then _ else _) _ _ _;rw [if_neg (by omega)];exact At (wpAny_mkInt (AC ⟨_,rfl,h⟩))
end
section
variable {X:Cx} {ρ:Rho} {e:Expr} {pos p:Pos} {es:List (PK×D)}
theorem r_:dw X (.builtin "len") (fun vs H Q=>∃a ep kvs,vs=[.ref a]∧H a=some (PD a ep kvs)∧Q (.int kvs.length) H):=by
 intro pins s σ H xs us Q I r ⟨a,ep,kvs,ex,he,q⟩;subst ex;obtain ⟨u,rfl,rx⟩:=vals1 r;cases rx;obtain ⟨z,hd,ys,rel,dd⟩:=cm I.hok he;have hn:=ky;have hl:=rel.length;exact zc hd dd (by omega) ⟨.int kvs.length,H,I.tok _,⟨s.toks+1,by rw [hl]⟩,q⟩
theorem yv (hg:Gl X "len") (hm:X.mg "len"=none) (ha:DA X ρ [e] [.pdc es]) (he:(starEach [e] X.env=(false,eval e X.env)::starEach [] X.env)⁻¹) (hpl:((backTo pos (starEach [] X.env)).any (·.1)=false)⁻¹):DE X ρ (.Call (.Name "len" p) [e] [] pos) (.int es.length):=
 dR r_ (fun vs H S Q rs dm k=>by
  obtain ⟨v,rfl,r⟩:=rs.one;cases r with
  |@dP a ep kvs _ ha ns rp=>exact ⟨a,ep,kvs,rfl,ha,by rw [←rp.length];exact k _ H Ext.refl (.int _)⟩) hg hm boot_len ha (by decide) (by decide) he hpl
end
set_option autoImplicit true
set_option relaxedAutoImplicit true
section
variable {prog:Program} {w:World} {E:Value->Shared->Prop} {K:Type} [DecidableEq K] {knd:HeapKind prog w K} {A:Around} {s:Shared}
noncomputable def jx (A:Around) (s:Shared) (ys:List (K×Addr×Value)):List (K×Addr×Value)->Bool->Prop
 |[],r=>r=true
 |x::xs,r=>(atKey ys x.1=none∧r=false)∨∃p e r',atKey ys x.1=some p∧SeqAt.EqAt A s x.2.2 p.2 e∧jx A s ys xs r'∧r=(e&&r')
theorem wC (hu:knd.room A) (ha:(a==sysModules)=false) (hb:(b==sysModules)=false)
  (da:aA knd s.heap a xs ep) (db:aA knd s.heap b ys ep') (ia:∀x∈xs,knd.is s.heap x.1 x.2.1) (ib:∀y∈ys,knd.is s.heap y.1 y.2.1)
  (hv:xs.length=ys.length->jx A s ys xs r) (h:Q (xs.length==ys.length&&r) s):wpAny (model prog w) A (Builtin.Dict.samePairs nm a b) Q E s:=by
 obtain ⟨oa,es,goa,_,hda,hla,_⟩:=da;obtain ⟨ob,fs,gob,_,hdb,hlb,hnb⟩:=db;have za:es.size=xs.length:=by rw [←Array.length_toList,hla,F6]
 have zb:fs.size=ys.length:=by rw [←Array.length_toList,hlb,F6]
 unfold Builtin.Dict.samePairs Builtin.Dict.showsAll;simp only [ha,hb,Bool.false_eq_true,if_false];refine At (AC (At (AC (At (wpAny_dictEntries goa hda ?_)))));refine At (wpAny_dictEntries gob hdb ?_)
 by_cases hz:es.size=fs.size
 ·have hl:xs.length=ys.length:=by omega
  rw [if_neg (by simpa using hz)];refine At (wpAny_dictEpoch goa hda (At ?_));rw [Std.Legacy.Range.forIn_eq_forIn_range'];simp only [Std.Legacy.Range.size,Nat.sub_zero,Nat.add_sub_cancel,Nat.div_one];refine wpAny_forIn_list _ (fun rest q s'=>s'=s∧q=(none,())∧∃i r',rest=List.range' i (es.size - i)∧jx A s ys (xs.drop i) r'∧(r'=r)) _ ?_ ?_ _ _ ⟨rfl,rfl,0,r,by simp,hv hl,rfl⟩
  ·rintro x rest q s' ⟨e1,e2,i,r',hr,hh,er⟩;subst e1 e2 er;have hi:i<es.size:=Nat.lt_of_not_le fun z=>by rw [Nat.sub_eq_zero_of_le z] at hr;cases hr
   obtain ⟨m,hm⟩:∃m,es.size - i=m+1:=⟨es.size - i - 1,by omega⟩
   rw [hm,List.range'_succ] at hr;injection hr with e3 e4;subst e3;have hx:x<xs.length:=by omega
   have ee:es[x]?=some ⟨knd.hash xs[x].1,.ref xs[x].2.1,xs[x].2.2⟩:=by
    rw [←Array.getElem?_toList,hla,List.getElem?_map,List.getElem?_eq_getElem hx];rfl
   rw [List.drop_eq_getElem_cons hx,jx] at hh;refine At (wpAny_dictEntries goa hda ?_);rw [ee];dsimp only;refine At (Db (At (wpAny_dictFind_heap hu (ia _ (List.getElem_mem hx)) gob hdb hlb ib hnb (fun hno=>?_) fun j p hj=>?_)))
   ·rw [atKey_none_of_get hno] at hh;rcases hh with ⟨_,er⟩|⟨_,_,_,z,_⟩
    ·refine AC ?_;simp only [Bool.not_false,if_true];rw [er,Bool.and_false] at h;exact AC (AC h)
    ·cases z
   ·rw [atKey_of_get hnb hj] at hh;rcases hh with ⟨z,_⟩|⟨p',e,r2,z,he,ht,er⟩
    ·cases z
    cases z;refine At (wpAny_dictEntries gob hdb ?_);have ef:fs[j]?=some ⟨knd.hash xs[x].1,.ref p.1,p.2⟩:=by
     rw [←Array.getElem?_toList,hlb,List.getElem?_map,hj];rfl
    rw [ef];refine Db (he prog w _ _ ?_);cases e with
    |false=>
     simp only [Bool.not_false,if_true];rw [er,Bool.false_and,Bool.and_false] at h;exact AC (AC h)
    |true=>
     simp only [Bool.not_true,Bool.false_eq_true,if_false];refine At (wpAny_dictEpoch goa hda ?_);rw [if_neg (by simp)];rw [Bool.true_and] at er;exact AC ⟨rfl,rfl,x+1,r2,by rw [e4];congr 1;omega,ht,er.symm⟩
  ·rintro q s' ⟨e1,e2,i,r',hr,hh,er⟩;subst e1 e2 er;have hi:es.size<=i:=Nat.le_of_not_lt fun z=>by
    obtain ⟨m,hm⟩:∃m,es.size - i=m+1:=⟨es.size - i - 1,by omega⟩
    rw [hm,List.range'_succ] at hr;cases hr
   rw [List.drop_eq_nil_of_le (by omega)] at hh;cases (show r'=true from hh);rw [hl,beq_self_eq_true,Bool.and_true] at h;exact AC h
 ·rw [if_pos (by simpa using hz)];have hl:(xs.length==ys.length)=false:=by rw [beq_eq_false_iff_ne];omega
  rw [hl,Bool.false_and] at h;exact At (wpAny_rule (AC h))
theorem Bl (hu:knd.room A.in1) (hc:A.units<cLine) (ha:(a==sysModules)=false) (hb:(b==sysModules)=false)
  (da:aA knd s.heap a xs ep) (db:aA knd s.heap b ys ep') (ia:∀x∈xs,knd.is s.heap x.1 x.2.1) (ib:∀y∈ys,knd.is s.heap y.1 y.2.1)
  (hv:xs.length=ys.length->jx A.in1 s ys xs r) (h:Q (.bool (xs.length==ys.length&&r)) s):wpAny (model prog w) A (compareOp .Eq (.ref a) (.ref b)) Q E s:=by
 refine wpAny_richCompare_same_room (op:=.Eq) da.typeIs db.typeIs F.slot_dict_eq (wpAny_call_entry F.slot_dict_eq da.typeIs F.entry_dict_eq ?_ (F.args_dict_eq_2 _ _)) hc;show wpAny _ _ (Builtin.Dict.dictSlotArgs _ _>>=_) _ _ _;refine At ?_;unfold Builtin.Dict.dictSlotArgs;refine At (wpAny_notOrdered_dict da.typeIs (AC (At (wpAny_isInstance db.typeIs F.sub_dict_dict ?_))));simp only [Bool.not_true,Bool.false_eq_true,if_false];refine At (AC (At (AC (At (wC hu ha hb da db ia ib hv (AC ⟨_,rfl,(fun z=>nomatch z),by simpa using h⟩))))))
end
noncomputable def eqV (x:D):Bool:=bu x&&decide ((toPy x).depth<=32)
noncomputable def eqB (es fs:List (PK×D)):Bool:=es.all fun p=>match a8 fs p.1 with
 |some w=>eqD p.2 w
 |none=>false
section
variable {X:Cx} {pins:List (Addr×Obj)} {σ:St} {H:Hp} {s:Shared} {S:Ad}
theorem zd (ok:fs.all (fun p=>eqV p.2)=true) (h:a8 fs k=some d):eqV d=true:=by
 obtain ⟨p,hp,e⟩:=Option.map_eq_some_iff.mp h;rw [←e];exact F7.mp ok p (List.mem_of_find?_eq_some hp)
theorem pQ (hu:X.A.units+64<cLine) (I:Inv X pins σ H s) (rb:au X.K H S fs lvs) (kb:KP lvs ys) (okf:fs.all (fun p=>eqV p.2)=true):
  ∀{es:List (PK×D)} {kvs:List (PK×Addr×V)} {xs:List (PK×Addr×Value)},au X.K H S es kvs->KP kvs xs->es.all (fun p=>eqV p.2)=true->jx X.A.in1 s ys xs (eqB es fs)
 |_,_,_,.nil,k,_=>by cases k;exact rfl
 |_,_,_,.cons (k:=k') (d:=d) hd kk r t,k,oke=>by
  cases k with
  |@cons _ x _ xs h kt=>
   obtain ⟨o1,o2⟩:=Gg.mp (show (eqV d&&_)=true from oke);have ih:=pQ hu I rb kb okf t kt o2;obtain ⟨i1,i2⟩:=au.look (k:=k') rb;have q:=kb.val k';have e1:x.1=k':=h.1.symm;unfold jx;rw [e1];cases e:a8 fs k' with
   |none=>
    rw [i2 e] at q;refine .inl ⟨?_,?_⟩
    ·cases z:atKey ys k' with
     |none=>rfl
     |some p=>rw [z] at q;exact q.elim
    ·show ((match a8 fs k' with|some w=>eqD d w|none=>false)&&_)=false;rw [e];rfl
   |some w=>
    obtain ⟨v,hv,rv⟩:=i1 w e;rw [hv] at q;obtain ⟨u,hu',ru⟩:=bQ.some_of q;obtain ⟨p,hp,hp2⟩:=Option.map_eq_some_iff.mp hu';obtain ⟨a1,a2⟩:=Gg.mp (show (bu d&&decide _)=true from o1);obtain ⟨b1,b2⟩:=Gg.mp (show (bu w&&decide _)=true from zd okf e);obtain ⟨as,ra⟩:=dX I _ a1 r h.2.2;obtain ⟨bs,rb'⟩:=dX I _ b1 rv ru;refine .inr ⟨p,eqD d w,_,hp,?_,ih,?_⟩
    ·rw [hp2];exact SeqAt.eqAt_reads _ _ _ _ _ _ _ _ ra rb' (dQ a1) (dQ b1) (by have:=of_decide_eq_true a2;show X.A.units+1+_<_;omega)
    ·show ((match a8 fs k' with|some w=>eqD d w|none=>false)&&_)=_;rw [e];rfl
theorem Cc (hu:X.A.units+64<cLine) (oke:es.all (fun p=>eqV p.2)=true) (okf:fs.all (fun p=>eqV p.2)=true):
  OpR X (compareOp .Eq) (fun x y H Q=>∃S,Rds X.K H S (.pdc es) x∧Rds X.K H S (.pdc fs) y∧Q (.bl (es.length==fs.length&&eqB es fs)) H):=by
 intro pins s σ H x y v u Q I rx ry zz;obtain ⟨S,r1,r2,q⟩:=zz;cases r1 with
 |@dP a ep kvs _ ha _ ra=>
  cases r2 with
  |@dP b ep' lvs _ hb _ rb=>
   obtain rfl:v=Value.ref a:=rx;obtain rfl:u=Value.ref b:=ry;obtain ⟨_,za,xs,ka,da⟩:=cm I.hok ha;obtain ⟨_,zb,ys,kb,db⟩:=cm I.hok hb;refine Bl (knd:=bD X.prog X.w) (show X.A.units+1+8<cLine by omega) (by omega) za zb da db (ka.is ra.keys I.hok) (kb.is rb.keys I.hok) (fun _=>pQ hu I rb kb okf ra ka oke) ⟨.bl _,H,I,?_,q⟩;show Value.bool _=Value.bool _;rw [ra.length,rb.length,ka.length,kb.length]
end
end CT
set_option autoImplicit true
set_option relaxedAutoImplicit true
namespace CT
open PySem PySem.Spec PySem.W L2
structure Loose (X:Cx) (pins:List (Addr×Obj)) (H:Hp) (T:Addr):Prop where
 new:X.s₀.heap.objs.size<=T
 loc:T≠X.env.locals
 cell:∀x c,X.env.cells.lookup x=some c->c≠T
 pin:∀p∈X.pn++pins,p.1≠T
 free:H T=none
noncomputable def cg (X:Cx) (pins:List (Addr×Obj)) (H:Hp) (h:Heap) (a:Addr) (φ:Option Value->Prop):Prop:=
 ∃oe vs,h.get? a=some oe∧oe.data=.fields vs∧((vs[1]?=some .none∧φ none)∨
  ∃T oT ts fl,vs[1]?=some (.ref T)∧Loose X pins H T∧T≠a∧h.get? T=some oT∧oT.data=.fields ts∧ts[3]?=some fl∧φ (some fl))
noncomputable abbrev qx:Option Value->Prop:=fun _=>True
theorem cg.imp (t:cg X pins H h a φ) (f:∀x,φ x->ψ x):cg X pins H h a ψ:=by
 obtain ⟨oe,vs,h1,h2,q⟩:=t;refine ⟨oe,vs,h1,h2,q.imp (fun z=>⟨z.1,f _ z.2⟩) ?_⟩;rintro ⟨T,oT,ts,fl,z1,z2,z3,z4,z5,z6,z7⟩;exact ⟨T,oT,ts,fl,z1,z2,z3,z4,z5,z6,f _ z7⟩
theorem Loose.same (l:Loose X pins H T) (h:H' T=none):Loose X pins H' T:=⟨l.new,l.loc,l.cell,l.pin,h⟩
section
variable {X:Cx} {pins:List (Addr×Obj)} {σ:St} {H:Hp} {s:Shared} {a C:Addr} {dx:Option Addr} {fr:Bool} {M:Model} {A:Around} {E:Value->Shared->Prop}
theorem _root_.L2.Inv.loose (I:Inv X pins σ H s) (h:s.heap.objs.size<=T):Loose X pins H T where
 new:=Gb I.sz h
 loc:=Nat.ne_of_gt (F9 I.lt h)
 cell:=fun x c e=>by obtain ⟨v,o,ho,_⟩:=I.cell x c e;exact Gc (F9 (Cl ho) h)
 pin:=fun p hp=>Gc (F9 (Cl (I.pin p hp).1) h)
 free:=I.hok.fresh h
theorem _root_.L2.Inv.mark {t':Nat} (I:Inv X pins σ H s) (l:Loose X pins H T) (k:∀b o,b≠T->s.heap.get? b=some o->h'.get? b=some o):Inv X pins σ H {s with heap:=h',toks:=t'}:=
 I.turned (it:=T) k l.free l.loc (.inr l.new) l.cell l.pin
theorem _root_.L2.Inv.excAt {t':Nat} (I:Inv X pins σ H s) (ha:H a=some (bg fr a C dx)) (k:∀b o,b≠a->s.heap.get? b=some o->h'.get? b=some o) (h1:h'.get? a=some ⟨.ref C,dx,.fields vs,#[]⟩) (hz:vs.size=6) (hf:fr'=true->vs[1]?=some .none):
  Inv X pins σ (upd H a (bg fr' a C dx)) {s with heap:=h',toks:=t'}:=
 I.write (x:=a) (e:=a) (by rw [ha];exact True.intro) (.inl rfl) k ⟨_,h1⟩ (sS h1 hz hf)
theorem _root_.L2.Inv.slots (I:Inv X pins σ H s) (hs:Heap.SlotsOnly (frs X.stack) s.heap h'):Inv X pins σ H {s with heap:=h'}:=by
 have nH:∀b u,H b=some u->b∉frs X.stack:=fun b u e hb=>by rw [I.lQ b hb] at e;cases e
 refine I.call (g':=s.gens) (d':=s.drawn) (t':=s.toks) (ch:=[]) ⟨fun b o e _ hb _=>(hs.2.1 b hb).trans e,fun b o e _ _ _=>hs.2.2 b o e,fun b o _ n _=>n,fun b o e _=>let ⟨sl,q⟩:=hs.2.2 b o e;⟨_,q⟩,fun _ _ q=>q,fun _ _ _ q=>q,fun b ps q=>⟨#[],by rw [q];simp⟩⟩
  (fun b u e=>(I.hok b u e).fE (fun c v hc q=>(hs.2.1 c ?_).trans q) (fun _ q=>q) fun _ _ q=>q) I.bare fun b z=>nomatch z
 rcases hc with z|z
 ·rw [z];exact nH b u e
 ·exact nH c _ z
theorem ma (I:Inv X pins σ H s) (hfr:A.frames=some X.stack) (hs:X.stack=X.env::X.outer) (hf:X.env.frame=some X.env.locals) (ha:H a=some (bg fr a C dx))
  (h:∀s',Inv X pins σ (upd H a (bg false a C dx)) s'->cg X pins (upd H a (bg false a C dx)) s'.heap a (fun fl=>fl=some (rawInt X.env.locals))->Q () s'):
  wpAny M A (do let b←EntryCells.newEntry head (←frameOf X.env) .none (rawInt X.env.locals) .none (←entryPlaceOf X.env.locals hadNext);setField (.ref a) 1 b) Q E s:=by
 have hl:=I.stack;rw [hs] at hl hfr;refine At (wpAny_frameOf_fun hfr hl hf fun h₁ hs₁=>?_);have I1:Inv X pins σ H {s with heap:=h₁}:=I.slots (by rw [hs];exact hs₁);refine At (wpAny_entryPlaceOf fun pl hpl=>?_);unfold EntryCells.newEntry newFields;refine At (wpAny_newObj_type ?_ (hpl.sizeOk5 _ _ _ _ _));obtain ⟨vs,he₁,hz,_⟩:=fe (I1.hok a _ ha);have lo:=I1.loose (T:=h₁.objs.size) (Gd _);have he₂:=BT (h:=h₁) {cls:=.type "traceback",dict:=none,data:=.fields ([head,.ref X.env.locals,.none,rawInt X.env.locals,.none]++(if pl.isEmpty then List.replicate 6 Value.none else pl)).toArray} he₁;have hT₂:=Ch h₁ (o:={cls:=.type "traceback",dict:=none,data:=.fields ([head,.ref X.env.locals,.none,rawInt X.env.locals,.none]++(if pl.isEmpty then List.replicate 6 Value.none else pl)).toArray}) rfl;have I2:=I1.kept (t':=s.toks) (h':=h₁.push {cls:=.type "traceback",dict:=none,data:=.fields ([head,.ref X.env.locals,.none,rawInt X.env.locals,.none]++(if pl.isEmpty then List.replicate 6 Value.none else pl)).toArray}) (fun b u q=>BT _ q);refine wpAny_setField he₂ rfl (by rw [hz];decide) (h _ ?_ ?_)
 ·refine I2.excAt (t':=s.toks) ha (fun b o hb q=>(Heap.get?_update_other _ _ (Ne.symm hb)).trans q) (vs:=vs.setIfInBounds 1 (.ref h₁.objs.size)) ?_ (by simpa using hz) (fun z=>nomatch z);exact Heap.get?_update_self _ he₂ rfl
 ·have hTe:h₁.objs.size≠a:=Nat.ne_of_gt (Cl he₁);refine ⟨_,vs.setIfInBounds 1 (.ref h₁.objs.size),Heap.get?_update_self _ he₂ rfl,rfl,.inr ⟨h₁.objs.size,_,_,rawInt X.env.locals,?_,lo.same (by rw [ah hTe];exact lo.free),hTe,(Heap.get?_update_other _ _ (Ne.symm hTe)).trans hT₂,rfl,?_,rfl⟩⟩
  ·simp [hz]
  ·first|(simp;done)|(rcases hpl with rfl|⟨_,_,_,_,_,_,_,rfl⟩<;>simp)
theorem lH (I:Inv X pins σ H s) (hfr:A.frames=some X.stack) (hs:X.stack=X.env::X.outer) (hf:X.env.frame=some X.env.locals) (ha:H a=some (bg fr a C dx)) (t:cg X pins H s.heap a qx)
  (h:∀s',Inv X pins σ (upd H a (bg false a C dx)) s'->cg X pins (upd H a (bg false a C dx)) s'.heap a (fun fl=>fl=some (rawInt X.env.locals))->Q () s'):wpAny M A (noteFrame (.ref a) X.env) Q E s:=by
 obtain ⟨oe,vs,he,hd,t⟩:=t;unfold noteFrame;simp only [hf];rcases t with ⟨h1,_⟩|⟨T,oT,ts,fl,h1,lo,hTa,hT,hdT,h3,_⟩
 ·refine At (Da he hd h1 ?_);rw [if_neg (by decide)];exact ma I hfr hs hf ha h
 ·refine At (Da he hd h1 ?_);rw [if_pos (show (Value.ref T !=Value.none)=true from by simp)];refine At (Da hT hdT h3 ?_)
  by_cases hq:(fl==rawInt X.env.locals)=true
  ·rw [if_pos hq];obtain ⟨vs',e1,hz,_⟩:=fe (I.hok a _ ha);rw [he] at e1;cases e1;cases hd;refine AC (h s ?_ ?_)
   ·have:=I.excAt (fr':=false) (t':=s.toks) (h':=s.heap) ha (fun b o _ q=>q) he hz (fun z=>nomatch z);exact this
   ·exact ⟨_,_,he,rfl,.inr ⟨T,oT,ts,fl,h1,lo.same (by rw [ah hTa];exact lo.free),hTa,hT,hdT,h3,by rw [beq_iff_eq.mp hq]⟩⟩
  ·rw [if_neg hq];refine At (wpAny_setField hT hdT (Array.getElem?_eq_some_iff.mp h3).1 ?_);have I1:=I.mark (T:=T) (t':=s.toks) (h':=s.heap.update T (Obj.mapFields (·.setIfInBounds 3 Value.none))) lo fun b o hb q=>(Heap.get?_update_other _ _ (Ne.symm hb)).trans q;exact ma I1 hfr hs hf ha h
theorem d_ (I:Inv X pins σ H s) (t:cg X pins H s.heap a φ)
  (h:∀s',Inv X pins σ H s'->cg X pins H s'.heap a (fun fl=>∃x,φ x∧x.isSome=fl.isSome)->Q () s'):wpAny M A (setFlight (.ref a) fo) Q E s:=by
 obtain ⟨oe,vs,he,hd,t⟩:=t;unfold setFlight;rcases t with ⟨h1,hp⟩|⟨T,oT,ts,fl,h1,lo,hTa,hT,hdT,h3,hp⟩
 ·refine At (Da he hd h1 ?_);rw [if_neg (by decide)];exact AC (h s I ⟨oe,vs,he,hd,.inl ⟨h1,none,hp,rfl⟩⟩)
 ·refine At (Da he hd h1 ?_);rw [if_pos (show (Value.ref T !=Value.none)=true from by simp)];have hsz:=(Array.getElem?_eq_some_iff.mp h3).1;refine wpAny_setField hT hdT hsz (h _ ?_ ?_)
  ·exact I.mark (T:=T) (t':=s.toks) lo fun b o hb q=>(Heap.get?_update_other _ _ (Ne.symm hb)).trans q
  ·refine ⟨oe,vs,(Heap.get?_update_other _ _ hTa).trans he,hd,.inr ⟨T,_,_,fo.elim .none (fun f=>rawInt f),h1,lo,hTa,Heap.get?_update_self _ hT (Obj.isFreed_of_fields (Obj.data_mapFields hdT _)),Obj.data_mapFields hdT _,by simp [hsz],some fl,hp,rfl⟩⟩
end
end CT
set_option autoImplicit true
set_option relaxedAutoImplicit true
namespace CT
open PySem PySem.Spec PySem.W L2
open PyProof.Rows hiding St
noncomputable def CXA (P:Program) (w:World):CXT:=fun outer H s E e s'=>∃a H' C dx,e=.ref a∧s'.os=s.os∧AllBare s'.gens∧Un (frs outer) [] H H' s.heap s'.heap∧HOk P w H' s'.heap∧H' a=some (bg false a C dx)∧
 (∃oe vs T oT ts fl,s'.heap.get? a=some oe∧oe.data=.fields vs∧vs[1]?=some (.ref T)∧s.heap.objs.size<=T∧H' T=none∧T≠a∧s'.heap.get? T=some oT∧oT.data=.fields ts∧ts[3]?=some fl)∧E e none H'
noncomputable abbrev _root_.L2.Cx.pnd (X:Cx) (pins:List (Addr×Obj)):Cx:={X with pn:=X.pn++pins}
noncomputable abbrev _root_.L2.Cx.xw (X:Cx) (pins:List (Addr×Obj)) (R:St->Addr->Hp->Prop):Cx:=
 {X with pn:=X.pn++pins,xe:=fun e s'=>∃σ a H C dx,e=.ref a∧Inv (X.pnd pins) [] σ H s'∧H a=some (bg false a C dx)∧cg (X.pnd pins) [] H s'.heap a qx∧R σ a H}
section
variable {X:Cx} {pins pins':List (Addr×Obj)} {σ:St} {H:Hp} {s:Shared} {R:St->Addr->Hp->Prop} {a C:Addr} {dx:Option Addr}
theorem _root_.L2.Cx.Ok.re {X Y:Cx} (ok:X.Ok) (h:Y={X with pn:=Y.pn,xe:=Y.xe}):Y.Ok:=by
 rw [h];exact ⟨ok.mod,ok.kind,ok.glob,ok.blt,ok.above,ok.inj,ok.has,ok.cab,ok.hd,ok.frames,ok.stk,ok.exf,ok.bs,ok.bsz,ok.gY,ok.jK,ok.c7,ok.frf⟩
theorem _root_.L2.Inv.re {E:Value->Shared->Prop} (I:Inv X pins σ H s) (hp:∀p∈pn++pins',p∈X.pn++pins):Inv {X with pn:=pn,xe:=E} pins' σ H s:=
 ⟨Cx.Ok.re I.ok rfl,I.os,I.bare,I.base,I.loc,I.cell,I.free,I.bX,fun p h=>I.pin p (hp p h),I.hok,I.len⟩
theorem _root_.L2.Inv.xw (I:Inv X pins σ H s):Inv (X.xw pins R) [] σ H s:=Inv.re I fun p h=>by simpa using h
theorem _root_.L2.Inv.eG (I:Inv X (pins++pins') σ H s):Inv (X.xw pins R) pins' σ H s:=Inv.re I fun p h=>by simpa [or_assoc] using h
theorem _root_.L2.Inv.j0 (I:Inv (X.xw pins R) pins' σ H s):Inv X (pins++pins') σ H s:=Inv.re (X:=X.xw pins R) (pn:=X.pn) (E:=X.xe) I fun p h=>by
 rcases Fk.mp h with h|h
 ·exact Ev _ (Ev _ h)
 ·rcases Fk.mp h with h|h
  ·exact Ev _ (Do _ h)
  ·exact Do _ h
theorem _root_.L2.Inv.xwp (I:Inv (X.xw pins R) pins' σ H s):Inv (X.pnd pins) [] σ H s:=Inv.re (X:=X.xw pins R) (E:=X.xe) I fun p h=>Ev _ (by simpa using h)
theorem _root_.L2.Inv.pxw (I:Inv (X.pnd pins) [] σ H s):Inv X pins σ H s:=Inv.re (X:=X.pnd pins) (pn:=X.pn) (E:=X.xe) I fun p h=>by simpa using h
theorem Loose.re (l:Loose X pins H T) (h0:Y.s₀=X.s₀) (h1:Y.env=X.env) (h2:∀p∈Y.pn++pins',p∈X.pn++pins):Loose Y pins' H T:=
 ⟨by rw [h0];exact l.new,by rw [h1];exact l.loc,by rw [h1];exact l.cell,fun p hp=>l.pin p (h2 p hp),l.free⟩
theorem cg.re (t:cg X pins H h a φ) (h0:Y.s₀=X.s₀) (h1:Y.env=X.env) (h2:∀p∈Y.pn++pins',p∈X.pn++pins):cg Y pins' H h a φ:=by
 obtain ⟨oe,vs,q1,q2,q⟩:=t;refine ⟨oe,vs,q1,q2,q.imp_right ?_⟩;rintro ⟨T,oT,ts,fl,z1,z2,z⟩;exact ⟨T,oT,ts,fl,z1,z2.re h0 h1 h2,z⟩
theorem PE.xw (h:PE X e t) (hx:∀e s,¬X.xe e s):PE (X.xw pins R) e t:=fun pins' s σ H Q I hw=>
 AT (h (pins++pins') s σ H Q I.j0 hw) (fun _ _ ⟨v,H',I',r,q⟩=>⟨v,H',I'.eG,r,q⟩) fun e s z=>absurd z (hx e s)
theorem PT.xw (h:PT X e t) (hx:∀e s,¬X.xe e s):PT (X.xw pins R) e t:=fun pins' s σ H Q I hw=>
 AT (h (pins++pins') s σ H Q I.j0 hw) (fun _ _ ⟨H',I',q⟩=>⟨H',I'.eG,q⟩) fun e s z=>absurd z (hx e s)
theorem PA.xw (h:PA X es t) (hx:∀e s,¬X.xe e s):PA (X.xw pins R) es t:=fun pos pins' s σ H Q I hw=>
 AT (h pos (pins++pins') s σ H Q I.j0 hw) (fun _ _ ⟨v,H',I',r,q⟩=>⟨v,H',I'.eG,r,q⟩) fun e s z=>absurd z (hx e s)
theorem _root_.L2.SP.eG {D:Ends} {f:Flow} {s':Shared} (h:SP X (pins++pins') D f s'):SP (X.xw pins R) pins' D f s':=by
 cases f with
 |next=>obtain ⟨σ',H',I,q⟩:=h;exact ⟨σ',H',I.eG,q⟩
 |brk=>obtain ⟨σ',H',I,q⟩:=h;exact ⟨σ',H',I.eG,q⟩
 |cont=>obtain ⟨σ',H',I,q⟩:=h;exact ⟨σ',H',I.eG,q⟩
 |ret u=>obtain ⟨v,σ',H',I,r,q⟩:=h;exact ⟨v,σ',H',I.eG,r,q⟩
theorem PS.xw {st:Stmt} {t:TS} (h:PS X st t) (hx:∀e s,¬X.xe e s):PS (X.xw pins R) st t:=fun pins' s σ H D I hw=>
 AT (h (pins++pins') s σ H D I.j0 hw) (fun _ _ q=>q.eG) fun e s z=>absurd z (hx e s)
theorem PSs.xw {st:List Stmt} {t:TS} (h:PSs X st t) (hx:∀e s,¬X.xe e s):PSs (X.xw pins R) st t:=fun pins' s σ H D I hw=>
 AT (h (pins++pins') s σ H D I.j0 hw) (fun _ _ q=>q.eG) fun e s z=>absurd z (hx e s)
end
noncomputable def tX (K:Frag) (ρ:Rho) (d:D) (R:St->Addr->Hp->Prop) (σ:St) (H:Hp):Prop:=∃S,VE K H S ρ σ∧∀a H',aI H H'->H a=none->Rds K H' S d (.ref a)->R σ a H'
noncomputable def DEX (X:Cx) (ρ:Rho) (e:Expr) (d:D):Prop:=∀pins R,PE (X.xw pins R) e fun σ H _=>tX X.K ρ d R σ H
noncomputable def tSX (K:Frag) (ρ ρ':Rho) (d:D) (R:St->Addr->Hp->Prop) (σ:St) (H:Hp):Prop:=∃H₀ S₀ S,Fm K H₀ S₀ H S ρ σ∧∀σ' a H' S',Fm K H₀ S₀ H' S' ρ' σ'->H₀ a=none->Rds K H' S' d (.ref a)->R σ' a H'
noncomputable def DSX (X:Cx) (ρ:Rho) (st:Stmt) (ρ':Rho) (d:D):Prop:=∀pins R,PS (X.xw pins R) st fun _ σ H=>tSX X.K ρ ρ' d R σ H
noncomputable def b7 (X:Cx) (ρ:Rho) (sts:List Stmt) (ρ':Rho) (d:D):Prop:=∀pins R,PSs (X.xw pins R) sts fun _ σ H=>tSX X.K ρ ρ' d R σ H
section
variable {X:Cx} {ρ ρ' ρ1:Rho} {e c:Expr} {d:D} {st:Stmt} {sts:List Stmt} {pos pos':Pos} {i:Nat} {x:Str}
theorem sM (h:DSX X ρ st ρ' d):b7 X ρ (st::sts) ρ' d:=fun pins R=>PSs.weak (hI (h pins R) (mB (sts:=sts))) fun E σ H q=>q
theorem sL (h1:DS X ρ st (.nx ρ1)) (h2:b7 X ρ1 sts ρ' d) (hx:∀e s,¬X.xe e s:=by intro _ _ z;exact z):b7 X ρ (st::sts) ρ' d:=fun pins R=>
 PSs.weak (hI (PS.xw h1 hx) (h2 pins R)) fun E σ H ⟨H₀,S₀,S,f,k⟩=>⟨H₀,S₀,S,f,fun σ' H' S' f'=>⟨H₀,S₀,S',f',k⟩⟩
theorem rK {K:Frag} {R:St->Addr->Hp->Prop} {σ:St} {H:Hp} (q:tSX K ρ ρ d R σ H):tX K ρ d R σ H:=by
 obtain ⟨H₀,S₀,S,f,k⟩:=q;exact ⟨S,f.ve,fun a H' ex hn r=>k σ a H' S (f.grow ex) (f.ext.back hn) r⟩
theorem vy (h:DEX X ρ e d) (hs:(swapsWith e none pos.line X.env=pure false)⁻¹):DSX X ρ (.Expr e pos) ρ d:=fun pins R=>PS.weak (gq (h pins R) hs) fun E σ H q=>rK q
theorem yP (h:DEX X ρ e d):DSX X ρ (.Return (some e) pos) ρ d:=fun pins R=>PS.weak (kM (h pins R)) fun E σ H q=>rK q
theorem oN:PSs (X.xw pins R) sts (fun E σ H=>∃ρ ρ' d,b7 X ρ sts ρ' d∧tSX X.K ρ ρ' d R σ H):=fun pins' s σ H D I ⟨_,_,_,h,q⟩=>h pins R pins' s σ H D I q
theorem Be (hc:DT X ρ c q) (ha:q=true->b7 X ρ a ρ' d) (hb:q=false->b7 X ρ b ρ' d) (hx:∀e s,¬X.xe e s:=by intro _ _ z;exact z):DSX X ρ (.If c a b pos) ρ' d:=fun pins R=>
 PS.weak (xQ (PT.xw hc hx) (oN (sts:=a)) (oN (sts:=b))) fun E σ H ⟨H₀,S₀,S,f,k⟩=>⟨S,f.ve,fun H' ex=>by
  cases q with
  |true=>exact fx ⟨ρ,ρ',d,ha rfl,H₀,S₀,S,f.grow ex,k⟩
  |false=>exact fT ⟨ρ,ρ',d,hb rfl,H₀,S₀,S,f.grow ex,k⟩⟩
end
set_option autoImplicit true
set_option relaxedAutoImplicit true
noncomputable abbrev xk (R:St->Addr->Hp->Prop) (σ:St):XK:=fun e _ H'=>∃a,e=.ref a∧R σ a H'
section
variable {X:Cx} {pins pins':List (Addr×Obj)} {R:St->Addr->Hp->Prop} {k:Nat} {f C:Addr} {fd:FuncData} {ps:List Str} {sp:Sp} {x m:Str} {p pos apos:Pos} {e o:Expr} {es:List Expr} {ta:TE} {t:TA} {σ:St} {H:Hp} {s s':Shared} {Q:VK}
theorem jq {e:Value} (I:Inv (X.xw pins R) pins' σ H s) (h:CXA X.prog X.w X.stack H s (xk R σ) e s'):(X.xw pins R).xe e s':=by
 obtain ⟨a,H',C,dx,rfl,os,bare,un,hok,ha,⟨oe,vs,T,oT,ts,fl,h1,h2,h3,h4,h5,h6,h7,h8,h9⟩,a',ea,hR⟩:=h;cases ea;have I':Inv (X.xw pins R) pins' σ H' s':=I.wQ (ch:=[]) os un hok bare fun b z=>nomatch z;have lo:=I.loose (T:=T) h4;exact ⟨σ,a,H',C,dx,rfl,I'.xwp,ha,⟨oe,vs,h1,h2,.inr ⟨T,oT,ts,fl,h3,(lo.same h5).re rfl rfl fun p h=>Ev _ (by simpa using h),h6,h7,h8,h9,trivial⟩⟩,hR⟩
theorem lN (F:aG X.prog X.w X.K X.mg X.base (CXA X.prog X.w) k f fd ps sp) (hr:aE k X.A) (hb:Binds X.K fd ps []) (I:Inv (X.xw pins R) pins' σ H s) (r:Vals vs us) (h:sp vs H Q (xk R σ)):
  wpAny (model X.prog X.w) X.A (call (.ref f) us) (EP (X.xw pins R) pins' σ Q) (X.xw pins R).xe s:=by
 have hl:(us++[]).length=ps.length:=by rw [List.append_nil,←r.length];exact F.len _ _ _ _ h
 refine wpAny_call (codeAny_mono (F.run X.A X.stack s H ⟨us,[]⟩ us vs Q (xk R σ) hr I.qI (by have:=hb s us I.kIn hl;rw [List.append_nil] at this;exact this) r h) fun r s' hq=>?_);cases r with
 |error e=>exact jq I hq
 |ok fl=>
  cases fl with
  |ret u=>exact I.after hq
  |next=>exact False.elim hq
  |brk=>exact False.elim hq
  |cont=>exact False.elim hq
theorem wa (F:aG X.prog X.w X.K X.mg X.base (CXA X.prog X.w) k f fd ps sp) (hr:aE k X.A) (hg:Gl X x) (hm:X.mg x=some (.ref f)) (hk:PySem.W.keepIn X.K (.ref f)=true) (hb:Binds X.K fd ps [])
  (ha:PA (X.xw pins R) (e::es) t) (hdb: ~~~((x==("__debug__":Str))=false)) (he:(starEach (e::es) X.env=(false,eval e X.env)::starEach es X.env)⁻¹) (hpl:((backTo pos (starEach es X.env)).any (·.1)=false)⁻¹):
  PE (X.xw pins R) (.Call (.Name x p) (e::es) [] pos) (fun σ H Q=>t σ H fun vs H1=>sp vs H1 Q (xk R σ)):=by
 intro pins' s σ H Q I h;refine wpAny_Call_Name_kw (dS I hg hm ?_ hdb);refine PySem.W.callWith_K (h₀:=X.base) I.ok.mod.kin hk (thn (ha pos pins' s σ H _ I h) fun us s1 ⟨vs,H1,I1,r,q⟩=>⟨I1.kIn,?_⟩) he hpl;exact lN F hr hb I1 r q
theorem we (he:PE (X.xw pins R) o ta) (c:Cls X.K C) (hm:Meth X.K C m f) (F:aG X.prog X.w X.K X.mg X.base (CXA X.prog X.w) k f fd ps sp) (hr:aE k X.A) (hb:Binds X.K fd ps []) (ha:PA (X.xw pins R) (e::es) t)
  (hst:(starEach (e::es) X.env=(false,eval e X.env)::starEach es X.env)⁻¹) (hpl:((backTo pos (starEach es X.env)).any (·.1)=false)⁻¹)
  (ht:(eval (.Call (.Attribute o m apos) (e::es) [] pos) X.env=(do
   let ov←eval o X.env
   standAt apos.atName
   let (f,first)←holding [ov] (getMethod ov m pl)
   callWith pos f first (backTo pos (starEach (e::es) X.env)) (backToKw pos (keywordEach [] X.env))))⁻¹):
  PE (X.xw pins R) (.Call (.Attribute o m apos) (e::es) [] pos) (fun σ H Q=>ta σ H fun x H1=>∃a dx fs,x=.ref a∧H1 a=some (.ins C dx fs)∧fs.lookup m=none∧t σ H1 fun vs H2=>sp (x::vs) H2 Q (xk R σ)):=by
 intro pins' s σ H Q I h;refine PySem.W.methodCall_KW (pl:=pl) (thn (he pins' s σ H _ I h) fun u s1 zz=>?_) ht;obtain ⟨x,H1,I1,rx,a,dx,fs,ex,ea,l,q⟩:=zz;subst ex;obtain rfl:u=Value.ref a:=rx;refine eK I1 ea c hm l ?_;refine PySem.W.callWith_K (first:=[.ref a]) (h₀:=X.base) I.ok.mod.kin hm.kp (thn (ha pos pins' s1 σ H1 _ I1 q) fun us s2 ⟨vs,H2,I2,r,q2⟩=>⟨I2.kIn,?_⟩) hst hpl;exact lN (us:=.ref a::us) (vs:=.ref a::vs) F hr hb I2 (.cons rfl r) q2
theorem uj (M:Mk X.K C f) (F:aG X.prog X.w X.K X.mg X.base (CXA X.prog X.w) k f fd ps sp) (hr:aE (k+1) X.A) (hb:Binds X.K fd ps []) (I:Inv (X.xw pins R) pins' σ H s) (r:Vals vs us)
  (h:∀x dx,H x=none->H dx=none->dx≠x->sp (.ref x::vs) (upd (upd H dx (.own x)) x (.ins C dx [])) (fun v H2=>v=.non∧Q (.ref x) H2) (xk R σ)):
  wpAny (model X.prog X.w) X.A (call (.ref C) us) (EP (X.xw pins R) pins' σ Q) (X.xw pins R).xe s:=by
 have hq:=h (s.heap.objs.size+1) s.heap.objs.size (I.hok.fresh (Nat.le_succ _)) (I.hok.fresh (Gd _)) (Gc (Nat.lt_succ_self _));have I2:=Inv.made (C:=C) I;have r2:Vals (V.ref (s.heap.objs.size+1)::vs) (Value.ref (s.heap.objs.size+1)::us):=.cons rfl r;have hl:((Value.ref (s.heap.objs.size+1)::us)++[]).length=ps.length:=by rw [List.append_nil,←r2.length];exact F.len _ _ _ _ hq
 refine wpAny_call (ou (f:=f) I.kIn M.makes M.init (beq_iff_eq.mp M.fn) (codeAny_mono (F.run _ X.stack _ _ ⟨Value.ref (s.heap.objs.size+1)::us,[]⟩ (Value.ref (s.heap.objs.size+1)::us) _ _ (xk R σ) (hr.make C us [])
  (I2.qI.make C us []) (by have:=hb _ (Value.ref (s.heap.objs.size+1)::us) I2.kIn hl;rw [List.append_nil] at this;exact this) r2 hq) fun r s' hq'=>?_))
 cases r with
 |error e=>exact jq I2 hq'
 |ok fl=>
  cases fl with
  |ret u=>
   obtain ⟨v,H',I3,rv,ev,q3⟩:=I2.after hq';subst ev;exact ⟨rv,⟨V.ref (s.heap.objs.size+1),H',I3,rfl,q3⟩⟩
  |next=>exact False.elim hq'
  |brk=>exact False.elim hq'
  |cont=>exact False.elim hq'
theorem wc (M:Mk X.K C f) (F:aG X.prog X.w X.K X.mg X.base (CXA X.prog X.w) k f fd ps sp) (hr:aE (k+1) X.A) (hg:Gl X x) (hm:X.mg x=some (.ref C)) (hb:Binds X.K fd ps [])
  (ha:PA (X.xw pins R) (e::es) t) (hdb: ~~~((x==("__debug__":Str))=false)) (he:(starEach (e::es) X.env=(false,eval e X.env)::starEach es X.env)⁻¹) (hpl:((backTo pos (starEach es X.env)).any (·.1)=false)⁻¹):
  PE (X.xw pins R) (.Call (.Name x p) (e::es) [] pos) (fun σ H Q=>t σ H fun vs H1=>∀x dx,H1 x=none->H1 dx=none->dx≠x->sp (.ref x::vs) (upd (upd H1 dx (.own x)) x (.ins C dx [])) (fun v H2=>v=.non∧Q (.ref x) H2) (xk R σ)):=by
 intro pins' s σ H Q I h;refine wpAny_Call_Name_kw (dS I hg hm ?_ hdb);refine PySem.W.callWith_K (h₀:=X.base) I.ok.mod.kin M.kp (thn (ha pos pins' s σ H _ I h) fun us s1 ⟨vs,H1,I1,r,q⟩=>⟨I1.kIn,?_⟩) he hpl;exact uj M F hr hb I1 r q
end
inductive Res where
 |ok (d:D)|xc (d:D)
noncomputable def spR (K:Frag) (P:List D->Res->Prop):Sp:=fun vs H Q E=>∃S ds r,Dom H S∧ag K H S ds vs∧P ds r∧(∀d,r=.ok d->∀v H',aI H H'->Rds K H' S d v->Q v H')∧∀d,r=.xc d->∀a H',aI H H'->H a=none->Rds K H' S d (.ref a)->E (.ref a) none H'
section
variable {P:Program} {w:World} {K:Frag} {mg:Str->Option Value} {base:Heap} {x qual:Str} {st:Stmt} {f:Addr} {fd:FuncData} {N ps:List Str} {k:Nat} {sp:Sp} {CX:CXT}
theorem aG.okD (F:aG P w K mg base (CXA P w) k f fd ps (spR K Pr)):aG P w K mg base CX0 k f fd ps (spD K fun ds d=>Pr ds (.ok d)):=by
 have key:∀vs H Q E,spD K (fun ds d=>Pr ds (.ok d)) vs H Q E->spR K Pr vs H Q E0:=fun vs H Q E ⟨S,ds,d,dm,r,p,kk⟩=>⟨S,ds,.ok d,dm,r,p,fun d' e=>by cases e;exact kk,fun d' e=>nomatch e⟩
 exact ⟨fun vs H Q E h=>F.len _ _ _ _ (key vs H Q E h),fun A outer s H args us vs Q E hr he hb hv hs=>codeAny_mono (F.run A outer s H args us vs Q E0 hr he hb hv (key _ _ _ _ hs)) fun r s' z=>by
  cases r with
  |error e=>obtain ⟨_,_,_,_,_,_,_,_,_,_,_,h⟩:=z;exact h
  |ok fl=>cases fl<;>exact z⟩
theorem _root_.L2.Fun.okC (F:Fun K x qual st f fd) (S:bP N ps (aj st)) (len:∀vs H Q E,sp vs H Q E->vs.length=ps.length)
  (hbody:∀(cdv:Value) (A:Around) (outer:List Env) (s:Shared) (H:Hp) (vs:List V) (Q:VK) (E:XK),aE k (A.deeper (envOfC qual (aj st) s.heap.objs.size f cdv))->sp vs H Q E->
   ∃t,PSs (b9 CX P w K mg base N qual (aj st) f cdv A outer s H E) (a7 st) t∧t {nx:=fun _ H'=>Q .non H',rt:=Q} (start N vs) H):aG P w K mg base CX (k+1) f fd ps sp:=by
 obtain ⟨oc,od,kV,doc,pm,an,cdv,ct,osl,rfl,lk,hcd⟩:=F.ex;exact xa lk hcd S len fun A outer s H vs Q E hr hsp=>hbody cdv A outer s H vs Q E hr hsp
theorem vO
  (I:Inv (b9 (CXA P w) P w K mg base N qual scope f cd A outer s H E) pins σ H' s') (ha:H' a=some (bg false a C dx)) (t:cg (b9 (CXA P w) P w K mg base N qual scope f cd A outer s H E) pins H' s'.heap a qx) (hE:E (.ref a) none H'):
  (b9 (CXA P w) P w K mg base N qual scope f cd A outer s H E).xe (.ref a) s':=by
 show wpAny _ _ (leaving _ _) _ _ _;unfold leaving;have eH:upd H' a (bg false a C dx)=H':=by
  funext b;unfold upd;split
  ·rename_i z;rw [z,ha]
  ·rfl
 refine At (lH I I.ok.frames rfl rfl ha t fun s1 I1 t1=>?_);rw [eH] at I1 t1;refine d_ I1 t1 fun s2 I2 t2=>?_;obtain ⟨oe,vs,h1,h2,q⟩:=t2;rcases q with ⟨_,x,hx,hn⟩|⟨T,oT,ts,fl,z1,z2,z3,z4,z5,z6,_⟩
 ·rw [hx] at hn;cases hn
 ·exact ⟨a,H',C,dx,rfl,I2.os,I2.bare,I2.base,I2.hok,ha,⟨oe,vs,T,oT,ts,fl,h1,h2,z1,z2.new,z2.free,z3,z4,z5,z6⟩,hE⟩
theorem qh (h:b7 (b9 (CXA P w) P w K mg base N qual scope f cd A outer s H E).nox ρ body ρ' d):
  PSs (b9 (CXA P w) P w K mg base N qual scope f cd A outer s H E) body fun _ σ H=>tSX K ρ ρ' d (fun _ a H'=>E (.ref a) none H') σ H:=by
 intro pins s1 σ H1 D I q;refine AT (h pins (fun _ a H'=>E (.ref a) none H') [] s1 σ H1 ⟨fun _ _=>False,fun _ _=>False,fun _ _=>False,fun _ _=>False⟩ ((I.fH _).xw) q) (fun fl s' z=>?_) fun e s' z=>?_
 ·cases fl with
  |next=>obtain ⟨_,_,_,z⟩:=z;exact z.elim
  |brk=>obtain ⟨_,_,_,z⟩:=z;exact z.elim
  |cont=>obtain ⟨_,_,_,z⟩:=z;exact z.elim
  |ret u=>obtain ⟨_,_,_,_,_,z⟩:=z;exact z.elim
 ·obtain ⟨σ',a,H',C,dx,rfl,I',ha,t,hR⟩:=z;refine vO (pins:=pins) (Inv.dH (E:=fun _ _=>False) I'.pxw) ha (t.re rfl rfl fun p hp=>?_) hR;exact Ev _ hp
theorem E6 (F:Fun K x qual st f fd) (S:bP N ps (aj st)) (len:∀ds r,Pr ds r->ds.length=ps.length)
  (hb:∀(cdv:Value) (A:Around) (outer:List Env) (s:Shared) (H:Hp) (E:XK) (ds:List D) (d:D),aE k (A.deeper (envOfC qual (aj st) s.heap.objs.size f cdv))->Pr ds (.ok d)->
   ∃o,ES o d∧DSs (b9 (CXA P w) P w K mg base N qual (aj st) f cdv A outer s H E).nox (aO N ds) (a7 st) o)
  (hx:∀(cdv:Value) (A:Around) (outer:List Env) (s:Shared) (H:Hp) (E:XK) (ds:List D) (d:D),aE k (A.deeper (envOfC qual (aj st) s.heap.objs.size f cdv))->Pr ds (.xc d)->
   ∃ρ',b7 (b9 (CXA P w) P w K mg base N qual (aj st) f cdv A outer s H E).nox (aO N ds) (a7 st) ρ' d):aG P w K mg base (CXA P w) (k+1) f fd ps (spR K Pr):=by
 refine F.okC S (fun vs H Q E ⟨S,ds,d,dm,r,p,kk⟩=>by rw [←r.length];exact len ds d p) fun cdv A outer s H vs Q E hr ⟨S',ds,r,dm,rs,p,k1,k2⟩=>?_;cases r with
 |ok d=>
  obtain ⟨o,ov,h⟩:=hb cdv A outer s H E ds d hr p;refine ⟨_,PSs.nox h,H,S',S',jY dm rs,?_⟩;cases o with
  |rt d'=>cases ov;exact k1 _ rfl
  |nx ρ'=>cases ov;exact fun σ' H' S'' f=>k1 _ rfl .non H' f.ext .non
  |rfx c=>cases ov;exact fun a vs H' ex hn ha r'=>k1 _ rfl _ H' ex ((r'.av fun b h=>.inl (.inl h)).rds ha (dm.not hn))
 |xc d=>
  obtain ⟨ρ',h⟩:=hx cdv A outer s H E ds d hr p;exact ⟨_,qh h,H,S',S',jY dm rs,fun σ' a H' S'' f hn r=>k2 d rfl a H' f.ext hn (f.out r)⟩
end
set_option autoImplicit true
set_option relaxedAutoImplicit true
section
variable {X:Cx} {ρ:Rho} {k:Nat} {f C:Addr} {fd:FuncData} {ps:List Str} {x m:Str} {p pos apos:Pos} {e o:Expr} {es:List Expr} {ds:List D} {d:D}
theorem vg (F:aG X.prog X.w X.K X.mg X.base (CXA X.prog X.w) k f fd ps (spR X.K Pr)) (hr:aE k X.A) (hg:Gl X x) (hm:X.mg x=some (.ref f)) (hk:PySem.W.keepIn X.K (.ref f)=true) (hb:Binds X.K fd ps [])
  (ha:DA X ρ (e::es) ds) (hp:Pr ds (.xc d)) (hx:∀e s,¬X.xe e s:=by intro _ _ z;exact z) (hdb:(x==("__debug__":Str))=false:=by decide) (he:starEach (e::es) X.env=(false,eval e X.env)::starEach es X.env:=by rfl) (hpl:(backTo pos (starEach es X.env)).any (·.1)=false:=by rfl):
  DEX X ρ (.Call (.Name x p) (e::es) [] pos) d:=fun pins R=>PE.weak (wa F hr hg hm hk hb (PA.xw ha hx) hdb he hpl) fun σ H Q ⟨S,ve,kk⟩=>⟨S,ve,fun vs H' ex r=>
   ⟨S,ds,.xc d,(ve.ext ex).dom,r,hp,(fun d' e=>nomatch e),fun d' e a H'' ex' hn r'=>⟨a,rfl,by cases e;exact kk a H'' (ex.trans ex') (ex.back hn) r'⟩⟩⟩
theorem vi (ho:DE X ρ o (.ins C fs)) (hl:fs.lookup m=none) (c:Cls X.K C) (hm:Meth X.K C m f) (F:aG X.prog X.w X.K X.mg X.base (CXA X.prog X.w) k f fd ps (spR X.K Pr)) (hr:aE k X.A) (hb:Binds X.K fd ps [])
  (ha:DA X ρ (e::es) ds) (hp:Pr (.ins C fs::ds) (.xc d)) (hx:∀e s,¬X.xe e s:=by intro _ _ z;exact z) (hst:starEach (e::es) X.env=(false,eval e X.env)::starEach es X.env:=by rfl) (hpl:(backTo pos (starEach es X.env)).any (·.1)=false:=by rfl)
  (ht:(eval (.Call (.Attribute o m apos) (e::es) [] pos) X.env=(do
   let ov←eval o X.env
   standAt apos.atName
   let (f,first)←holding [ov] (getMethod ov m pl)
   callWith pos f first (backTo pos (starEach (e::es) X.env)) (backToKw pos (keywordEach [] X.env))))⁻¹):
  DEX X ρ (.Call (.Attribute o m apos) (e::es) [] pos) d:=fun pins R=>PE.weak (we (PE.xw ho hx) c hm F hr hb (PA.xw ha hx) hst hpl ht) fun σ H Q ⟨S,ve,kk⟩=>⟨S,ve,fun v H1 ex1 r1=>by
   obtain ⟨a,dx,gs,rfl,hh,rf⟩:=r1.iF;exact ⟨a,dx,gs,rfl,hh,rf.none hl,S,ve.ext ex1,fun vs H' ex r=>⟨S,_,.xc d,((ve.ext ex1).ext ex).dom,.cons (r1.ext (ex.to S)) r,hp,(fun d' e=>nomatch e),fun d' e a H'' ex' hn r'=>⟨a,rfl,by
    cases e;exact kk a H'' (ex1.trans (ex.trans ex')) (ex1.back (ex.back hn)) r'⟩⟩⟩⟩
end
inductive As where
 |ok (fs:List (Str×D))|xc (d:D)
noncomputable def lP (K:Frag) (C:Addr) (P:List D->As->Prop):Sp:=fun vs H Q E=>∃S x dx us ds r,vs=.ref x::us∧H x=some (.ins C dx [])∧Dom H S∧S x∧ag K H S ds us∧P ds r∧
 (∀fs,r=.ok fs->∀H' gs,(∀a o,a≠x->H a=some o->H' a=some o)->H' x=some (.ins C dx gs)->aP K H' S fs gs->Q .non H')∧
 ∀d,r=.xc d->∀a H',(∀b o,b≠x->H b=some o->H' b=some o)->(a≠x->H a=none)->Rds K H' (fun b=>S b∧b≠x) d (.ref a)->E (.ref a) none H'
section
variable {P:Program} {w:World} {K:Frag} {mg:Str->Option Value} {base:Heap} {x qual:Str} {st:Stmt} {f C:Addr} {fd:FuncData} {N ps:List Str} {k:Nat}
theorem aG.okI (F:aG P w K mg base (CXA P w) k f fd ps (lP K C Pr)):aG P w K mg base CX0 k f fd ps (spI K C fun ds fs=>Pr ds (.ok fs)):=by
 have key:∀vs H Q E,spI K C (fun ds fs=>Pr ds (.ok fs)) vs H Q E->lP K C Pr vs H Q E0:=fun vs H Q E ⟨S,x,dx,us,ds,fs,e,hx,dm,sx,r,p,kk⟩=>⟨S,x,dx,us,ds,.ok fs,e,hx,dm,sx,r,p,fun d' e=>by cases e;exact kk,fun d' e=>nomatch e⟩
 exact ⟨fun vs H Q E h=>F.len _ _ _ _ (key vs H Q E h),fun A outer s H args us vs Q E hr he hb hv hs=>codeAny_mono (F.run A outer s H args us vs Q E0 hr he hb hv (key _ _ _ _ hs)) fun r s' z=>by
  cases r with
  |error e=>obtain ⟨_,_,_,_,_,_,_,_,_,_,_,h⟩:=z;exact h
  |ok fl=>cases fl<;>exact z⟩
theorem ur (hz:H z=some (.ins C dx [])) (dm:Dom H S') (sz:S' z) (r:ag K H S' ds us):
  Fm K (fun a=>if a=z then none else H a) (fun a=>S' a∧a≠z) H S' (.new C z dx []::(aO N (.non::ds)).tail) (start N (.ref z::us)):=by
 have ve:=oY (N:=N) dm (.cons (.non:Rds K H S' .non .non) r);have e1:aO N (.non::ds)=.val .non::(aO N (.non::ds)).tail:=rfl;have e2:start N (.non::us)=some .non::(start N (.non::us)).tail:=rfl;have e3:start N (.ref z::us)=some (.ref z)::(start N (.non::us)).tail:=rfl;have nown:∀(i:Nat) (x:Sl),(aO N (.non::ds))[i]?=some x->¬x.dU:=fun i x h o=>by
  have hm:=List.mem_of_getElem? h;unfold aO at hm;rcases Fk.mp hm with hm|hm
  ·obtain ⟨y,_,e⟩:=FB.mp hm;rw [←e] at o;exact o
  ·rw [(List.mem_replicate.mp hm).2] at o;exact o
 have nt:∀(i:Nat) (x:Sl),(aO N (.non::ds)).tail[i]?=some x->¬x.dU:=fun i x h=>nown (i+1) x (by rw [e1];exact h);refine ⟨⟨?_,fun i x h=>?_,fun i j x y a hij h1 h2 o1 o2 _=>?_,dm⟩,fun a o _ h=>?_,fun a h=>h.1,fun a h=>?_,fun a h=>?_,fun i x a h o h2=>?_⟩
 ·have:=ve.len;rw [e3,List.length_cons,List.length_cons];rw [e1,e2,List.length_cons,List.length_cons] at this;exact this
 ·rw [e3];cases i with
  |zero=>cases h;exact ⟨_,rfl,[],rfl,sz,hz,.nil⟩
  |succ i=>
   obtain ⟨v,q1,q2⟩:=ve.rel (i+1) x (by rw [e1];exact h);rw [e2] at q1;exact ⟨v,q1,q2⟩
 ·cases i with
  |zero=>cases j with
   |zero=>exact absurd rfl hij
   |succ j=>exact absurd o2 (nt j y h2)
  |succ i=>exact absurd o1 (nt i x h1)
 ·by_cases ha:a=z
  ·rw [if_pos ha] at h;cases h
  ·rw [if_neg ha] at h;exact h
 ·by_cases ha:a=z
  ·exact .inr (if_pos ha)
  ·exact .inl ⟨h,ha⟩
 ·show (if a=z then none else H a)≠none;rw [if_neg h.2];exact dm a h.1
 ·cases i with
  |zero=>
   rw [e3] at h2;cases h2;exact if_pos rfl
  |succ i=>exact absurd o (nt i x h)
theorem D0 (F:Fun K x qual st f fd) (S:bP N ps (aj st)) (len:∀ds r,Pr ds r->ds.length+1=ps.length)
  (hb:∀(cdv:Value) (A:Around) (outer:List Env) (s:Shared) (H:Hp) (E:XK) (ds:List D) (fs:List (Str×D)) (z dx:Addr),aE k (A.deeper (envOfC qual (aj st) s.heap.objs.size f cdv))->Pr ds (.ok fs)->
   ∃ρ',ρ'[0]?=some (.new C z dx fs)∧DSs (b9 (CXA P w) P w K mg base N qual (aj st) f cdv A outer s H E).nox (.new C z dx []::(aO N (.non::ds)).tail) (a7 st) (.nx ρ'))
  (hx:∀(cdv:Value) (A:Around) (outer:List Env) (s:Shared) (H:Hp) (E:XK) (ds:List D) (d:D) (z dx:Addr),aE k (A.deeper (envOfC qual (aj st) s.heap.objs.size f cdv))->Pr ds (.xc d)->
   ∃ρ',b7 (b9 (CXA P w) P w K mg base N qual (aj st) f cdv A outer s H E).nox (.new C z dx []::(aO N (.non::ds)).tail) (a7 st) ρ' d):aG P w K mg base (CXA P w) (k+1) f fd ps (lP K C Pr):=by
 refine F.okC S ?_ ?_
 ·rintro vs H Q E ⟨S,z,dx,us,ds,fs,rfl,hz,dm,sz,r,p,kk⟩;rw [List.length_cons,←r.length];exact len ds fs p
 ·rintro cdv A outer s H vs Q E hr ⟨S',z,dx,us,ds,res,rfl,hz,dm,sz,r,p,k1,k2⟩;have fm:=ur (C:=C) (N:=N) hz dm sz r;cases res with
  |ok fs=>
   obtain ⟨ρ',h0,h⟩:=hb cdv A outer s H E ds fs z dx hr p;refine ⟨_,PSs.nox h,_,_,S',fm,fun σ' H' S'' f=>?_⟩;obtain ⟨v,_,gs,_,sz',hz',rf⟩:=f.ve.rel 0 _ h0;refine k1 fs rfl H' gs (fun a o ha h=>f.ext a o (fun z=>z) (by rw [if_neg ha];exact h)) hz' (rf.av fun a h=>?_)
   by_cases ha:a=z
   ·subst ha;exact .inl sz'
   ·exact .inl (f.sub a ⟨h,ha⟩)
  |xc d=>
   obtain ⟨ρ',h⟩:=hx cdv A outer s H E ds d z dx hr p;refine ⟨_,qh h,_,_,S',fm,fun σ' a H' S'' f hn r=>k2 d rfl a H' (fun b o hb h=>f.ext b o (fun z=>z) (by rw [if_neg hb];exact h)) (fun hne=>by rw [if_neg hne] at hn;exact hn) (f.out r)⟩
end
section
variable {X:Cx} {ρ:Rho} {k:Nat} {f C:Addr} {fd:FuncData} {ps:List Str} {x m:Str} {p pos apos:Pos} {e o:Expr} {es:List Expr} {ds:List D} {d:D}
theorem vh (M:Mk X.K C f) (F:aG X.prog X.w X.K X.mg X.base (CXA X.prog X.w) k f fd ps (lP X.K C Pr)) (hr:aE (k+1) X.A) (hg:Gl X x) (hm:X.mg x=some (.ref C)) (hb:Binds X.K fd ps [])
  (ha:DA X ρ (e::es) ds) (hp:Pr ds (.xc d)) (hx:∀e s,¬X.xe e s:=by intro _ _ z;exact z) (hdb:(x==("__debug__":Str))=false:=by decide) (he:starEach (e::es) X.env=(false,eval e X.env)::starEach es X.env:=by rfl) (hpl:(backTo pos (starEach es X.env)).any (·.1)=false:=by rfl):
  DEX X ρ (.Call (.Name x p) (e::es) [] pos) d:=fun pins R=>PE.weak (wc M F hr hg hm hb (PA.xw ha hx) hdb he hpl) fun σ H Q ⟨S,ve,kk⟩=>⟨S,ve,fun vs H1 ex r z dx hz hdx hne=>by
   have e1:aI H1 (upd H1 dx (.own z)):=Ext.new hdx;have hz1:upd H1 dx (.own z) z=none:=by rw [ah (Ne.symm hne)];exact hz
   have e2:aI H1 (upd (upd H1 dx (.own z)) z (.ins C dx [])):=e1.trans (Ext.new hz1);have dm:=(ve.ext ex).dom;refine ⟨S.and z,z,dx,vs,ds,.xc d,rfl,aD,fun a h=>?_,.inr rfl,(r.av (S':=S.and z) fun b h=>h.imp_right fun q=>by rw [q];exact hz).ext (e2.to _),hp,(fun _ e=>nomatch e),fun d' e a H' hk hn rd=>⟨a,rfl,?_⟩⟩
   ·rcases h with h|h
    ·exact dm.ext e2 a h
    ·rw [h,aD];intro q;cases q
   ·cases e;have ez:a=z∨H1 a=none:=by
     by_cases haz:a=z
     ·exact .inl haz
     ·refine .inr ?_;have:=hn haz;rw [ah haz] at this;exact e1.back this
    have hH:H1 a=none:=by
     rcases ez with h|h
     ·rw [h];exact hz
     ·exact h
    refine kk a H' (ex.trans fun b o n h=>hk b o (aC h hz) (e2 b o n h)) (ex.back hH) (rd.av fun b h=>.inl ⟨.inl h,fun q=>?_⟩);subst q;exact dm b h hz⟩
end
set_option autoImplicit true
set_option relaxedAutoImplicit true
section
variable {K:Frag} {C CE:Addr} {h:Heap} {M:Model}
theorem mM (X:K.In h) (hc:clsIn K C=some cd):Looks M h (isType (.ref C)) true:=by
 unfold clsIn at hc;split at hc
 ·rename_i ho;intro A' Q' E' s' k q;unfold isType loadHead;exact At (wpAny_loadPart (k _ _ (X _ _ ho)) (AC q))
 ·cases hc
theorem mN (ho:h.get? a=some ⟨c,dd,.fields vs,sl⟩):Looks M h (isType (.ref a)) false:=by
 intro A' Q' E' s' k q;unfold isType loadHead;exact At (wpAny_loadPart (k _ _ ho) (AC q))
end
section
variable {X:Cx} {pins pins':List (Addr×Obj)} {R:St->Addr->Hp->Prop} {e:Expr} {t:TE} {pos:Pos}
theorem wq (he:PE (X.xw pins R) e t) (hh:X.A.handled=none):PS (X.xw pins R) (.Raise (some e) none pos) (fun D σ H=>t σ H fun x H1=>∃a C dx,x=.ref a∧H1 a=some (bg true a C dx)∧eC X.K C∧typeIn X.K (.ref C)=some (.type "type")∧R σ a (upd H1 a (bg false a C dx))):=by
 intro pins' s σ H D I h;rw [arm_exec_Raise];refine At (wpAny_standAt ?_);show wpAny _ _ (raiseStmt _ (some (do let v←eval e X.env;standAt pos;pure v)) none) _ _ _;unfold raiseStmt;refine At (At (thn (he pins' s σ H _ I h) fun xv s1 ⟨x,H1,I1,rx,a,C,dx,ex,ha,c,ty,hR⟩=>At (wpAny_standAt (AC ?_))));subst ex;obtain rfl:xv=Value.ref a:=rx;obtain ⟨vs,ho,hz,hf⟩:=fe (I1.hok a _ ha);have h1:vs[1]?=some .none:=hf rfl;have T0:Looks (model X.prog X.w) s1.heap (isType (.ref a)) false:=mN ho;have T1:Looks (model X.prog X.w) s1.heap (typeOf (.ref a)) (.ref C):=(Looks.ld ho).andThen .now;have T2:Looks (model X.prog X.w) s1.heap (isSubtype (.ref C) (.type "BaseException")) true:=looks_mroIn I1.kIn (c.mro (by decide));have T3:Looks (model X.prog X.w) s1.heap (typeOf (.ref C)) (.type "type"):=looks_typeIn I1.kIn ty;refine At (AC (At (Db ?_)));unfold excFromValue isExcClass;refine At (At (T0.here (AC ?_)));rw [if_neg (by decide)];unfold isInstance;refine At (At (T1.here (T2.here ?_)));rw [if_pos rfl];refine AC (At (T0.here ?_));rw [if_neg (by decide)];unfold raisedInstance;refine At (At (T1.here (At (T3.here ?_))));rw [if_pos (show (Value.type "type"==Value.type "type")=true from by simp)];refine AC ?_;have tr:cg (X.xw pins R) pins' H1 s1.heap a (fun _=>True):=⟨_,vs,ho,rfl,.inl ⟨h1,trivial⟩⟩
 refine At (d_ I1 tr fun s2 I2 t2=>?_);refine wpAny_raiseNew_none hh ?_;obtain ⟨vs2,ho2,hz2,hf2⟩:=fe (I2.hok a _ ha);have I3:=I2.excAt (fr':=false) (t':=s2.toks) (h':=s2.heap) ha (fun b o _ q=>q) ho2 hz2 (fun z=>nomatch z);refine ⟨σ,a,_,C,dx,rfl,I3.xwp,aD,⟨_,vs2,ho2,rfl,.inl ⟨hf2 rfl,trivial⟩⟩,hR⟩
end
section
variable {X:Cx} {ρ:Rho} {k:Nat} {f C:Addr} {fd:FuncData} {ps:List Str} {x:Str} {p pos cpos:Pos} {e:Expr} {es:List Expr} {ds:List D}
theorem qG (hm:PySem.W.excIn X.K C bmV "ValueError.__new__"=true) (hk:PySem.W.keepIn X.K (.ref C)=true) (hg:Gl X x) (hx:X.mg x=some (.ref C)) (hc:eC X.K C) (ty:typeIn X.K (.ref C)=some (.type "type")) (hh:X.A.handled=none)
  (hdb: ~~~((x==("__debug__":Str))=false)):DSX X ρ (.Raise (some (.Call (.Name x p) [] [] cpos)) none pos) ρ (.exc C []):=fun pins R=>
 PS.weak (wq (En (X:=X.xw pins R) hm hk hg hx hdb) hh) fun E σ H ⟨H₀,S₀,S,f,kk⟩ a ha=>⟨a,C,none,rfl,aD,hc,ty,by
  rw [Al];exact kk σ a _ S (f.grow (Ext.new ha)) (f.ext.back ha) (.jJ aD (f.ve.dom.not ha))⟩
end
noncomputable abbrev _root_.L2.Cx.inH (X:Cx) (a:Addr):Cx:={X with A:=X.A.mark (some (.ref a)),calm:=false}
theorem _root_.L2.Inv.inH (I:Inv X pins σ H s):Inv (X.inH a) pins σ H s:=
 ⟨⟨I.ok.mod,I.ok.kind,I.ok.glob,I.ok.blt,I.ok.above,I.ok.inj,I.ok.has,I.ok.cab,(fun z=>nomatch z),I.ok.frames,I.ok.stk,I.ok.exf,I.ok.bs,I.ok.bsz,I.ok.gY,I.ok.jK,I.ok.c7,I.ok.frf⟩,I.os,I.bare,I.base,I.loc,I.cell,I.free,I.bX,I.pin,I.hok,I.len⟩
theorem _root_.L2.Inv.unH (ok:X.Ok) (I:Inv (X.inH a) pins σ H s):Inv X pins σ H s:=⟨ok,I.os,I.bare,I.base,I.loc,I.cell,I.free,I.bX,I.pin,I.hok,I.len⟩
section
variable {X:Cx} {pins:List (Addr×Obj)} {σ:St} {H:Hp} {s:Shared} {a C CE:Addr} {dx:Option Addr} {A:Around} {E:Value->Shared->Prop}
structure nj (K:Frag) (CE:Addr):Prop where
 cl:∃cd,clsIn K CE=some cd
 ty:typeIn K (.ref CE)=some (.type "type")
 be:mroIn K CE (.type "BaseException")=some true
theorem rh (I:Inv X pins σ H s) (ha:H a=some (bg fr a C dx)) (c:nj X.K CE) (hm:mroIn X.K C (.ref CE)=some b) (h:Q b s):wpAny (model X.prog X.w) A (excMatches (.ref a) (.ref CE)) Q E s:=by
 obtain ⟨vs,ho,hz,hf⟩:=fe (I.hok a _ ha);obtain ⟨cd,hcd⟩:=c.cl;have T1:Looks (model X.prog X.w) s.heap (typeOf (.ref a)) (.ref C):=(Looks.ld ho).andThen .now;have T2:Looks (model X.prog X.w) s.heap (isSubtype (.ref CE) (.type "BaseException")) true:=looks_mroIn I.kIn c.be;have T3:Looks (model X.prog X.w) s.heap (typeOf (.ref CE)) (.type "type"):=looks_typeIn I.kIn c.ty;have T4:Looks (model X.prog X.w) s.heap (isType (.ref CE)) true:=mM I.kIn hcd;have T5:Looks (model X.prog X.w) s.heap (isSubtype (.ref C) (.ref CE)) b:=looks_mroIn I.kIn hm;have T6:Looks (model X.prog X.w) s.heap (isSubtype (.type "type") (.type "tuple")) false:=by rw [tc_notTuple];exact .now
 obtain ⟨hp,g,d,tk,os⟩:=s;unfold excMatches isInstance isExcClass;cases b with
 |true=>repeat (first|exact h|lk)
 |false=>repeat (first|exact h|lk)
theorem _root_.L2.Inv.unset {t':Nat} (I:Inv X pins σ H s) (hN:X.N.Nodup) (hi:X.N[i]?=some n) (hs:Heap.SameBut X.env.locals s.heap h') (hn:∀m,s.heap.Ns X.env.locals m->∃v,h'.Ns X.env.locals (fun x=>if x=n then v else m x)):
  Inv X pins (σ.set i none) H {s with heap:=h',toks:=t'}:=by
 obtain ⟨m,hm,hl⟩:=id I.loc;obtain ⟨v,hn'⟩:=hn m hm;obtain ⟨oL,_,_,hoL,_⟩:=id hm;have hiσ:i<σ.length:=by rw [I.len];exact (FS.mp hi).1
 have cne:=I.cne;refine ⟨I.ok,I.os,I.bare,⟨fun b o e n hb hx=>?_,fun b o e n hb hx=>?_,I.base.free,fun b o e hx=>?_,I.base.fZ,I.base.fj,I.base.fY⟩,⟨_,hn',fun j y v' e1 e2 e3=>?_⟩,fun y c e=>?_,I.free,I.bX,fun p hp=>?_,fun b ob e=>?_,by simpa using I.len⟩
 ·exact (hs.2 b (Gc (F9 (Cl e) I.ok.above))).trans (I.base.keep b o e n hb hx)
 ·obtain ⟨sl,e1⟩:=I.base.slot b o e n hb hx;exact ⟨sl,(hs.2 b (Gc (F9 (Cl e) I.ok.above))).trans e1⟩
 ·obtain ⟨o',e1⟩:=I.base.there b o e hx;exact ⟨o',(hs.2 b (Gc (F9 (Cl e) I.ok.above))).trans e1⟩
 ·by_cases hj:j=i
  ·subst hj;rw [F3 hiσ] at e2;cases e2
  ·rw [F4 (Ne.symm hj)] at e2;obtain ⟨u',r',q⟩:=hl j y v' e1 e2 e3;refine ⟨u',r',?_⟩;rcases q with ⟨k,e⟩|⟨k,c,e,z⟩
   ·refine .inl ⟨k,?_⟩;have:y≠n:=fun e=>hj (jU hN e1 (e▸hi));simp [this,e]
   ·exact .inr ⟨k,c,e,z.sameBut hs (cne y c e)⟩
 ·obtain ⟨w',z⟩:=I.cell y c e;exact ⟨w',z.sameBut hs (cne y c e)⟩
 ·obtain ⟨e,n,ne,nf,d⟩:=I.pin p hp;exact ⟨(hs.2 p.1 ne).trans e,n,ne,nf,d⟩
 ·refine (I.hok b ob e).fE (fun c w' hc q=>(hs.2 c ?_).trans q) (fun _ q=>q) fun _ _ q=>q;rintro rfl;rcases hc with rfl|hc
  ·rw [I.free] at e;cases e
  ·rw [I.free] at hc;cases hc
theorem name_goes (I:Inv X pins σ H s) (hN:X.N.Nodup) (hi:X.N[i]?=some n) (hl:X.env.scope.names.lookup n=some .local) (h:∀s',Inv X pins (σ.set i none) H s'->Q () s'):
  wpAny M A (do bindName X.env n .none;unbindBehindTheSuite X.env n pos) Q E s:=by
 have hcls:(X.env.scope.kind==.class||(X.env.scope.kind==.module&&X.env.locals !=X.env.globals))=false:=by rw [I.ok.kind];rfl
 have hk:X.env.kindOf n=some .local:=hl;refine At (wpAny_bindName (d3 I hN hi (.inl hl) (v:=.non) rfl (fun s1 I1=>?_) (.inr hl)));unfold unbindBehindTheSuite;refine wpAny_onRaise ?_;unfold unbindName;refine At (wpAny_point (At ?_));unfold deleteName;simp only [hk,hcls];rw [if_neg (by decide)];obtain ⟨m,hm,hlk⟩:=id I1.loc;have hiσ:i<σ.length:=by rw [I.len];exact (FS.mp hi).1
 obtain ⟨u,ru,q⟩:=hlk i n .non hi (F3 hiσ) (.inl hl);have hmn:(m n).isSome=true:=by
  rcases q with ⟨_,e⟩|⟨z,_⟩
  ·rw [e];rfl
  ·rw [hk] at z;rcases z with z|z<;>cases z
 refine At (wpAny_nsDel_keeps hm fun h₂ v hn₂ hs₂=>?_);rw [hmn];simp only [Bool.not_true,Bool.false_eq_true,if_false];refine AC (wpAny_point (h _ ?_));have:=Inv.unset (t':=s1.toks) I1 hN hi hs₂ fun m' hm'=>⟨v,by rw [Heap.Ns.eq_nsMap hm',←Heap.Ns.eq_nsMap hm];exact hn₂⟩
 rw [List.set_set] at this;exact this
end
noncomputable def Out.unset (i:Nat):Out->Out
 |.nx ρ=>.nx (ρ.set i .nil)
 |o=>o
section
variable {X:Cx} {ρ ρ1 ρ2:Rho} {body suite:List Stmt} {b₀:Stmt} {C CE:Addr} {fs:List (Str×D)} {c n:Str} {i:Nat} {cp hp pos:Pos} {o:Out} {hs:List ExceptHandler} {hd:ExceptHandler}
theorem jI (h:DSs X ρ body o) (hx:∀e s,¬X.xe e s:=by intro _ _ z;exact z):DS X ρ (.Try body (hd::hs) [] [] pos) o:=fun pins s σ H D I q=>by
 refine wpAny_Try_except (AT (h pins s σ H D I q) (fun f s' z=>?_) fun e s' z=>absurd z (hx e s'));cases f with
 |next=>exact wpAny_execs_nil z
 |brk=>exact z
 |cont=>exact z
 |ret u=>exact z
theorem jr {H:Hp} {a:Addr} {o:HO} (h:H a=some o):upd H a o=H:=by
 funext b;unfold upd;split
 ·rename_i z;rw [z,h]
 ·rfl
theorem Fm.unset {K:Frag} {H₀ H:Hp} {S₀ S:Ad} {ρ:Rho} {σ:St} {i:Nat} (f:Fm K H₀ S₀ H S ρ σ):Fm K H₀ S₀ H S (ρ.set i .nil) (σ.set i none):=by
 have key:∀(j:Nat) (x:Sl),(ρ.set i .nil)[j]?=some x->(i=j∧x=.nil)∨(i≠j∧ρ[j]?=some x):=fun j x h=>by
  by_cases hj:i=j
  ·subst hj;have hi:=(FS.mp h).1;rw [F3 (by simpa using hi)] at h;cases h;exact .inl ⟨rfl,rfl⟩
  ·rw [F4 hj] at h;exact .inr ⟨hj,h⟩
 refine ⟨⟨by simpa using f.ve.len,fun j x h=>?_,fun j k x y a hjk h1 h2 o1 o2 h3=>?_,f.ve.dom⟩,f.ext,f.sub,f.new,f.dm,fun j x a h o h2=>?_⟩
 ·rcases key j x h with ⟨rfl,rfl⟩|⟨hj,h'⟩
  ·have hi:i<ρ.length:=by have:=(FS.mp h).1;simpa using this
   exact ⟨none,F3 (f.ve.len▸hi),rfl⟩
  ·rw [F4 hj];exact f.ve.rel j x h'
 ·rcases key j x h1 with ⟨rfl,rfl⟩|⟨hj,h1'⟩
  ·exact o1.elim
  ·rcases key k y h2 with ⟨rfl,rfl⟩|⟨hk,h2'⟩
   ·exact o2.elim
   ·rw [F4 hj] at h3;rw [F4 hk];exact f.ve.dist j k x y a hjk h1' h2' o1 o2 h3
 ·rcases key j x h with ⟨rfl,rfl⟩|⟨hj,h'⟩
  ·exact o.elim
  ·rw [F4 hj] at h2;exact f.own j x a h' o h2
theorem vt (hst:X.stack=X.env::X.outer) (hfr:X.env.frame=some X.env.locals) (hb:b7 X ρ body ρ1 (.exc C fs)) (hg:Gl X c) (hm:X.mg c=some (.ref CE)) (ct:nj X.K CE) (hmr:mroIn X.K C (.ref CE)=some true)
  (hN:X.N.Nodup) (hi:X.N[i]?=some n) (hl:X.env.scope.names.lookup n=some .local) (hs:∀a,DSs (X.inH a) (ρ1.set i (.val (.exc C fs))) (b₀::suite) o) (hx:∀e s,¬X.xe e s:=by intro _ _ z;exact z) (hdb:(c==("__debug__":Str))=false:=by decide):
  DS X ρ (.Try body [.ExceptHandler (some (.Name c cp)) (some n) (b₀::suite) hp] [] [] pos) (o.unset i):=by
 intro pins s σ H D I ⟨H₀,S₀,S,f,kk⟩;refine wpAny_Try_except (AT (hb pins (fun σ' a H'=>∃S',Fm X.K H₀ S₀ H' S' ρ1 σ'∧Rds X.K H' S' (.exc C fs) (.ref a)) [] s σ H ⟨fun _ _=>False,fun _ _=>False,fun _ _=>False,fun _ _=>False⟩ I.xw ⟨H₀,S₀,S,f,fun σ' a H' S' f' hn r=>⟨S',f',r⟩⟩)
  (fun fl s' z=>?_) fun e s' z=>?_)
 ·cases fl with
  |next=>obtain ⟨_,_,_,z⟩:=z;exact z.elim
  |brk=>obtain ⟨_,_,_,z⟩:=z;exact z.elim
  |cont=>obtain ⟨_,_,_,z⟩:=z;exact z.elim
  |ret u=>obtain ⟨_,_,_,_,_,z⟩:=z;exact z.elim
 ·obtain ⟨σ',a,H',C',dx,rfl,I',ha,tr,S',f',r⟩:=z;have J:Inv X pins σ' H' s':=I'.pxw;have eH:=jr ha;obtain ⟨fr,dx',hr⟩:∃fr dx',H' a=some (bg fr a C dx'):=by
   cases r with
   |jJ h _=>exact ⟨_,_,h⟩
   |exc h _ _ _ _=>exact ⟨_,_,h⟩
  refine lH J J.ok.frames hst hfr ha (tr.re rfl rfl fun p hp=>by simpa using hp) fun s1 I1 t1=>?_;rw [eH] at I1 t1;refine d_ I1 t1 fun s2 I2 t2=>?_;refine wpAny_handleBy_cons (codeAny_handlers_test (dS (X:=X.inH a) I2.inH hg hm (rh I2 hr ct hmr ?_) hdb)) (by intro q;cases q);refine codeAny_handlers_suite_as (d_ I2 t2 fun s3 I3 t3=>?_);refine d3 I3 hN hi (.inl hl) (v:=.ref a) rfl (fun s4 I4=>?_) (.inr hl);have kk':nh X.K H₀ S₀ ⟨fun σ H=>D.nx (σ.set i none) H,D.rt,fun σ H=>D.bk (σ.set i none) H,fun σ H=>D.ct (σ.set i none) H⟩ o:=by
   cases o with
   |nx ρ2=>exact fun σ5 H5 S5 f5=>kk _ H5 S5 f5.unset
   |rt d=>exact kk
   |rfx xs=>exact kk
  refine AT (hs a pins s4 _ H' ⟨fun σ H=>D.nx (σ.set i none) H,D.rt,fun σ H=>D.bk (σ.set i none) H,fun σ H=>D.ct (σ.set i none) H⟩ I4.inH ⟨H₀,S₀,S',f'.set r,kk'⟩) (fun fl s5 z=>?_) fun e s5 z=>absurd z (hx e s5);cases fl with
  |next=>
   obtain ⟨σ5,H5,I5,q⟩:=z;exact name_goes (I5.unH J.ok) hN hi hl fun s6 I6=>⟨_,H5,I6,q⟩
  |brk=>
   obtain ⟨σ5,H5,I5,q⟩:=z;exact name_goes (I5.unH J.ok) hN hi hl fun s6 I6=>⟨_,H5,I6,q⟩
  |cont=>
   obtain ⟨σ5,H5,I5,q⟩:=z;exact name_goes (I5.unH J.ok) hN hi hl fun s6 I6=>⟨_,H5,I6,q⟩
  |ret u=>
   obtain ⟨v,σ5,H5,I5,rv,q⟩:=z;exact name_goes (I5.unH J.ok) hN hi hl fun s6 I6=>⟨v,_,H5,I6,rv,q⟩
end
set_option autoImplicit true
set_option relaxedAutoImplicit true
section
variable {X:Cx} {pins:List (Addr×Obj)} {R:St->Addr->Hp->Prop}
theorem tQ (hst:X.stack=X.env::X.outer) (hfr:X.env.frame=some X.env.locals):PassesOwn (model X.prog X.w) X.A X.env (X.xw pins R).xe:=by
 rintro e s' ⟨σ,a,H,C,dx,rfl,I,ha,t,hR⟩;have eH:=jr ha;show wpAny _ _ (noteFrame (.ref a) X.env) _ _ _;refine lH (X:=X.pnd pins) I I.ok.frames hst hfr ha t fun s1 I1 t1=>?_;rw [eH] at I1 t1;unfold cameBackBy;obtain ⟨oe,vs,h1,h2,q⟩:=id t1;rcases q with ⟨_,z⟩|⟨T,oT,ts,fl,z1,_⟩
 ·cases z
 refine At (Da h1 h2 z1 ?_);rw [if_neg (by simp)];refine d_ (X:=X.pnd pins) I1 t1 fun s2 I2 t2=>?_;exact ⟨σ,a,H,C,dx,rfl,I2,ha,t2.imp fun _ _=>trivial,hR⟩
theorem bj.xw (h:bj X (pins++pins') H b):bj (X.xw pins R) pins' H b:=
 ⟨h.1,h.2.1,h.2.2.1,h.2.2.2.1,h.2.2.2.2.1,fun p hp=>h.2.2.2.2.2 p (by
  rcases Fk.mp hp with hp|hp
  ·rcases Fk.mp hp with hp|hp
   ·exact Ev _ hp
   ·exact Do _ (Ev _ hp)
  ·exact Do _ (Do _ hp))⟩
theorem PI.xw (h:PI X tg iter wi) (hx:∀e s,¬X.xe e s):PI (X.xw pins R) tg iter wi:=fun pins' s σ H Q I hw=>
 AT (h (pins++pins') s σ H Q I.j0 hw) (fun v s1 z=>AT z (fun u s2 ⟨it,fp,tn,J,H',e,I',tu,t0,fo,q⟩=>⟨it,fp,tn,J,H',e,I'.eG,tu,t0,fun b hb=>bj.xw (fo b hb),q⟩) fun e s z=>absurd z (hx e s)) fun e s z=>absurd z (hx e s)
theorem PG.xw (h:PG X tg t) (hx:∀e s,¬X.xe e s):PG (X.xw pins R) tg t:=fun pins' s σ H v u Q I r hw=>
 AT (h (pins++pins') s σ H v u Q I.j0 r hw) (fun _ s1 ⟨σ',H',I',q⟩=>⟨σ',H',I'.eG,q⟩) fun e s z=>absurd z (hx e s)
theorem wu (hx:∀e s,¬X.xe e s):PSs (X.xw pins R) sts (fun E σ H=>(∃ρ o,DSs X ρ sts o∧tDS X.K ρ o E σ H)∨∃ρ ρ' d,b7 X ρ sts ρ' d∧tSX X.K ρ ρ' d R σ H):=fun pins' s σ H D I q=>by
 rcases q with ⟨_,_,h,q⟩|⟨_,_,_,h,q⟩
 ·exact PSs.xw h hx pins' s σ H D I q
 ·exact h pins R pins' s σ H D I q
end
inductive kZ (X:Cx) (tg:Expr) (body:List Stmt) (ρe:Rho) (de:D):List D->Rho->Prop
 |here {d:D} {ds:List D} {ρ ρ1:Rho} {ks:List Nat}:DG X tg ρ d ρ1 ks->cn ρ ρ1 ks->b7 X ρ1 body ρe de->kZ X tg body ρe de (d::ds) ρ
 |cons {d:D} {ds:List D} {ρ ρ1 ρ2:Rho} {ks:List Nat}:DG X tg ρ d ρ1 ks->cn ρ ρ1 ks->DSs X ρ1 body (.nx ρ2)->kZ X tg body ρe de ds ρ2->kZ X tg body ρe de (d::ds) ρ
theorem yO (hst:X.stack=X.env::X.outer) (hfr:X.env.frame=some X.env.locals) (hc:X.calm=true) (hi:DI X tg ρ iter its) (hb:kZ X tg body ρe de its ρ)
  (hx:∀e s,¬X.xe e s:=by intro _ _ z;exact z) (hs:∀x,foldedSetIterable iter X.env x=pure x:=by intro _;rfl):DSX X ρ (.For tg iter body [] pos) ρe de:=fun pins R=>by
 refine PS.weak (uc (X:=X.xw pins R) (tQ hst hfr) hc (PI.xw hi hx) (PG.xw (oK (G:=DG X tg) fun _ _ _ _ h=>h) hx) (wu (sts:=body) hx) hs) ?_;rintro E σ H ⟨H₀,S₀,S,f,k⟩;refine ⟨S,f.ve,fun J H1 ex hJ=>?_⟩;have f1:=f.grow ex;obtain ⟨e0,fc⟩:=f1.cut;refine ⟨fun i m σ' H'=>∃S' ρ',Fm X.K (dB H1 S S₀) S₀ H' S' ρ' σ'∧kZ X tg body ρe de (its.drop i) ρ'∧i<=its.length∧m=its.length - i,⟨its.length,S,ρ,fc,by simpa using hb,Nat.zero_le _,by simp⟩,?_⟩;rintro i m σ' H' ⟨S',ρ',f',hf,hi',rfl⟩;have ext1:Ext S H1 H':=fun a u n h=>f'.ext a u (fun z=>z) (dh h fun s=>(n s).elim);have new1:∀a,S' a->S a∨H1 a=none:=fun a s=>by
  rcases f'.new a s with z|z
  ·exact .inl (f.sub a z)
  ·by_cases q:S a
   ·exact .inl q
   ·cases h:H1 a with
    |none=>exact .inr rfl
    |some u=>rw [dh h fun s=>(q s).elim] at z;cases z
 obtain ⟨J1,J2⟩:=hJ H' S' ext1 new1 f'.ve.dom i
 by_cases hlt:i<its.length
 ·have hd:its[i]?=some its[i]:=by simp [hlt]
  obtain ⟨go,yld⟩:=J1 _ hd;rw [List.drop_eq_getElem_cons hlt] at hf;have rep:∀{ρ1:Rho} {ks:List Nat} {x:V} {H2:Hp},J.yld i H' x H2->DG X tg ρ' its[i] ρ1 ks->cn ρ' ρ1 ks->∀(R:St->Hp->Prop),(∀σ2,Fm X.K (dB H1 S S₀) S₀ H2 S' ρ1 σ2->R σ2 H2)->gA X.K (DG X tg) x σ' H2 R:=fun {ρ1 ks x H2} y hg htg R hR=>by
   obtain ⟨e1,r1⟩:=yld x H2 y;exact ⟨ρ',its[i],ρ1,ks,hg,S',(f'.grow e1).ve,r1,fun σ2 ve2 c=>hR σ2 ((f'.grow e1).tgt ve2 c htg)⟩
  cases hf with
  |cons hg htg hbd hrest=>
   rename_i ρ1 ρ2 ks;refine .inr ⟨go,fun σ2 H2=>∃S2,Fm X.K (dB H1 S S₀) S₀ H2 S2 ρ2 σ2,fun σ2 H2 ⟨S2,f2⟩=>⟨its.length - (i+1),by omega,S2,ρ2,f2,hrest,hlt,rfl⟩,fun x H2 y=>?_⟩;exact rep y hg htg _ fun σ2 f2=>.inl ⟨ρ1,_,hbd,_,_,S',f2,fun σ3 H3 S3 f3=>⟨S3,f3⟩⟩
  |here hg htg hbd=>
   rename_i ρ1 ks;refine .inr ⟨go,fun _ _=>False,fun _ _ z=>z.elim,fun x H2 y=>?_⟩;refine rep y hg htg _ fun σ2 f2=>.inr ⟨ρ1,ρe,de,hbd,_,_,S',f2,fun σ3 a H3 S3 f3 hn r=>?_⟩;exact k σ3 a H3 S3 (f3.mono e0 f.dm) (e0.back hn) r
 ·have e:i=its.length:=by omega
  subst e;rw [List.drop_length] at hf;cases hf
end CT
set_option autoImplicit true
set_option relaxedAutoImplicit true
namespace IN
open PySem PySem.Spec PySem.W L2 CT
open PyProof.Rows hiding St
section
variable {X:Cx} {ρ:Rho} {k:Nat} {f C:Addr} {fd:FuncData} {ps:List Str} {x m:Str} {p pos apos:Pos} {e o:Expr} {es:List Expr} {ds:List D} {d:D}
theorem tT (he:PE (X.xw pins R) o ta) (c:Cls X.K C) (hm:Meth X.K C m f) (F:aG X.prog X.w X.K X.mg X.base (CXA X.prog X.w) k f fd ps sp) (hr:aE k X.A) (hb:Binds X.K fd ps [])
  (ht:eval (.Call (.Attribute o m apos) [] [] pos) X.env=(do
   let ov←eval o X.env
   standAt apos.atName
   let (f,first)←holding [ov] (getMethod ov m pl)
   callWith pos f first (backTo pos (starEach [] X.env)) (backToKw pos (keywordEach [] X.env)))):
  PE (X.xw pins R) (.Call (.Attribute o m apos) [] [] pos) (fun σ H Q=>ta σ H fun x H1=>∃a dx fs,x=.ref a∧H1 a=some (.ins C dx fs)∧fs.lookup m=none∧sp [x] H1 Q (xk R σ)):=by
 intro pins' s σ H Q I h;refine PySem.W.methodCall_KW (pl:=pl) (thn (he pins' s σ H _ I h) fun u s1 zz=>?_) ht;obtain ⟨x,H1,I1,rx,a,dx,fs,ex,ea,l,q⟩:=zz;subst ex;obtain rfl:u=Value.ref a:=rx;refine eK I1 ea c hm l ?_;exact PySem.W.callWith_K0 (first:=[.ref a]) I1.kIn hm.kp (lN (us:=[.ref a]) (vs:=[.ref a]) F hr hb I1 (.cons rfl .nil) q)
theorem sv (ho:DE X ρ o (.ins C fs)) (hl:fs.lookup m=none) (c:Cls X.K C) (hm:Meth X.K C m f) (F:aG X.prog X.w X.K X.mg X.base (CXA X.prog X.w) k f fd ps (spR X.K Pr)) (hr:aE k X.A) (hb:Binds X.K fd ps [])
  (hp:Pr [.ins C fs] (.xc d)) (hx:∀e s,¬X.xe e s)
  (ht:eval (.Call (.Attribute o m apos) [] [] pos) X.env=(do
   let ov←eval o X.env
   standAt apos.atName
   let (f,first)←holding [ov] (getMethod ov m pl)
   callWith pos f first (backTo pos (starEach [] X.env)) (backToKw pos (keywordEach [] X.env)))):
  DEX X ρ (.Call (.Attribute o m apos) [] [] pos) d:=fun pins R=>PE.weak (tT (PE.xw ho hx) c hm F hr hb ht) fun σ H Q ⟨S,ve,kk⟩=>⟨S,ve,fun v H1 ex1 r1=>by
   obtain ⟨a,dx,gs,rfl,hh,rf⟩:=r1.iF;exact ⟨a,dx,gs,rfl,hh,rf.none hl,S,_,.xc d,(ve.ext ex1).dom,.cons r1 .nil,hp,(fun d' e=>nomatch e),fun d' e a H'' ex' hn r'=>⟨a,rfl,by
    cases e;exact kk a H'' (ex1.trans ex') (ex1.back hn) r'⟩⟩⟩
end
section
variable {X:Cx} {ρ ρ':Rho} {e tg:Expr} {d:D} {i:Nat} {c:Ow} {st:Stmt} {pos:Pos}
theorem vz (hr:ρ[i]?=some (.owx c)) (h:DSX X (ρ.set i (.val c.D)) st ρ' d):DSX X ρ st ρ' d:=fun pins R=>PS.weak (h pins R) fun E σ H ⟨H₀,S₀,S,f,k⟩=>by
 obtain ⟨S',_,f'⟩:=f.give hr;exact ⟨H₀,S₀,S',f',k⟩
theorem vw (he:DEX X ρ e d) (hs:swapsWithSole [tg] e pos.line X.env=pure false) (hw:swappedStores [tg] e X.env=pure none) (h1:(assignEach [tg] X.env).map (·.2)=[assign tg X.env]):
  DSX X ρ (.Assign [tg] e pos) ρ d:=fun pins R=>PS.weak (ub (X:=X.xw pins R) (g:=fun _ _ _ _=>False) (he pins R) (fun _ _ _ _ _ _ _ _ _ z=>z.elim) hs hw h1) fun E σ H q=>rK q
theorem vA (w:Wk ρ ρ') (h:b7 X ρ' sts ρ'' d):b7 X ρ sts ρ'' d:=fun pins R=>PSs.weak (h pins R) fun E σ H ⟨H₀,S₀,S,f,k⟩=>⟨H₀,S₀,S,f.wk w,k⟩
end
end IN
set_option autoImplicit true
set_option relaxedAutoImplicit true
set_option genInjectivity false
namespace IN
open PySem PySem.Spec L2 CT
open PyProof.Rows hiding St
inductive BO where|add|sub|mul|mod|fdiv|pow|shr
inductive CO where|lt|le|gt|ge|eq|ne|is|isn|inn|nin
inductive BN where|len|sum|all|any|abs|int|str|tuple|list|dict|min|max|isin|range|zip|enum|sorted
inductive Tg where
 |nm (k:Nat)|tp (ts:List Tg)
inductive CE where
 |nop|var (i:Nat)|lit (d:D)|gl (x:Str)
 |bin (o:BO) (a b:CE)|neg (a:CE)|nt (a:CE)|and (a b:CE)|or (a b:CE)
 |cmp (o:CO) (a b:CE)|isN (a:CE)|oF (a:CE)|chn (a b c:CE)|ife (c a b:CE)
 |tup (es:List CE)|lst (es:List CE)|ix (a b:CE)|sl (a lo hi:CE)
 |fld (a:CE) (f:Str)|blt (n:BN) (es:List CE)|fn (x:Str) (es:List CE)|mth (o:CE) (m:Str) (es:List CE)
 |comp (w:Nat) (cap:List Nat) (tg:Tg) (it test body:CE)
 |emit (e:CE)|loop (tg:Tg) (it test body:CE)
 |jG
 |bV (w:Nat) (cap:List Nat) (tg:Tg) (it k v:CE)
inductive CS' where
 |asg (t:Tg) (e:CE) (L:List Nat)|aug (i:Nat) (o:BO) (e:CE) (L:List Nat)
 |par (i j:Nat) (a b:CE) (L:List Nat)
 |put (i:Nat) (k e:CE) (L:List Nat)|gN (f:Str) (e:CE) (L:List Nat)
 |app (i:Nat) (e:CE) (L:List Nat)|clr (i:Nat)
 |exp (e:CE) (L:List Nat)|ret (e:CE) (L:List Nat)|CV
 |ife (c:CE) (L:List Nat) (a b:List CS')|for (t:Tg) (it:CE) (L:List Nat) (b:List CS')|whl (c:CE) (L:List Nat) (b:List CS')
 |rse (x:Str) (es:List CE) (L:List Nat)
 |try (b:List CS') (x:Str) (i:Nat) (h:List CS')
 |pass
 |fgt (L:List Nat)
 |mov (j i:Nat)
 |ext (i:Nat) (e:CE) (L:List Nat)
structure Def where
 slots:Nat
 ao:Nat
 init:Bool:=false
 body:List CS'
inductive Tag where
 |ty (n:String)|cl (C:Addr)|xc (C:Addr)
 deriving DecidableEq
noncomputable def C9:D->Option Tag
 |.ins C _=>some (.cl C)|.exc C _=>some (.xc C)
 |d=>(tyN d).map .ty
noncomputable def F0:D->Option Tag
 |.ty n=>some (.ty n)|.cl C=>some (.cl C)|_=>none
structure Prg where
 glob:Str->Option D
 fn:Str->Option Str
 ini:Str->Option (Addr×Str)
 exc:Str->Option (Addr×List Str)
 mth:Addr->Str->Option Str
 fok:Addr->Str->Bool
 xok:Addr->Str->Bool
 kit:Tag->Tag->Option Bool
 sub:Addr->Addr->Option Bool
 defs:Str->Option (Option Addr×Def)
inductive Rs where
 |ok (d:D)|fr (c:Ow)|xc (d:D)
inductive Oc where
 |nx (ρ:Rho)|rt (d:D)|fr (c:Ow)|xc (ρ:Rho) (d:D)
mutual
noncomputable def bU:D->Option PK
 |.int n=>some (.i n)
 |.tup xs=>match g0 xs with|some l=>some (.t l)|none=>none
 |_=>none
noncomputable def g0:List D->Option (List PK)
 |[]=>some []
 |x::xs=>match bU x with
  |some k=>match g0 xs with
   |some ks=>some (k::ks)
   |none=>none
  |none=>none
end
mutual
noncomputable def PK.beq:PK->PK->Bool
 |.i n,.i m=>n==m
 |.t l,.t r=>PK.ip l r
 |_,_=>false
noncomputable def PK.ip:List PK->List PK->Bool
 |[],[]=>true
 |a::l,b::r=>PK.beq a b&&PK.ip l r
 |_,_=>false
end
noncomputable def look:List (PK×D)->PK->Option D
 |[],_=>none
 |(k,d)::r,q=>if PK.beq k q then some d else look r q
noncomputable def dZ (es:List (PK×D)) (q:PK) (v:D):List (PK×D):=
 match look es q with
 |some _=>es.map fun p=>if PK.beq p.1 q then (p.1,v) else p
 |none=>es++[(q,v)]
noncomputable def apart:List Int->Bool
 |[]=>true
 |x::xs=>!xs.contains x&&apart xs
noncomputable def bO (i j:Int):Bool:=decide (i.natAbs<2^64)||decide (j.natAbs<2^64)||(decide (i.natAbs<2^100000)&&decide (j.natAbs<2^100000))
noncomputable def binI:BO->Int->Int->Option D
 |.add,i,j=>some (.int (i+j))
 |.sub,i,j=>some (.int (i - j))
 |.mul,i,j=>if bO i j then some (.int (i*j)) else none
 |.mod,i,j=>if 0<j then some (.int (i%j)) else none
 |.fdiv,i,j=>if 0<j∧j.toNat<1073741824 then some (.int (i / j)) else none
 |.pow,_,_=>none
 |.shr,i,j=>if 0<=j then some (.int (i / 2^j.toNat)) else none
noncomputable def rep1 (k:Int):List D->Option D
 |[d]=>if 0<=k∧k.toNat<2^20 then some (.tup (List.replicate k.toNat d)) else none
 |_=>none
noncomputable def AM (f:List D->D) (xs ys:List D):Option D:=if xs.length+ys.length<=sizeLine then some (f (xs++ys)) else none
noncomputable def n6 (f:Int->Option α):D->Option α
 |.int j=>f j|_=>none
noncomputable def tupK (f:List D->Option α):D->Option α
 |.tup j=>f j|_=>none
noncomputable def lstK (f:List D->Option α):D->Option α
 |.lst j=>f j|_=>none
noncomputable def eW (o:BO) (x y:D):Option D:=
 match x with
 |.int i=>n6 (binI o i) y
 |.tup xs=>match o with
  |.add=>tupK (AM .tup xs) y
  |.mul=>n6 (fun k=>rep1 k xs) y
  |_=>none
 |.lst xs=>match o with
  |.add=>lstK (AM .lst xs) y
  |_=>none
 |_=>none
theorem gC:(∀i j,eW .add (.int i) (.int j)=some (.int (i+j)))∧(∀i j,eW .sub (.int i) (.int j)=some (.int (i - j)))
  ∧(∀i j,eW .mul (.int i) (.int j)=if bO i j then some (.int (i*j)) else none)
  ∧(∀i j,eW .mod (.int i) (.int j)=if 0<j then some (.int (i%j)) else none)
  ∧(∀i j,eW .fdiv (.int i) (.int j)=if 0<j∧j.toNat<1073741824 then some (.int (i / j)) else none)
  ∧(∀i j,eW .shr (.int i) (.int j)=if 0<=j then some (.int (i / 2^j.toNat)) else none)
  ∧(∀xs ys,eW .add (.tup xs) (.tup ys)=if xs.length+ys.length<=sizeLine then some (.tup (xs++ys)) else none)
  ∧(∀xs ys,eW .add (.lst xs) (.lst ys)=if xs.length+ys.length<=sizeLine then some (.lst (xs++ys)) else none)
  ∧(∀d k,eW .mul (.tup [d]) (.int k)=if 0<=k∧k.toNat<2^20 then some (.tup (List.replicate k.toNat d)) else none):=by
 and_intros<;>(intros;rfl)
noncomputable def boolsOf:List D->Option (List Bool)
 |[]=>some []
 |.bl b::r=>match boolsOf r with|some l=>some (b::l)|none=>none
 |_=>none
noncomputable def fb (x y:D):Bool:=bu x&&bu y&&decide (min (toPy x).depth (toPy y).depth<=64)
noncomputable def kl (f:Int->Int->Bool) (x y:D):Option Bool:=n6 (fun i=>n6 (fun j=>some (f i j)) y) x
noncomputable def eqK (f:Bool->Bool) (x y:D):Option Bool:=if fb x y then some (f (eqD x y)) else none
noncomputable def blK (f:Bool->Option Bool):D->Option Bool
 |.bl b=>f b|_=>none
noncomputable def inK (f:Bool->Bool) (x:D):D->Option Bool
 |.pdc es=>match bU x with
  |some (.t l)=>if (PK.t l).dp<=8 then some (f (look es (.t l)).isSome) else none
  |_=>none
 |_=>none
noncomputable def eqI (f:Bool->Bool) (y:D):D->Option Bool
 |.int i=>(match y with
  |.int j=>some (f (decide (i=j)))
  |_=>eqK f (.int i) y)
 |x=>eqK f x y
noncomputable def nX (es fs:List (PK×D)):Bool:=es.all fun p=>match look fs p.1 with
 |some w=>eqD p.2 w
 |none=>false
noncomputable def Cn (f:List (PK×D)->Option Bool):D->Option Bool
 |.pdc fs=>f fs|_=>none
noncomputable def eqX (y:D):D->Option Bool
 |.pdc es=>Cn (fun fs=>if es.all (fun p=>eqV p.2)&&fs.all (fun p=>eqV p.2) then some (es.length==fs.length&&nX es fs) else none) y
 |x=>eqI id y x
noncomputable def bf (o:CO) (x y:D):Option Bool:=
 match o with
 |.lt=>kl (fun i j=>decide (i<j)) x y
 |.le=>kl (fun i j=>decide (i<=j)) x y
 |.gt=>kl (fun i j=>decide (j<i)) x y
 |.ge=>kl (fun i j=>decide (j<=i)) x y
 |.eq=>eqX y x
 |.ne=>eqI (!·) y x
 |.is=>blK (fun p=>blK (fun q=>some (p==q)) y) x
 |.isn=>blK (fun p=>blK (fun q=>some (p !=q)) y) x
 |.inn=>inK id x y
 |.nin=>inK (!·) x y
theorem nL:(∀i j,bf .lt (.int i) (.int j)=some (decide (i<j)))∧(∀i j,bf .le (.int i) (.int j)=some (decide (i<=j)))
  ∧(∀i j,bf .gt (.int i) (.int j)=some (decide (j<i)))∧(∀i j,bf .ge (.int i) (.int j)=some (decide (j<=i)))
  ∧(∀i j,bf .eq (.int i) (.int j)=some (decide (i=j)))∧(∀i j,bf .ne (.int i) (.int j)=some (!decide (i=j)))
  ∧(∀xs y,bf .eq (.tup xs) y=if fb (.tup xs) y then some (eqD (.tup xs) y) else none)
  ∧(∀xs y,bf .ne (.tup xs) y=if fb (.tup xs) y then some (!eqD (.tup xs) y) else none)
  ∧(∀xs y,bf .eq (.lst xs) y=if fb (.lst xs) y then some (eqD (.lst xs) y) else none)
  ∧(∀xs y,bf .ne (.lst xs) y=if fb (.lst xs) y then some (!eqD (.lst xs) y) else none):=by
 and_intros<;>(intros;rfl)
noncomputable def ba:D->Option (List D)
 |.lst xs=>some xs|.tup xs=>some xs|_=>none
noncomputable def ixD:D->D->Option D
 |.lst xs,.int i=>atI xs i
 |.tup xs,.int i=>atI xs i
 |.pdc es,k=>match bU k with
  |some (.t l)=>if (PK.t l).dp<=8 then look es (.t l) else none
  |_=>none
 |_,_=>none
noncomputable def slD:D->Option Int->Option Int->Option D
 |.tup xs,l,u=>some (.tup (AO xs l u))
 |.lst xs,l,u=>some (.lst (AO xs l u))
 |_,_,_=>none
noncomputable def bR (G:Prg) (d:D):D->Option Bool
 |.tup [.ty a,.ty b]=>if a="list"∧b="tuple" then (match tyN d with|some _=>some (qO d "list"||qO d "tuple")|none=>none) else none
 |c=>match C9 d,F0 c with
  |some t,some u=>G.kit t u
  |_,_=>none
noncomputable def b8 (G:Prg):BN->List D->Option D
 |.len,[d]=>match ba d with|some xs=>some (.int xs.length)|none=>none
 |.all,[d]=>match ba d with|some xs=>(match boolsOf xs with|some bs=>some (.bl (bs.all id))|none=>none)|none=>none
 |.abs,[.int i]=>some (.int (if i<0 then -i else i))
 |.tuple,[d]=>match ba d with|some xs=>some (.tup xs)|none=>none
 |.isin,[d,c]=>match bR G d c with|some b=>some (.bl b)|none=>none
 |_,_=>none
noncomputable def itD:D->Option (List D)
 |.lst xs=>some xs|.tup xs=>some xs|.pdc es=>some (es.map fun p=>PK.d p.1)|_=>none
noncomputable def hU (j:Int):Bool:=decide (j.toNat<2^62)&&decide ((-j).toNat<=2^62)
noncomputable def cN:BN->List D->Option (List D)
 |.range,[.int j]=>if hU j then some ((bo j).map D.int) else none
 |.range,[.int i,.int j]=>if hU i&&hU j then some ((kr i j).map D.int) else none
 |.zip,[x,y]=>match ba x,ba y with|some xs,some ys=>some (bE xs ys)|_,_=>none
 |.zip,[x,y,z]=>match ba x,ba y,ba z with|some xs,some ys,some zs=>some (bq xs ys zs)|_,_,_=>none
 |.enum,[x]=>match ba x with|some xs=>some (a9 0 xs)|_=>none
 |_,_=>none
mutual
noncomputable def aq:Tg->D->Rho->Option Rho
 |.nm k,d,ρ=>if k<ρ.length then some (ρ.set k (.val d)) else none
 |.tp ts,.tup ds,ρ=>aY ts ds ρ
 |_,_,_=>none
noncomputable def aY:List Tg->List D->Rho->Option Rho
 |[],[],ρ=>some ρ
 |t::ts,d::ds,ρ=>match aq t d ρ with|some ρ'=>aY ts ds ρ'|none=>none
 |_,_,_=>none
end
mutual
noncomputable def tks:Tg->List Nat
 |.nm k=>[k]
 |.tp ts=>fG ts
noncomputable def fG:List Tg->List Nat
 |[]=>[]
 |t::ts=>tks t++fG ts
end
noncomputable def isNil:Option Sl->Bool
 |some .nil=>true|_=>false
noncomputable def aJ:Option Sl->Option D
 |some (.val d)=>some d|_=>none
noncomputable def jB (f:D->Option (List D)):List D->Option (List D)
 |[]=>some []
 |d::ds=>match f d with
  |some xs=>match jB f ds with
   |some ys=>some (xs++ys)
   |none=>none
  |none=>none
noncomputable def iA (f:D->Option (PK×D)):List D->List (PK×D)->Option (List (PK×D))
 |[],es=>some es
 |d::ds,es=>match f d with
  |some p=>if es.length<sizeLine then iA f ds (dZ es p.1 p.2) else none
  |none=>none
noncomputable def ll:Option D->Option D->Option (PK×D)
 |some kd,some v=>match bU kd with
  |some (.t l)=>if (PK.t l).dp<=8 then some (.t l,v) else none
  |_=>none
 |_,_=>none
noncomputable def dA (w:Nat) (cap:List Nat) (ρ:Rho):Rho:=List.replicate w .nil++cap.map fun i=>cq ρ[i]?
noncomputable def Rs.val:Rs->Option D
 |.ok d=>some d|.fr c=>some c.D|.xc _=>none
noncomputable def fnR (G:Prg) (cl:Str->List D->Option Rs) (x:Str) (ds:List D):Option Rs:=
 match ds with
 |[]=>none
 |d::r=>match G.fn x with
  |some k=>cl k (d::r)
  |none=>match G.ini x with
   |some (_,k)=>cl k (d::r)
   |none=>none
noncomputable def aV (G:Prg) (cl:Str->List D->Option Rs) (o:D) (m:Str) (ds:List D):Option Rs:=
 match o with
 |.ins C fs=>match fs.lookup m,G.mth C m with
  |none,some k=>cl k (.ins C fs::ds)
  |_,_=>none
 |.pdc es=>if m="get" then (match ds with
  |[k]=>match bU k with
   |some (.t l)=>if (PK.t l).dp<=8 then some (.ok ((look es (.t l)).getD .non)) else none
   |_=>none
  |_=>none) else none
 |_=>none
noncomputable def bx (G:Prg) (o:D) (f:Str):Option D:=
 match o with
 |.ins C fs=>if G.fok C f then fs.lookup f else none
 |_=>none
noncomputable def asI:CE->Option D->Option (Option Int)
 |.nop,_=>some none
 |_,some (.int i)=>some (some i)
 |_,_=>none
section
variable (G:Prg) (cl:Str->List D->Option Rs)
mutual
noncomputable def ev:CE->Rho->Option D
 |.var i,ρ=>aJ ρ[i]?
 |.lit d,_=>some d
 |.gl x,_=>G.glob x
 |.bin o a b,ρ=>match ev a ρ with
  |some x=>match ev b ρ with
   |some y=>eW o x y
   |none=>none
  |none=>none
 |.neg a,ρ=>match ev a ρ with|some (.int i)=>some (.int (-i))|_=>none
 |.nt a,ρ=>match ev a ρ with|some (.bl b)=>some (.bl (!b))|_=>none
 |.and a b,ρ=>match ev a ρ with
  |some (.bl true)=>(match ev b ρ with|some (.bl q)=>some (.bl q)|_=>none)
  |some (.bl false)=>some (.bl false)
  |_=>none
 |.or a b,ρ=>match ev a ρ with
  |some (.bl true)=>some (.bl true)
  |some (.bl false)=>(match ev b ρ with|some (.bl q)=>some (.bl q)|_=>none)
  |_=>none
 |.cmp o a b,ρ=>match ev a ρ with
  |some x=>match ev b ρ with
   |some y=>match bf o x y with|some q=>some (.bl q)|none=>none
   |none=>none
  |none=>none
 |.isN a,ρ=>match ev a ρ with|some x=>some (.bl (dD x))|none=>none
 |.oF a,ρ=>match ev a ρ with|some x=>some (.bl (!dD x))|none=>none
 |.chn a b c,ρ=>match ev a ρ with
  |some (.int i)=>match ev b ρ with
   |some (.int j)=>match ev c ρ with
    |some (.int k)=>some (.bl (decide (i<=j)&&decide (j<k)))
    |_=>none
   |_=>none
  |_=>none
 |.ife c a b,ρ=>match evT c ρ with
  |some true=>ev a ρ
  |some false=>ev b ρ
  |none=>none
 |.tup es,ρ=>match evA es ρ with
  |some ds=>if ds.length<=sizeLine then some (.tup ds) else none
  |none=>none
 |.lst es,ρ=>match evA es ρ with
  |some ds=>if ds.length<=sizeLine then some (.lst ds) else none
  |none=>none
 |.ix a b,ρ=>match ev a ρ with
  |some x=>match ev b ρ with
   |some y=>ixD x y
   |none=>none
  |none=>none
 |.sl _ _ _,_=>none
 |.fld a f,ρ=>match ev a ρ with|some x=>bx G x f|none=>none
 |.blt n es,ρ=>match evA es ρ with
  |some ds=>match n with
   |.list=>none
   |.dict=>(match ds with|[.pdc es]=>if apart (es.map fun q=>q.1.hs) then some (.pdc es) else none|_=>none)
   |.len=>(match ds with|[.pdc es]=>some (.int es.length)|_=>b8 G .len ds)
   |_=>b8 G n ds
  |none=>none
 |.fn x es,ρ=>match evA es ρ with
  |some ds=>match fnR G cl x ds with|some r=>r.val|none=>none
  |none=>none
 |.mth o m es,ρ=>match ev o ρ with
  |some x=>match evA es ρ with
   |some ds=>match aV G cl x m ds with|some r=>r.val|none=>none
   |none=>none
  |none=>none
 |.comp w cap tg it test body,ρ=>match evI it ρ with
  |some its=>if (tks tg).all (fun k=>k<w) then
    match jB (fun d=>match aq tg d (dA w cap ρ) with
     |some ρ'=>match evT test ρ' with
      |some true=>evB w body ρ'
      |some false=>some []
      |none=>none
     |none=>none) its with
    |some out=>if out.length<=sizeLine then some (.lst out) else none
    |none=>none
   else none
  |none=>none
 |.jG,_=>some (.pdc [])
 |.bV w cap tg it k v,ρ=>match evI it ρ with
  |some its=>if (tks tg).all (fun k=>k<w) then
    match iA (fun d=>match aq tg d (dA w cap ρ) with
     |some ρ'=>ll (ev k ρ') (ev v ρ')
     |none=>none) its [] with
    |some es=>some (.pdc es)
    |none=>none
   else none
  |none=>none
 |.nop,_=>none
 |.emit _,_=>none
 |.loop _ _ _ _,_=>none
noncomputable def evT:CE->Rho->Option Bool
 |.nt a,ρ=>match evT a ρ with|some b=>some (!b)|none=>none
 |.and a b,ρ=>match evT a ρ with
  |some true=>evT b ρ
  |some false=>some false
  |none=>none
 |.or a b,ρ=>match evT a ρ with
  |some true=>some true
  |some false=>evT b ρ
  |none=>none
 |.cmp o a b,ρ=>match ev a ρ with
  |some x=>match ev b ρ with
   |some y=>bf o x y
   |none=>none
  |none=>none
 |.isN a,ρ=>match ev a ρ with|some x=>some (dD x)|none=>none
 |.oF a,ρ=>match ev a ρ with|some x=>some (!dD x)|none=>none
 |.var i,ρ=>match aJ ρ[i]? with|some (.bl b)=>some b|_=>none
 |.lit (.bl b),_=>some b
 |.blt n es,ρ=>match evA es ρ with
  |some ds=>match b8 G n ds with|some (.bl b)=>some b|_=>none
  |none=>none
 |.fn x es,ρ=>match evA es ρ with
  |some ds=>match fnR G cl x ds with|some (.ok (.bl b))=>some b|_=>none
  |none=>none
 |.mth o m es,ρ=>match ev o ρ with
  |some x=>match evA es ρ with
   |some ds=>match aV G cl x m ds with|some (.ok (.bl b))=>some b|_=>none
   |none=>none
  |none=>none
 |_,_=>none
noncomputable def evA:List CE->Rho->Option (List D)
 |[],_=>some []
 |e::es,ρ=>match ev e ρ with
  |some d=>match evA es ρ with
   |some ds=>some (d::ds)
   |none=>none
  |none=>none
noncomputable def evI:CE->Rho->Option (List D)
 |.blt n es,ρ=>match evA es ρ with
  |some ds=>match cN n ds with
   |some its=>some its
   |none=>none
  |none=>none
 |.var i,ρ=>match aJ ρ[i]? with|some d=>itD d|none=>none
 |.fld a f,ρ=>match ev a ρ with|some x=>(match bx G x f with|some d=>itD d|none=>none)|none=>none
 |.tup es,ρ=>match evA es ρ with|some ds=>if ds.length<=sizeLine then some ds else none|none=>none
 |.lst es,ρ=>match evA es ρ with|some ds=>if ds.length<=sizeLine then some ds else none|none=>none
 |.ix a b,ρ=>match ev a ρ with
  |some x=>match ev b ρ with
   |some y=>(match ixD x y with|some d=>itD d|none=>none)
   |none=>none
  |none=>none
 |.fn x es,ρ=>match evA es ρ with
  |some ds=>match fnR G cl x ds with|some r=>(match r.val with|some d=>itD d|none=>none)|none=>none
  |none=>none
 |.mth o m es,ρ=>match ev o ρ with
  |some x=>match evA es ρ with
   |some ds=>match aV G cl x m ds with|some r=>(match r.val with|some d=>itD d|none=>none)|none=>none
   |none=>none
  |none=>none
 |_,_=>none
noncomputable def evB (w:Nat):CE->Rho->Option (List D)
 |.emit e,ρ=>match ev e ρ with|some d=>some [d]|none=>none
 |.loop tg it test body,ρ=>match evI it ρ with
  |some its=>if (tks tg).all (fun k=>k<w&&isNil ρ[k]?) then
    jB (fun d=>match aq tg d ρ with
     |some ρ'=>match evT test ρ' with
      |some true=>evB w body ρ'
      |some false=>some []
      |none=>none
     |none=>none) its
   else none
  |none=>none
 |_,_=>none
end
theorem oD {β:Type} {x:Option D} {f:D->Option β} {r:β} (h:(match x with|some u=>f u|none=>none)=some r):∃u,x=some u∧f u=some r:=by
 cases x with
 |none=>cases h
 |some u=>exact ⟨u,rfl,h⟩
theorem oB {β:Type} {x:Option Bool} {f:Bool->Option β} {r:β} (h:(match x with|some u=>f u|none=>none)=some r):∃u,x=some u∧f u=some r:=by
 cases x with
 |none=>cases h
 |some u=>exact ⟨u,rfl,h⟩
theorem oL {β:Type} {x:Option (List D)} {f:(List D)->Option β} {r:β} (h:(match x with|some u=>f u|none=>none)=some r):∃u,x=some u∧f u=some r:=by
 cases x with
 |none=>cases h
 |some u=>exact ⟨u,rfl,h⟩
end
set_option autoImplicit true
set_option relaxedAutoImplicit true
noncomputable def aH:Sl->Sl
 |.owx c=>.val c.D
 |s=>s
noncomputable def aa:List Nat->Rho->Rho
 |[],ρ=>ρ
 |i::L,ρ=>aa L (ρ.modify i aH)
noncomputable def bN:Ow->Bool
 |.l xs=>aW xs
 |.d es=>es.all fun p=>ak p.2
noncomputable def oS (G:Prg) (x:Str) (es:List CE):Option Addr:=match es with
 |[]=>match G.exc x with
  |some (C,[])=>some C
  |_=>none
 |_=>none
noncomputable def kp (b:Bool) (ρ ρg:Rho):Rho:=if b then ρ else ρg
section
variable (G:Prg) (cl:Str->List D->Option Rs)
noncomputable def evV (e:CE) (ρ:Rho):Option Rs:=
 match e with
 |.fn x es=>match evA G cl es ρ with|some ds=>fnR G cl x ds|none=>none
 |.mth o m es=>match ev G cl o ρ with
  |some x=>match evA G cl es ρ with
   |some ds=>aV G cl x m ds
   |none=>none
  |none=>none
 |.lst es=>match evA G cl es ρ with
  |some ds=>if ds.length<=sizeLine then some (.fr (.l ds)) else none
  |none=>none
 |.comp w cap tg it test body=>match ev G cl (.comp w cap tg it test body) ρ with
  |some (.lst xs)=>some (.fr (.l xs))
  |_=>none
 |.blt .list es=>match ev G cl (.blt .list es) ρ with
  |some (.lst xs)=>some (.fr (.l xs))
  |_=>none
 |.blt .dict es=>match ev G cl (.blt .dict es) ρ with
  |some (.pdc xs)=>some (.fr (.d xs))
  |_=>none
 |.jG=>some (.fr (.d []))
 |.bV w cap tg it k v=>match ev G cl (.bV w cap tg it k v) ρ with
  |some (.pdc es)=>some (.fr (.d es))
  |_=>none
 |e=>match ev G cl e ρ with|some d=>some (.ok d)|none=>none
noncomputable def forL (tg:Tg) (b:Rho->Option Oc):List D->Rho->Option Oc
 |[],ρ=>some (.nx ρ)
 |d::ds,ρ=>match aq tg d ρ with
  |some ρ1=>match b ρ1 with
   |some (.nx ρ2)=>forL tg b ds ρ2
   |o=>o
  |none=>none
noncomputable def ie (c:Rho->Option Bool) (b:Rho->Option Oc):Nat->Rho->Option Oc
 |0,_=>none
 |n+1,ρ=>match c ρ with
  |some true=>(match b ρ with
   |some (.nx ρ2)=>ie c b n ρ2
   |some (.xc _ _)=>none
   |o=>o)
  |some false=>some (.nx ρ)
  |none=>none
noncomputable def jL:List Nat->Rho->Rho
 |[],ρ=>ρ
 |i::L,ρ=>jL L (ρ.set i .any)
noncomputable def oV:Sl->Nat
 |.val (.int i)=>i.natAbs
 |_=>0
noncomputable def turns (ρ:Rho):Nat:=(ρ.map oV).sum+1000000
mutual
noncomputable def af:CS'->Rho->Option Oc
 |.asg t e L,ρ=>match evV G cl e (aa L ρ) with
  |some (.ok d)=>(match aq t d (kp (ak d) ρ (aa L ρ)) with|some ρ'=>some (.nx ρ')|none=>none)
  |some (.fr c)=>(match t with
   |.nm k=>if k<ρ.length then some (.nx ((kp (bN c) ρ (aa L ρ)).set k (.owx c))) else none
   |t=>none)
  |some (.xc d)=>some (.xc (aa L ρ) d)
  |none=>none
 |.aug _ .add _ _,_=>none
 |.aug _ _ _ _,_=>none
 |.par i j a b L,ρ=>match ev G cl a (aa L ρ) with
  |some x=>match ev G cl b (aa L ρ) with
   |some y=>if i≠j∧i<ρ.length∧j<ρ.length then some (.nx (((kp (ak x&&ak y) ρ (aa L ρ)).set i (.val x)).set j (.val y))) else none
   |none=>none
  |none=>none
 |.put i k e L,ρ=>match ev G cl e (aa L ρ) with
  |some v=>match ev G cl k (aa L ρ) with
   |some kd=>match (kp (ak v) ρ (aa L ρ))[i]?,bU kd with
    |some (.owx (.d es)),some (.t l)=>if (PK.t l).dp<=8∧es.length<sizeLine then some (.nx ((kp (ak v) ρ (aa L ρ)).set i (.owx (.d (dZ es (.t l) v))))) else none
    |_,_=>none
   |none=>none
  |none=>none
 |.gN f e L,ρ=>match ev G cl e (aa L ρ) with
  |some d=>match (ρ[(0:Nat)]?:Option Sl) with
   |some (.new C a dx fs)=>if fs.length<1000∧G.fok C f then some (.nx ((kp (ak d) ρ (aa L ρ)).set 0 (.new C a dx (putD f d fs)))) else none
   |_=>none
  |none=>none
 |.app i e L,ρ=>match ev G cl e (aa L ρ) with
  |some v=>match (kp (ak v) ρ (aa L ρ))[i]? with
   |some (.owx (.l xs))=>if xs.length<sizeLine then some (.nx ((kp (ak v) ρ (aa L ρ)).set i (.owx (.l (xs++[v]))))) else none
   |_=>none
  |none=>none
 |.clr _,_=>none
 |.exp e L,ρ=>match evV G cl e (aa L ρ) with
  |some (.ok d)=>some (.nx (kp (ak d) ρ (aa L ρ)))
  |some (.fr c)=>some (.nx (kp (bN c) ρ (aa L ρ)))
  |some (.xc d)=>some (.xc (aa L ρ) d)
  |none=>none
 |.ret e L,ρ=>match (match e with|.var i=>(match ρ[i]? with|some (.owx c)=>some c|_=>none)|_=>none) with
  |some c=>some (.fr c)
  |none=>match evV G cl e (aa L ρ) with
   |some (.ok d)=>some (.rt d)
   |some (.fr c)=>some (.fr c)
   |some (.xc d)=>some (.xc (aa L ρ) d)
   |none=>none
 |.CV,_=>some (.rt .non)
 |.ife c L a b,ρ=>match evT G cl c (aa L ρ) with
  |some true=>run a ρ
  |some false=>run b ρ
  |none=>none
 |.for t it L b,ρ=>match evI G cl it (aa L ρ) with
  |some its=>forL t (run b) its (aa L ρ)
  |none=>none
 |.whl c L b,ρ=>ie (fun ρ=>evT G cl c (aa L ρ)) (run b) (turns ρ) ρ
 |.rse x es L,ρ=>match oS G x es with
  |some C=>some (.xc (aa L ρ) (.exc C []))
  |none=>none
 |.try b x i h,ρ=>match run b ρ with
  |some (.xc ρ1 (.exc C fs))=>(match G.glob x with
   |some (.cl CE)=>if G.sub C CE=some true∧i<ρ1.length then (match run h (ρ1.set i (.val (.exc C fs))) with
    |some (.nx ρ2)=>some (.nx (ρ2.set i .nil))
    |some (.xc _ _)=>none
    |o=>o) else none
   |_=>none)
  |some (.xc _ _)=>none
  |o=>o
 |.pass,ρ=>some (.nx ρ)
 |.fgt L,ρ=>some (.nx (jL L ρ))
 |.mov j i,ρ=>match ρ[i]? with
  |some (.owx c)=>if i≠j∧j<ρ.length then some (.nx ((ρ.set i .any).set j (.owx c))) else none
  |some (.val d)=>if j<ρ.length then some (.nx (ρ.set j (.val d))) else none
  |_=>none
 |.ext i e L,ρ=>match evV G cl e (aa L ρ) with
  |some (.fr (.l ys))=>match (kp (aW ys) ρ (aa L ρ))[i]? with
   |some (.owx (.l xs))=>if xs.length+ys.length<=sizeLine then some (.nx ((kp (aW ys) ρ (aa L ρ)).set i (.owx (.l (xs++ys))))) else none
   |_=>none
  |_=>none
noncomputable def run:List CS'->Rho->Option Oc
 |[],ρ=>some (.nx ρ)
 |s::r,ρ=>match af s ρ with
  |some (.nx ρ')=>run r ρ'
  |o=>o
end
noncomputable def dF (C:Option Addr) (d:Def) (ds:List D):Option Rs:=
 match C with
 |none=>if ds.length=d.ao∧d.init=false then
   match run G cl d.body (ds.map .val++List.replicate (d.slots - ds.length) .nil) with
   |some (.nx _)=>some (.ok .non)
   |some (.rt x)=>some (.ok x)
   |some (.fr c)=>some (.fr c)
   |some (.xc _ x)=>some (.xc x)
   |none=>none
  else none
 |some C=>if ds.length+1=d.ao∧d.init=true then
   match run G cl d.body (.new C 0 0 []::(ds.map .val++List.replicate (d.slots - (ds.length+1)) .nil)) with
   |some (.nx ρ)=>(match (ρ[(0:Nat)]?:Option Sl) with|some (.new C' _ _ fs)=>if C'=C then some (.ok (.ins C fs)) else none|_=>none)
   |some (.xc _ x)=>some (.xc x)
   |_=>none
  else none
end
noncomputable def kal (G:Prg):Nat->Str->List D->Option Rs
 |0,_,_=>none
 |n+1,k,ds=>match G.defs k with
  |some (C,d)=>dF G (kal G n) C d ds
  |none=>none
set_option autoImplicit true
set_option relaxedAutoImplicit true
mutual
noncomputable def fvE:CE->List Nat
 |.var i=>[i]
 |.bin _ a b=>fvE a++fvE b|.neg a=>fvE a|.nt a=>fvE a|.and a b=>fvE a++fvE b|.or a b=>fvE a++fvE b
 |.cmp _ a b=>fvE a++fvE b|.isN a=>fvE a|.oF a=>fvE a|.chn a b c=>fvE a++fvE b++fvE c|.ife a b c=>fvE a++fvE b++fvE c
 |.tup es=>fvA es|.lst es=>fvA es|.ix a b=>fvE a++fvE b|.sl a b c=>fvE a++fvE b++fvE c
 |.fld a _=>fvE a|.blt _ es=>fvA es|.fn _ es=>fvA es|.mth o _ es=>fvE o++fvA es
 |.comp _ cap _ it _ _=>cap++fvE it
 |.emit e=>fvE e|.loop _ _ _ _=>[]|.nop=>[]|.lit _=>[]|.gl _=>[]|.jG=>[]
 |.bV _ cap _ it _ _=>cap++fvE it
noncomputable def fvA:List CE->List Nat
 |[]=>[]
 |e::es=>fvE e++fvA es
end
noncomputable def uniq:List Nat->List Nat
 |[]=>[]
 |x::xs=>if xs.contains x then uniq xs else x::uniq xs
noncomputable def fvU (e:CE):List Nat:=uniq (fvE e)
noncomputable def idx (N:List Str) (x:Str):Option Nat:=N.findIdx? (·==x)
noncomputable def iV (sc:Scope) (x:Str):Bool:=match sc.names.lookup x with
 |some .local=>true|some .cell=>true|some .free=>true|_=>false
noncomputable def ot (sc:Scope) (x:Str):Bool:=match sc.names.lookup x with
 |some .local=>true|some .cell=>true|_=>false
noncomputable def glB (sc:Scope) (x:Str):Bool:=match sc.names.lookup x with
 |some .globalImplicit=>true|_=>false
noncomputable def bT (x:Str):Bool:=!(x==("__debug__":Str))&&!(x==("__classdict__":Str))&&!(x==("__name__":Str))
noncomputable def qz (sc:Scope) (N:List Str) (x:Str):Option CE:=
 if bT x then
  match idx N x with
  |some i=>if iV sc x then some (.var i) else none
  |none=>if glB sc x then some (.gl x) else none
 else none
noncomputable def opC:Operator->Option BO
 |.Add=>some .add|.Sub=>some .sub|.Mult=>some .mul|.Mod=>some .mod|.FloorDiv=>some .fdiv|.Pow=>some .pow|.RShift=>some .shr|_=>none
noncomputable def coC:CmpOp->Option CO
 |.Lt=>some .lt|.LtE=>some .le|.Gt=>some .gt|.GtE=>some .ge|.Eq=>some .eq|.NotEq=>some .ne|.Is=>some .is|.IsNot=>some .isn|.In=>some .inn|.NotIn=>some .nin
noncomputable def bnC (x:Str):Option BN:=
 if x="len" then some .len else if x="sum" then some .sum else if x="all" then some .all else if x="any" then some .any
 else if x="abs" then some .abs else if x="int" then some .int else if x="tuple" then some .tuple
 else if x="list" then some .list else if x="dict" then some .dict else if x="min" then some .min else if x="max" then some .max
 else if x="isinstance" then some .isin else if x="range" then some .range else if x="zip" then some .zip else if x="enumerate" then some .enum
 else none
noncomputable def iQ:Expr->Bool
 |.Call (.Name _ _) [] [] _=>false
 |_=>true
noncomputable def bB:Expr->Bool
 |.Starred _ _=>false
 |_=>true
noncomputable def rA:Expr->Bool
 |.Slice _ _ _ _=>false
 |_=>true
noncomputable def eN:Expr->Bool
 |.Set _ _ _=>false
 |_=>true
noncomputable def fv (tg:Expr):Expr->Bool
 |.Set _ _ _=>false
 |.Call (.Name x _) _ _ _=>(!(x==("zip":Str))&&!(x==("enumerate":Str)))||(match tg with|.Tuple _ _ _=>true|_=>false)
 |_=>true
noncomputable def jc (sc:Scope):Expr->Expr->Bool
 |.Tuple ts _ _,.Tuple vs _ _=>(ts.filterMap fun
  |.Name id pos=>if sc.names.lookup id==some .local&&pos.line==(ts.head?.map (·.pos.line)).getD 0 then some id else none
  |_=>none).length !=ts.length&&(ts.length==2||ts.length==3)&&vs.length==ts.length&&!(vs.any fun|.Starred ..=>true|_=>false)
 |.Tuple _ _ _,_=>true
 |.Name _ _,_=>true
 |_,_=>false
noncomputable def tw:Expr->Bool
 |.Tuple _ _ _=>true
 |_=>false
noncomputable def rR:Const->Option CE
 |.int i=>some (.lit (.int i))|.bool b=>some (.lit (.bl b))|.none=>some (.lit .non)|.str s=>some (.lit (.str s))|_=>none
noncomputable def ownOf (scope:Scope):List Str:=(scope.names.filter fun p=>(p.2==.local||p.2==.cell)&&!(p.1==(".0":Str))).map (·.1)
noncomputable def aU (scope:Scope) (N:List Str):List (Str×Nat):=scope.names.filterMap fun p=>if p.2==.free then (idx N p.1).map fun i=>(p.1,i) else none
mutual
noncomputable def cTg (sc:Scope) (N:List Str):Nat->Expr->Option Tg
 |0,_=>none
 |n+1,e=>match e with
  |.Name x _=>if bT x&&ot sc x then (idx N x).map .nm else none
  |.Tuple es _ _=>if es.all bB then (eY sc N n es).map .tp else none
  |_=>none
noncomputable def eY (sc:Scope) (N:List Str):Nat->List Expr->Option (List Tg)
 |0,_=>none
 |n+1,es=>match es with
  |[]=>some []
  |e::r=>match cTg sc N n e,eY sc N n r with
   |some t,some ts=>some (t::ts)
   |_,_=>none
end
noncomputable def n8 (op:CmpOp) (b:Expr):Option Bool:=match b with
 |.Constant c _ _=>match c with
  |.none=>match op with
   |.Is=>some true
   |.IsNot=>some false
   |_=>none
  |_=>none
 |_=>none
noncomputable def lel:List CmpOp->Bool
 |[a,b]=>match a with
  |.LtE=>match b with
   |.Lt=>true
   |_=>false
  |_=>false
 |_=>false
mutual
noncomputable def cE:Nat->Scope->List Str->Expr->Option CE
 |0,_,_,_=>none
 |n+1,sc,N,e=>match e with
  |.Constant c _ _=>rR c
  |.Name x _=>qz sc N x
  |.BinOp a op b _=>match opC op,cE n sc N a,cE n sc N b with
   |some o,some x,some y=>some (.bin o x y)
   |_,_,_=>none
  |.UnaryOp op a _=>match op with
   |.USub=>(cE n sc N a).map .neg
   |.Not=>(cE n sc N a).map .nt
   |_=>none
  |.BoolOp op es _=>match es with
   |a::b::r=>cB n sc N op (a::b::r)
   |_=>none
  |.Compare a ops bs _=>match bs with
   |[b]=>match ops with
    |[op]=>match n8 op b with
     |some true=>(cE n sc N a).map .isN
     |some false=>(cE n sc N a).map .oF
     |none=>match coC op,cE n sc N a,cE n sc N b with
      |some o,some x,some y=>if eN b then some (.cmp o x y) else none
      |_,_,_=>none
    |_=>none
   |[b,c]=>if lel ops then match cE n sc N a,cE n sc N b,cE n sc N c with
     |some x,some y,some z=>if eN b&&eN c then some (.chn x y z) else none
     |_,_,_=>none
    else none
   |_=>none
  |.IfExp c a b _=>match cE n sc N c,cE n sc N a,cE n sc N b with
   |some z,some x,some y=>some (.ife z x y)
   |_,_,_=>none
  |.Tuple es _ _=>(cA n sc N es).map .tup
  |.List es _=>(cA n sc N es).map .lst
  |.Dict ks vs _=>match ks with
   |[]=>match vs with
    |[]=>some .jG
    |_=>none
   |_=>none
  |.Subscript a b _=>match b with
   |.Slice lo hi st _=>match st with
    |none=>match cE n sc N a,cO n sc N lo,cO n sc N hi with
     |some x,some y,some z=>some (.sl x y z)
     |_,_,_=>none
    |_=>none
   |b=>match cE n sc N a,cE n sc N b with
    |some x,some y=>if rA b then some (.ix x y) else none
    |_,_=>none
  |.Attribute a f _=>if iQ a then (cE n sc N a).map fun x=>.fld x f else none
  |.Call f args ks cp=>match ks with
   |[]=>match f with
    |.Name x _=>if bT x&&glB sc x&&(idx N x).isNone then
     match cA n sc N args with
     |some es=>match bnC x with
      |some b=>some (.blt b es)
      |none=>some (.fn x es)
     |none=>none
     else none
    |.Attribute o m ap=>if iQ o&&decide (args.length<30)&&(ap.endLine==cp.line) then
     match cE n sc N o,cA n sc N args with
     |some x,some es=>some (.mth x m es)
     |_,_=>none
     else none
    |_=>none
   |_=>none
  |.ListComp elt gs scope _=>match gs with
   |⟨tg,it,ifs,0⟩::gens=>
    if lg scope (ownOf scope) (aU scope N) sc N&&fv tg it then
     match cTg (dY scope sc) (ownOf scope++(aU scope N).map (·.1)) n tg,cE n sc N it,cIf n (dY scope sc) (ownOf scope++(aU scope N).map (·.1)) ifs,cG n (dY scope sc) (ownOf scope++(aU scope N).map (·.1)) gens elt with
     |some t,some i,some c,some b=>some (.comp (ownOf scope).length ((aU scope N).map (·.2)) t i c b)
     |_,_,_,_=>none
    else none
   |_=>none
  |.DictComp kx vx gs scope _=>match gs with
   |[⟨tg,it,[],0⟩]=>
    if lg scope (ownOf scope) (aU scope N) sc N&&fv tg it then
     match cTg (dY scope sc) (ownOf scope++(aU scope N).map (·.1)) n tg,cE n sc N it,cE n (dY scope sc) (ownOf scope++(aU scope N).map (·.1)) kx,cE n (dY scope sc) (ownOf scope++(aU scope N).map (·.1)) vx with
     |some t,some i,some k,some v=>some (.bV (ownOf scope).length ((aU scope N).map (·.2)) t i k v)
     |_,_,_,_=>none
    else none
   |_=>none
  |_=>none
noncomputable def cA:Nat->Scope->List Str->List Expr->Option (List CE)
 |0,_,_,_=>none
 |n+1,sc,N,es=>match es with
  |[]=>some []
  |e::r=>match cE n sc N e,cA n sc N r with
   |some x,some xs=>some (x::xs)
   |_,_=>none
noncomputable def cB:Nat->Scope->List Str->BoolOp->List Expr->Option CE
 |0,_,_,_,_=>none
 |n+1,sc,N,op,es=>match es with
  |[]=>none
  |[e]=>cE n sc N e
  |e::f::r=>match op,cE n sc N e,cB n sc N op (f::r) with
   |.And,some x,some y=>some (.and x y)
   |.Or,some x,some y=>some (.or x y)
   |_,_,_=>none
noncomputable def cO:Nat->Scope->List Str->Option Expr->Option CE
 |0,_,_,_=>none
 |n+1,sc,N,e=>match e with
  |none=>some .nop
  |some e=>cE n sc N e
noncomputable def cIf:Nat->Scope->List Str->List Expr->Option CE
 |0,_,_,_=>none
 |n+1,sc,N,es=>match es with
  |[]=>some (.lit (.bl true))
  |[e]=>cE n sc N e
  |_=>none
noncomputable def cG:Nat->Scope->List Str->List Comprehension->Expr->Option CE
 |0,_,_,_,_=>none
 |n+1,sc,N,gens,elt=>match gens with
  |[]=>(cE n sc N elt).map .emit
  |⟨tg,it,ifs,0⟩::r=>if fv tg it then
    match cTg sc N n tg,cE n sc N it,cIf n sc N ifs,cG n sc N r elt with
    |some t,some i,some c,some b=>some (.loop t i c b)
    |_,_,_,_=>none
   else none
  |_=>none
end
mutual
noncomputable def er1:CS'->CS'
 |.ife c L a b=>.ife c L (erL a) (erL b)
 |.for t it L b=>.for t it L (erL b)
 |.whl c L b=>.whl c L (erL b)
 |.try b x i h=>.try (erL b) x i h
 |.mov j i=>.asg (.nm j) (.var i) [i]
 |s=>s
noncomputable def erL:List CS'->List CS'
 |[]=>[]
 |s::r=>match s with
  |.fgt _=>erL r
  |s=>er1 s::erL r
end
noncomputable def cy:Expr->Bool
 |.ListComp _ _ _ _=>true|.SetComp _ _ _ _=>true|.DictComp _ _ _ _ _=>true
 |_=>false
noncomputable def nmV:Expr->Option (Str×Pos)
 |.Name x p=>some (x,p)
 |_=>none
noncomputable def iU:Expr->Option (Expr×Expr)
 |.Tuple vs _ _=>match vs with
  |[a,b]=>some (a,b)
  |_=>none
 |_=>none
noncomputable def v3 (es:List Expr) (e:Expr):Option ((Str×Pos)×(Str×Pos)×Expr×Expr):=match es with
 |[t1,t2]=>match nmV t1,nmV t2,iU e with
  |some p,some q,some (a,b)=>some (p,q,a,b)
  |_,_,_=>none
 |_=>none
noncomputable def mV (n:Nat) (sc:Scope) (N:List Str) (tg e:Expr):Option CS':=match cTg sc N n tg,cE n sc N e with
 |some t,some ce=>if jc sc tg e&&(!cy e||!tw tg) then some (.asg t ce (fvU ce)) else none
 |_,_=>none
noncomputable def wL (n:Nat) (sc:Scope) (N:List Str) (tg e:Expr):Option CS':=match tg with
 |.Tuple es k p=>match v3 es e with
  |some ((x,px),(y,py),a,b)=>match idx N x,idx N y,cE n sc N a,cE n sc N b with
   |some i,some j,some ca,some cb=>if bT x&&bT y&&(sc.names.lookup x==some .local)&&(sc.names.lookup y==some .local)&&(px.line==py.line)&&!([a,b].all (foldedForSure 8))&&!([a,b].all (constantsAlone 8))
     then some (.par i j ca cb (uniq (fvE ca++fvE cb))) else none
   |_,_,_,_=>none
  |none=>mV n sc N (.Tuple es k p) e
 |.Subscript b k _=>match nmV b with
  |some (x,_)=>match idx N x,cE n sc N k,cE n sc N e with
   |some i,some ck,some ce=>if bT x&&iV sc x&&!cy e then some (.put i ck ce (uniq (fvE ck++fvE ce))) else none
   |_,_,_=>none
  |none=>none
 |.Attribute b f _=>match nmV b with
  |some (x,_)=>match idx N x,cE n sc N e with
   |some 0,some ce=>if bT x&&iV sc x&&!cy e then some (.gN f ce (fvU ce)) else none
   |_,_=>none
  |none=>none
 |tg=>mV n sc N tg e
noncomputable def AF (n:Nat) (sc:Scope) (N:List Str) (ts:List Expr) (e:Expr):Option CS':=match ts with
 |[tg]=>wL n sc N tg e
 |_=>none
noncomputable def wz:Option Expr->Option (Str×List Expr)
 |some e=>match e with
  |.Call f args ks _=>match ks with
   |[]=>match nmV f with
    |some (x,_)=>some (x,args)
    |none=>none
   |_=>none
  |_=>none
 |none=>none
noncomputable def vK:List ExceptHandler->Option (Str×Str×List Stmt)
 |[h]=>match h with
  |.ExceptHandler t nm body _=>match t,nm with
   |some t,some x=>match nmV t with
    |some (c,_)=>some (c,x,body)
    |none=>none
   |_,_=>none
 |_=>none
noncomputable def stV:List Stmt->Option (Str×Str)
 |[s]=>match s with
  |.Assign ts v _=>match ts with
   |[t]=>match nmV t,nmV v with
    |some (y,_),some (x,_)=>some (y,x)
    |_,_=>none
   |_=>none
  |_=>none
 |_=>none
noncomputable def cExp (n:Nat) (sc:Scope) (N:List Str):Expr->Option CS'
 |.Constant (.str _) _ _=>some .pass
 |.Call (.Attribute (.Name x xp) m ap) args [] cp=>
   if m="append" then match idx N x,args with
    |some i,[a]=>if bT x&&iV sc x&&(ap.endLine==cp.line) then (cE n sc N a).map fun ca=>.app i ca (fvU ca) else none
    |_,_=>none
   else if m="clear" then match idx N x,args with
    |some i,[]=>if bT x&&iV sc x&&(ap.endLine==cp.line) then some (.clr i) else none
    |_,_=>none
   else if m="extend" then match idx N x,args with
    |some i,[a]=>if bT x&&iV sc x&&(ap.endLine==cp.line) then (cE n sc N a).map fun ca=>.ext i ca (fvU ca) else none
    |_,_=>none
   else (cE n sc N (.Call (.Attribute (.Name x xp) m ap) args [] cp)).map fun x=>.exp x (fvU x)
 |e=>if !cy e then (cE n sc N e).map fun x=>.exp x (fvU x) else none
mutual
noncomputable def cS1:Nat->Scope->List Str->Stmt->Option CS'
 |0,_,_,_=>none
 |n+1,sc,N,s=>match s with
  |.Pass _=>some .pass
  |.Return o _=>match o with
   |none=>some .CV
   |some e=>(cE n sc N e).map fun x=>.ret x (fvU x)
  |.Assign ts e _=>AF n sc N ts e
  |.Expr e _=>cExp n sc N e
  |.If c a b _=>match cE n sc N c,cS n sc N a,cS n sc N b with
   |some x,some y,some z=>some (.ife x (fvU x) y z)
   |_,_,_=>none
  |.For tg it b els _=>if fv tg it&&els.isEmpty then match cTg sc N n tg,cE n sc N it,cS n sc N b with
   |some t,some x,some y=>some (.for t x (fvU x) y)
   |_,_,_=>none
   else none
  |.While c b els _=>match cE n sc N c,cS n sc N b with
   |some x,some y=>if els.isEmpty then some (.whl x (fvU x) y) else none
   |_,_=>none
  |.Raise ex cause _=>match cause,wz ex with
   |none,some (x,args)=>if bT x&&glB sc x&&(idx N x).isNone then (cA n sc N args).map fun es=>.rse x es (uniq (fvA es)) else none
   |_,_=>none
  |.Try b hs els fin _=>match vK hs with
   |some (c,x,hb)=>match stV hb with
    |some (y,x')=>match cS n sc N b,idx N x,idx N y with
     |some cb,some i,some j=>if bT c&&glB sc c&&(idx N c).isNone&&(sc.names.lookup x==some .local)&&x'==x&&bT x&&bT y&&ot sc y&&els.isEmpty&&fin.isEmpty then some (.try cb c i [.asg (.nm j) (.var i) [i]]) else none
     |_,_,_=>none
    |none=>none
   |none=>none
  |_=>none
noncomputable def cS:Nat->Scope->List Str->List Stmt->Option (List CS')
 |0,_,_,_=>none
 |n+1,sc,N,ss=>match ss with
  |[]=>some []
  |s::r=>match cS1 n sc N s,cS n sc N r with
   |some x,some xs=>some (x::xs)
   |_,_=>none
end
end IN
set_option autoImplicit true
set_option relaxedAutoImplicit true
namespace IN
open PySem PySem.Spec PySem.W L2 CT
open PyProof.Rows hiding St
mutual
theorem beq_eq:∀{a b:PK},PK.beq a b=true->a=b
 |.i n,.i m,h=>by simp [PK.beq] at h;rw [h]
 |.t l,.t r,h=>by simp [PK.beq] at h;rw [pz h]
 |.i _,.t _,h=>by simp [PK.beq] at h
 |.t _,.i _,h=>by simp [PK.beq] at h
theorem pz:∀{a b:List PK},PK.ip a b=true->a=b
 |[],[],_=>rfl
 |x::l,y::r,h=>by simp [PK.ip] at h;rw [beq_eq h.1,pz h.2]
 |[],_::_,h=>by simp [PK.ip] at h
 |_::_,[],h=>by simp [PK.ip] at h
end
mutual
theorem beq_refl:∀(a:PK),PK.beq a a=true
 |.i n=>by simp [PK.beq]
 |.t l=>by simp [PK.beq,lU l]
theorem lU:∀(a:List PK),PK.ip a a=true
 |[]=>rfl
 |x::l=>by simp [PK.ip,beq_refl x,lU l]
end
theorem beq_iff:PK.beq a b=true↔a=b:=⟨beq_eq,fun h=>h▸beq_refl a⟩
theorem du:∀(es:List (PK×D)) (k:PK),look es k=a8 es k
 |[],_=>rfl
 |(q,d)::r,k=>by
  unfold look a8;rw [List.find?_cons]
  by_cases h:q=k
  ·rw [if_pos (beq_iff.mpr h)];simp [h]
  ·rw [if_neg (fun z=>h (beq_iff.mp z))];simp only [h,decide_false];exact du r k
theorem eS (es:List (PK×D)) (k:PK) (v:D):dZ es k v=dG es k v:=by
 unfold dZ dG;rw [du];cases a8 es k with
 |none=>rfl
 |some d=>
  show List.map _ es=List.map _ es;refine List.map_congr_left fun p _=>?_
  by_cases h:p.1=k
  ·rw [if_pos (beq_iff.mpr h),if_pos h]
  ·rw [if_neg (fun z=>h (beq_iff.mp z)),if_neg h]
theorem nq:∀{l:List Int},apart l=true->l.Nodup
 |[],_=>List.nodup_nil
 |x::xs,h=>by
  have h':xs.contains x=false∧apart xs=true:=by simpa [apart] using h
  rw [List.nodup_cons];refine ⟨fun z=>?_,nq h'.2⟩;have:=List.contains_iff_mem.mpr z;rw [h'.1] at this;cases this
mutual
theorem en:∀{d:D} {k:PK},bU d=some k->PK.d k=d
 |.int n,k,h=>by cases h;rfl
 |.tup xs,k,h=>by
  unfold bU at h;split at h
  ·rename_i l e;cases h;show D.tup (PK.dL l)=_;rw [qf e]
  ·cases h
 |.non,_,h=>by cases h
 |.bl _,_,h=>by cases h
 |.str _,_,h=>by cases h
 |.lst _,_,h=>by cases h
 |.ins _ _,_,h=>by cases h
 |.exc _ _,_,h=>by cases h
 |.ty _,_,h=>by cases h
 |.cl _,_,h=>by cases h
 |.dct _,_,h=>by cases h
 |.pdc _,_,h=>by cases h
theorem qf:∀{ds:List D} {l:List PK},g0 ds=some l->PK.dL l=ds
 |[],l,h=>by cases h;rfl
 |d::ds,l,h=>by
  unfold g0 at h;split at h
  ·rename_i k e;split at h
   ·rename_i ks e2;cases h;show PK.d k::PK.dL ks=_;rw [en e,qf e2]
   ·cases h
  ·cases h
end
theorem j9:∀{xs:List D} {bs:List Bool},boolsOf xs=some bs->xs=bs.map .bl
 |[],bs,h=>by cases h;rfl
 |.bl b::r,bs,h=>by
  unfold boolsOf at h;split at h
  ·rename_i l e;cases h;rw [j9 e];rfl
  ·cases h
 |.int _::_,_,h=>by cases h
 |.non::_,_,h=>by cases h
 |.str _::_,_,h=>by cases h
 |.tup _::_,_,h=>by cases h
 |.lst _::_,_,h=>by cases h
 |.ins _ _::_,_,h=>by cases h
 |.exc _ _::_,_,h=>by cases h
 |.ty _::_,_,h=>by cases h
 |.cl _::_,_,h=>by cases h
 |.dct _::_,_,h=>by cases h
 |.pdc _::_,_,h=>by cases h
theorem cL (h:ba d=some xs):Sq d xs:=by
 cases d<;>first|(cases h;done)|(cases h;constructor)
theorem zj (h:bO i j=true):jt i j∨j4 i j:=by
 unfold bO at h;simp only [Bool.or_eq_true,Bool.and_eq_true,decide_eq_true_eq] at h;rcases h with (h|h)|h
 ·exact .inl (.inl ⟨by omega,by omega⟩)
 ·exact .inl (.inr ⟨by omega,by omega⟩)
 ·exact .inr h
theorem jf (h:hU j=true): -(2^62)<=j∧j<2^62:=by
 unfold hU at h;simp only [Bool.and_eq_true,decide_eq_true_eq] at h;omega
theorem iu:∀{its out:List D},jB f its=some out->∃outs:List (List D),its.length=outs.length∧out=outs.flatten∧∀(i:Nat) d o,its[i]?=some d->outs[i]?=some o->f d=some o
 |[],out,h=>by cases h;exact ⟨[],rfl,rfl,fun i d o h=>by simp at h⟩
 |x::xs,out,h=>by
  unfold jB at h;split at h
  ·rename_i o1 e1;split at h
   ·rename_i ys e2;cases h;obtain ⟨outs,h1,h2,h3⟩:=iu e2;refine ⟨o1::outs,by simp [h1],by rw [h2];rfl,fun i d o hd ho=>?_⟩;cases i with
    |zero=>simp at hd ho;subst hd ho;exact e1
    |succ i=>exact h3 i d o (by simpa using hd) (by simpa using ho)
   ·cases h
  ·cases h
structure Le (ρ ρ':Rho):Prop where
 len:ρ.length=ρ'.length
 val:∀(i:Nat) (d:D),ρ[i]?=some (.val d)->ρ'[i]?=some (.val d)
 nil:∀(i:Nat),ρ[i]?=some .nil->ρ'[i]?=some .nil
theorem Le.set (l:Le ρ ρ') (k:Nat) (s:Sl):Le (ρ.set k s) (ρ'.set k s):=by
 have key:∀(i:Nat) (y:Sl),(ρ[i]?=some y->ρ'[i]?=some y)->(ρ.set k s)[i]?=some y->(ρ'.set k s)[i]?=some y:=fun i y hy h=>by
  by_cases e:k=i
  ·subst e;have hi:k<ρ.length:=by have:=(FS.mp h).1;simpa using this
   rw [F3 hi] at h;rw [F3 (l.len▸hi)];exact h
  ·rw [F4 e] at h ⊢;exact hy h
 exact ⟨by simpa using l.len,fun i d h=>key i _ (l.val i d) h,fun i h=>key i _ (l.nil i) h⟩
theorem wH (h:aJ o=some d):o=some (.val d):=by
 cases o with
 |none=>cases h
 |some s=>cases s<;>first|(cases h;done)|(cases h;rfl)
theorem tm (h:isNil o=true):o=some .nil:=by
 cases o with
 |none=>cases h
 |some s=>cases s<;>first|(cases h;done)|rfl
theorem u0 {ρ ρ':Rho} (l:Le ρ ρ') {i:Nat} {d:D} (h:cq ρ[i]?=.val d):cq ρ'[i]?=.val d:=by
 cases q:ρ[i]? with
 |none=>rw [q] at h;cases h
 |some s=>
  rw [q] at h;cases s with
  |val d'=>cases h;rw [l.val i d q];rfl
  |nil=>cases h
  |any=>cases h
  |owx c=>cases h
  |new C x dx fs=>cases h
theorem uY {ρ ρ':Rho} (l:Le ρ ρ') {i:Nat} (h:cq ρ[i]?=.nil):cq ρ'[i]?=.nil:=by
 cases q:ρ[i]? with
 |none=>rw [q] at h;cases h
 |some s=>
  rw [q] at h;cases s with
  |val d'=>cases h
  |nil=>rw [l.nil i q];rfl
  |any=>cases h
  |owx c=>cases h
  |new C x dx fs=>cases h
theorem Le.cap {ρ ρ':Rho} (l:Le ρ ρ') (own:List Str) (cap:List (Str×Nat)):Le (dA own.length (cap.map (·.2)) ρ) (cR own cap ρ'):=by
 have e1:dA own.length (cap.map (·.2)) ρ=own.map (fun _=>Sl.nil)++cap.map fun p=>cq ρ[p.2]?:=by
  unfold dA;rw [List.map_map,←List.map_const' (l:=own) (b:=Sl.nil)];rfl
 rw [e1];have go:∀(i:Nat) (y:Sl),(∀j,cq ρ[j]?=y->cq ρ'[j]?=y)->(own.map (fun _=>Sl.nil)++cap.map fun p=>cq ρ[p.2]?)[i]?=some y->(cR own cap ρ')[i]?=some y:=fun i y hy h=>by
  unfold cR
  by_cases hi:i<own.length
  ·rw [List.getElem?_append_left (by simpa using hi)] at h ⊢;exact h
  ·have hi':own.length<=i:=Nat.le_of_not_lt hi;rw [List.getElem?_append_right (by simpa using hi'),List.getElem?_map,F6] at h ⊢;cases q:cap[i - own.length]? with
   |none=>rw [q] at h;cases h
   |some p=>
    rw [q] at h;exact congrArg some (hy p.2 (Gi h))
 exact ⟨by simp [cR],fun i d h=>go i _ (fun j=>u0 l) h,fun i h=>go i _ (fun j=>uY l) h⟩
theorem aN (h:bB e=true):noStar e=true:=by cases e<;>first|rfl|cases h
theorem fk (h:fv tg it=true) (env:Env) (x:Value):foldedSetIterable it env x=pure x:=by
 cases it<;>first|rfl|cases h
theorem k7 (h:iQ o=true):attributeBase o f env m=m:=by
 unfold attributeBase;cases o with
 |Call fn args kws pos=>
  cases fn with
  |Name x p=>
   cases args with
   |nil=>cases kws with
    |nil=>cases h
    |cons=>rfl
   |cons=>rfl
  |_=>rfl
 |_=>rfl
theorem lG (h:rA b=true):qu b:=by
 intro o i;cases b<;>first|rfl|cases h
theorem lB (h:eN b=true):behindInMarks op b=false:=by
 cases b<;>first|rfl|cases h
theorem vU (h:eN c=true):lastMarks [op1,op2] [b,c]=false:=by
 show behindInMarks op2 c=false;exact lB h
theorem fQ (h:∀e∈es,bB e=true):(backTo pos (starEach es env)).any (·.1)=false:=by
 have go:∀es:List Expr,(∀e∈es,bB e=true)->∀p∈starEach es env,p.1=false:=by
  intro es
  induction es with
  |nil=>intro _ p hp;cases hp
  |cons e es ih=>
   intro h p hp;rw [bF (aN (h e Fa))] at hp;rcases Fr.mp hp with z|z
   ·rw [z]
   ·exact ih (fun e he=>h e (EQ _ he)) p z
 rw [List.any_eq_false];intro p hp;unfold backTo at hp;obtain ⟨q,hq,rfl⟩:=FB.mp hp;have:=go es h q hq;simp [this]
theorem fP (h:∀e∈es,bB e=true):(backTo pos (starEach es env)).all (fun x=>!x.1)=true:=by
 have:=fQ (env:=env) (pos:=pos) h;rw [F7];intro p hp;rw [List.any_eq_false] at this;have:=this p hp;simpa using this
theorem r9 (hb:iQ o=true) (hs:∀e∈args,bB e=true) (hl:args.length<30) (hp:(ap.endLine==cp.line)=true):
  eval (.Call (.Attribute o m ap) args [] cp) env=(do
   let ov←eval o env
   standAt ap.atName
   let (f,first)←holding [ov] (getMethod ov m (do return (←importBound o env).getD true))
   callWith cp f first (backTo cp (starEach args env)) (backToKw cp (keywordEach [] env))):=by
 have few:methodCallForm (args.length+([]:List Keyword).length) (backTo cp (starEach args env)) (backToKw cp (keywordEach [] env))=true:=by
  unfold methodCallForm;rw [fP hs];simp [keywordEach,backToKw,hl]
 rw [arm_eval_Call];rw [k7 hb];unfold methodCall;rw [few];unfold calleeOf methodCallPos;simp only [if_true,hp,Bool.not_true,Bool.false_or];rfl
set_option autoImplicit true
set_option relaxedAutoImplicit true
noncomputable def tv:Tag->Value
 |.ty n=>.type n|.cl C=>.ref C|.xc C=>.ref C
structure Lk (K:Frag) (G:Prg) (key:Str) (C:Option Addr) (d:Def) (f:Addr) (fd:FuncData) (ps:List Str):Prop where
 df:G.defs key=some (C,d)
 bind:Binds K fd ps []
 kp:keepIn K (.ref f)=true
 ex:∃x qual st N,Fun K x qual st f fd∧bP N ps (aj st)∧cS 60 (aj st) N (a7 st)=some (erL d.body)∧d.slots=N.length∧d.ao=ps.length
 ini:d.init=C.isSome
structure Xc (P:Program) (w:World) (K:Frag) (mg:Str->Option Value) (base:Heap) (x:Str) (C:Addr) (fs:List Str):Prop where
 mg_:mg x=some (.ref C)
 cl:eC K C
 ty:typeIn K (.ref C)=some (.type "type")
 zero:fs=[]->excIn K C bmV "ValueError.__new__"=true∧keepIn K (.ref C)=true
structure Row (P:Program) (w:World) (K:Frag) (mg:Str->Option Value) (base:Heap) (G:Prg):Prop where
 blt:∀x b,bnC x=some b->mg x=none
 glob:∀(X:Cx),X.K=K->X.mg=mg->∀x d,G.glob x=some d->bT x=true->Gl X x->∀ρ pos,DE X ρ (.Name x pos) d
 xh:∀x C,G.glob x=some (.cl C)->mg x=some (.ref C)
 kit:∀t u q,G.kit t u=some q->kitOne K (tv t) (tv u)=some q∧(∀C,t=.cl C->Isi K C)∧(∀C,t=.xc C->jz K C)
 fn:∀x key,G.fn x=some key->∃d f fd ps,mg x=some (.ref f)∧Lk K G key none d f fd ps
 ini:∀x C key,G.ini x=some (C,key)->∃d f fd ps,mg x=some (.ref C)∧Mk K C f∧Lk K G key (some C) d f fd ps
 mth:∀C m key,G.mth C m=some key->∃d f fd ps,Meth K C m f∧Cls K C∧Lk K G key none d f fd ps
 fok:∀C f,G.fok C f=true->Cls K C∧b5 K C f
 xok:∀C f,G.xok C f=true->eC K C∧b5 K C f
 exc:∀x C fs,G.exc x=some (C,fs)->Xc P w K mg base x C fs
 sub:∀C E b,G.sub C E=some b->mroIn K C (.ref E)=some b∧nj K E
noncomputable def prR (cl:Str->List D->Option Rs) (key:Str) (ds:List D):Res->Prop
 |.ok d=>∃r,cl key ds=some r∧r.val=some d
 |.xc d=>cl key ds=some (.xc d)
noncomputable def prF (cl:Str->List D->Option Rs) (key:Str) (ds:List D) (c:Ow):Prop:=cl key ds=some (.fr c)
noncomputable def prI (cl:Str->List D->Option Rs) (C:Addr) (key:Str) (ds:List D):As->Prop
 |.ok fs=>cl key ds=some (.ok (.ins C fs))
 |.xc d=>cl key ds=some (.xc d)
structure Calls (P:Program) (w:World) (K:Frag) (mg:Str->Option Value) (base:Heap) (G:Prg) (k:Nat) (cl:Str->List D->Option Rs):Prop where
 fn:∀key d f fd ps,Lk K G key none d f fd ps->aG P w K mg base (CXA P w) k f fd ps (spR K (prR cl key))
 fr:∀key d f fd ps,Lk K G key none d f fd ps->aG P w K mg base CX0 k f fd ps (lO K (prF cl key))
 ini:∀key C d f fd ps,Lk K G key (some C) d f fd ps->aG P w K mg base (CXA P w) k f fd ps (lP K C (prI cl C key))
 insI:∀key C d f fd ps,Lk K G key (some C) d f fd ps->∀ds r,cl key ds=some r->(∃fs,r=.ok (.ins C fs))∨∃d,r=.xc d
structure XE (ca:Bool) (P:Program) (wd:World) (K:Frag) (mg:Str->Option Value) (base:Heap) (X:Cx) (sc:Scope) (N:List Str) (w k:Nat):Prop where
 p_:X.prog=P
 w_:X.w=wd
 K_:X.K=K
 mg_:X.mg=mg
 gB:X.base=base
 sc_:X.env.scope=sc
 N_:X.N=N
 nd:N.Nodup
 mW:ca=true->X.calm=true
 m5:ca=true->aE k X.A
 units:X.A.units+64<cLine
 nox:∀e s,¬X.xe e s
 fn:∀(i:Nat) (x:Str),i<w->N[i]?=some x->X.fn x=true
section
variable {ca:Bool} {P:Program} {wd:World} {K:Frag} {mg:Str->Option Value} {base:Heap} {X:Cx} {sc:Scope} {N:List Str} {w k:Nat} {G:Prg} {cl:Str->List D->Option Rs} {ρ:Rho} {e:Expr} {ce:CE} {d:D}
theorem XE.calm (x:XE true P wd K mg base X sc N w k):X.calm=true:=x.mW rfl
theorem XE.room (x:XE true P wd K mg base X sc N w k):aE k X.A:=x.m5 rfl
theorem XE.gl (x:XE ca P wd K mg base X sc N w k) (h:glB sc n=true):Gl X n:=by
 show X.env.scope.names.lookup n=_;rw [x.sc_];unfold glB at h;split at h
 ·assumption
 ·cases h
theorem XE.vis (x:XE ca P wd K mg base X sc N w k) (h:iV sc n=true):Vis X.env.scope n:=by
 rw [x.sc_];unfold iV at h;split at h
 ·exact .inl (by assumption)
 ·exact .inr (.inl (by assumption))
 ·exact .inr (.inr (by assumption))
 ·cases h
theorem XE.loc (x:XE ca P wd K mg base X sc N w k) (h:ot sc n=true):L2.Loc X.env.scope n:=by
 rw [x.sc_];unfold ot at h;split at h
 ·exact .inl (by assumption)
 ·exact .inr (by assumption)
 ·cases h
theorem XE.at (x:XE ca P wd K mg base X sc N w k) (h:idx N n=some i):X.N[i]?=some n:=by
 rw [x.N_];unfold idx at h;obtain ⟨hi,h1,_⟩:=List.findIdx?_eq_some_iff_getElem.mp h;rw [List.getElem?_eq_getElem hi];exact congrArg some (by simpa using h1)
theorem cT (h:bT n=true):(n==("__debug__":Str))=false∧(n==("__classdict__":Str))=false∧n≠"__name__":=by
 unfold bT at h;simp only [Bool.and_eq_true,Bool.not_eq_true'] at h;exact ⟨h.1.1,h.1.2,fun z=>by rw [z] at h;exact absurd h.2 (by decide)⟩
structure OkE (G:Prg) (cl:Str->List D->Option Rs) (X:Cx) (e:Expr) (ce:CE):Prop where
 v:∀{ρ ρ' d},Le ρ ρ'->ev G cl ce ρ=some d->DE X ρ' e d
 t:∀{ρ ρ' b},Le ρ ρ'->evT G cl ce ρ=some b->DT X ρ' e b
 i:∀{ρ ρ' its tg},Le ρ ρ'->fv tg e=true->evI G cl ce ρ=some its->DI X tg ρ' e its
 c:∀{ρ ρ' r},cy e=true->Le ρ ρ'->evV G cl ce ρ=some r->∃c,r=.fr c∧DCx X ρ' e c
 vr:∀i,ce=.var i->∃y q,e=.Name y q∧X.N[i]?=some y∧Vis X.env.scope y∧(y==("__debug__":Str))=false∧(y==("__classdict__":Str))=false
 ro:∀i,ce=.var i->∀ρ c pos,ρ[i]?=some (.owx c)->DS X ρ (.Return (some e) pos) (.rfx c)
 w:∀{ρ ρ' r},Le ρ ρ'->evV G cl ce ρ=some r->(∀d,r.val=some d->DE X ρ' e d)∧(∀c,r=.fr c->DFx X ρ' e c)∧(∀d,r=.xc d->DEX X ρ' e d)
theorem OkE.of (hv:∀{ρ ρ' d},Le ρ ρ'->ev G cl ce ρ=some d->DE X ρ' e d) (ht:∀{ρ ρ' b},Le ρ ρ'->evT G cl ce ρ=some b->DT X ρ' e b)
  (hi:∀{ρ ρ' its tg},Le ρ ρ'->fv tg e=true->evI G cl ce ρ=some its->DI X tg ρ' e its) (hc:cy e=false)
  (hw:∀ρ,evV G cl ce ρ=match ev G cl ce ρ with|some d=>some (.ok d)|none=>none) (hro:∀i,ce=.var i->∀ρ c pos,ρ[i]?=some (.owx c)->DS X ρ (.Return (some e) pos) (.rfx c):=by intro i z;cases z) (hvr:∀i,ce=.var i->∃y q,e=.Name y q∧X.N[i]?=some y∧Vis X.env.scope y∧(y==("__debug__":Str))=false∧(y==("__classdict__":Str))=false:=by intro i z;cases z):OkE G cl X e ce:=by
 refine ⟨hv,ht,hi,fun z=>(by rw [hc] at z;cases z),hvr,hro,fun {ρ ρ' r} le h=>?_⟩;rw [hw] at h;split at h
 ·rename_i d0 q;cases h;exact ⟨fun d hd=>by cases hd;exact hv le q,(by intro c z;cases z),by intro d z;cases z⟩
 ·cases h
theorem ke (h:DE X ρ e d) (hi:itD d=some its):DI X tg ρ e its:=by
 cases d<;>first|(cases hi;done)|(cases hi;exact sA h)|(cases hi;exact sE h)|(cases hi;exact Bc h)
noncomputable def opO:BO->Operator
 |.add=>.Add|.sub=>.Sub|.mul=>.Mult|.mod=>.Mod|.fdiv=>.FloorDiv|.pow=>.Pow|.shr=>.RShift
theorem B_ (ho:opC op=some o):op=opO o:=by
 cases op<;>first|(cases ho;done)|(cases ho;rfl)
noncomputable def coO:CO->CmpOp
 |.lt=>.Lt|.le=>.LtE|.gt=>.Gt|.ge=>.GtE|.eq=>.Eq|.ne=>.NotEq|.is=>.Is|.isn=>.IsNot|.inn=>.In|.nin=>.NotIn
theorem se (ho:coC op=some o):op=coO o:=by
 cases op<;>(cases ho;rfl)
theorem fq {c:Prop} [Decidable c] (h:(if c then some x else none)=some y):c∧x=y:=by
 by_cases z:c
 ·rw [if_pos z] at h;exact ⟨z,Gi h⟩
 ·rw [if_neg z] at h;cases h
theorem km (h:n6 f x=some r):∃i,x=.int i∧f i=some r:=by
 cases x<;>first|exact ⟨_,rfl,h⟩|cases h
theorem De (h:tupK f x=some r):∃i,x=.tup i∧f i=some r:=by
 cases x<;>first|exact ⟨_,rfl,h⟩|cases h
theorem BW (h:lstK f x=some r):∃i,x=.lst i∧f i=some r:=by
 cases x<;>first|exact ⟨_,rfl,h⟩|cases h
theorem x9 (ha:DE X ρ a (.int i)) (hb:DE X ρ b (.int j)) (h:binI o i j=some d):DE X ρ (.BinOp a (opO o) b pos) d:=by
 cases o with
 |add=>cases h;exact AU ha hb
 |sub=>cases h;exact A9 ha hb
 |mul=>obtain ⟨hm,rfl⟩:=fq h;exact (zj hm).elim (fun z=>A4 z ha hb) fun z=>yy z ha hb
 |mod=>obtain ⟨hm,rfl⟩:=fq h;exact A3 hm ha hb
 |fdiv=>obtain ⟨hm,rfl⟩:=fq h;exact yr (show 0<_∧_<_ by omega) ha hb
 |pow=>
  cases h
 |shr=>
  obtain ⟨hj,rfl⟩:=fq h;exact dC Ci (fun x y H S Q rx ry dm k=>⟨_,_,rx.bh,ry.bh,hj,k _ H Ext.refl (.int _)⟩) ha hb
theorem AB (ho:opC op=some o) (ha:DE X ρ a x) (hb:DE X ρ b y) (h:eW o x y=some d):DE X ρ (.BinOp a op b pos) d:=by
 rw [B_ ho];cases x with
 |int i=>obtain ⟨j,rfl,h⟩:=km h;exact x9 ha hb h
 |tup xs=>cases o with
  |add=>obtain ⟨ys,rfl,h⟩:=De h;obtain ⟨z,rfl⟩:=fq h;exact yq ha hb z
  |mul=>
   obtain ⟨k,rfl,h⟩:=km h
   match xs,ha,h with
   |[d],ha,h=>obtain ⟨hz,rfl⟩:=fq h;exact yB ha hb hz.1 (by omega)
  |_=>cases h
 |lst xs=>cases o with
  |add=>obtain ⟨ys,rfl,h⟩:=BW h;obtain ⟨z,rfl⟩:=fq h;exact yp ha hb z
  |_=>cases h
 |_=>cases h
theorem Bk (h:fb x y=true):bu x=true∧bu y=true∧min (toPy x).depth (toPy y).depth<=64:=by
 unfold fb at h;simp only [Bool.and_eq_true,decide_eq_true_eq] at h;exact ⟨h.1.1,h.1.2,h.2⟩
noncomputable abbrev uH (X:Cx) (b:Expr) (o:CmpOp) (x y:D) (q:Bool):Prop:=∃r,OpR X (compareOp o) r∧R2D X.K r x y (.bl q)∧behindInMarks o b=false
theorem i_ (h:kl f x y=some q):∃i j,x=.int i∧y=.int j∧f i j=q:=by
 obtain ⟨i,rfl,h1⟩:=km h;obtain ⟨j,rfl,h2⟩:=km h1;exact ⟨i,j,rfl,rfl,Gi h2⟩
theorem w9 (h:eqK f x y=some q):(bu x=true∧bu y=true∧min (toPy x).depth (toPy y).depth<=64)∧f (eqD x y)=q:=
 ⟨Bk (fq h).1,(fq h).2⟩
theorem wZ (h:eqI f y x=some q):(∃i j,x=.int i∧y=.int j∧f (decide (i=j))=q)∨eqK f x y=some q:=by
 cases x with
 |int i=>cases y with
  |int j=>exact .inl ⟨i,j,rfl,rfl,Gi h⟩
  |_=>exact .inr h
 |_=>exact .inr h
theorem mU (h:blK f x=some r):∃i,x=.bl i∧f i=some r:=by
 cases x<;>first|exact ⟨_,rfl,h⟩|cases h
theorem ti (hns:eN b=true) (hr:X.A.units+64<cLine)
  (h2:∀es l,(PK.t l).dp<=8->uH X b o (PK.d (.t l)) (.pdc es) (f (look es (.t l)).isSome))
  (h:inK f x y=some q):uH X b o x y q:=by
 cases y with
 |pdc es=>
  dsimp only [inK] at h;cases e:bU x with
  |none=>rw [e] at h;cases h
  |some k=>cases k with
   |i n=>rw [e] at h;cases h
   |t l=>
    rw [e] at h;obtain ⟨hd,rfl⟩:=fq h;rw [←en e];exact h2 _ _ hd
 |_=>cases h
theorem Co (h:Cn f x=some r):∃i,x=.pdc i∧f i=some r:=by
 cases x<;>first|exact ⟨_,rfl,h⟩|cases h
theorem DV (h:eqX y x=some q):(∃es fs,x=.pdc es∧y=.pdc fs∧(es.all fun p=>eqV p.2)=true∧(fs.all fun p=>eqV p.2)=true∧(es.length==fs.length&&eqB es fs)=q)∨eqI id y x=some q:=by
 cases x with
 |pdc es=>
  obtain ⟨fs,rfl,h⟩:=Co h;obtain ⟨h1,h2⟩:=fq h;obtain ⟨o1,o2⟩:=Gg.mp h1;refine .inl ⟨es,fs,rfl,rfl,o1,o2,?_⟩;rw [←h2];unfold nX eqB;simp only [du]<;>rfl
 |_=>exact .inr h
theorem wR (hns:eN b=true) (hr:X.A.units+64<cLine) (h:bf o x y=some q):
  uH X b (coO o) x y q:=by
 cases o with
 |lt=>obtain ⟨i,j,rfl,rfl,rfl⟩:=i_ h;exact ⟨_,xJ,kO,bC _⟩
 |le=>obtain ⟨i,j,rfl,rfl,rfl⟩:=i_ h;exact ⟨_,xI,kO,bC _⟩
 |gt=>obtain ⟨i,j,rfl,rfl,rfl⟩:=i_ h;exact ⟨_,Eg,kO,bC _⟩
 |ge=>obtain ⟨i,j,rfl,rfl,rfl⟩:=i_ h;exact ⟨_,Ef,kO,bC _⟩
 |eq=>
  rcases DV h with ⟨es,fs,rfl,rfl,o1,o2,rfl⟩|h
  ·exact ⟨_,Cc hr o1 o2,(fun x y H S Q rx ry dm k=>⟨S,rx,ry,k _ H Ext.refl (.bl _)⟩),bC _⟩
  rcases wZ h with ⟨i,j,rfl,rfl,rfl⟩|h
  ·have z:=Ep (K:=X.K) (da:=.int i) (db:=.int j) rfl rfl rfl;exact ⟨_,Ee,by simpa using z,bC _⟩
  ·obtain ⟨⟨h1,h2,h3⟩,rfl⟩:=w9 h;exact ⟨_,Cb (hu:=hr) h1 h2 h3,(fun x y H S Q rx ry dm k=>⟨S,rx,ry,k _ H Ext.refl (.bl _)⟩),bC _⟩
 |ne=>
  rcases wZ h with ⟨i,j,rfl,rfl,rfl⟩|h
  ·have z:=Er (K:=X.K) (da:=.int i) (db:=.int j) rfl rfl rfl;exact ⟨_,Eh,by simpa using z,bC _⟩
  ·obtain ⟨⟨h1,h2,h3⟩,rfl⟩:=w9 h;exact ⟨_,Cg (hu:=hr) h1 h2 h3,(fun x y H S Q rx ry dm k=>⟨S,rx,ry,k _ H Ext.refl (.bl _)⟩),bC _⟩
 |is=>obtain ⟨i,rfl,h1⟩:=mU h;obtain ⟨j,rfl,h2⟩:=mU h1;cases h2;exact ⟨_,Cd,(fun x y H S Q rx ry dm k=>⟨_,_,rx.blV,ry.blV,k _ H Ext.refl (.bl _)⟩),bC _⟩
 |isn=>obtain ⟨i,rfl,h1⟩:=mU h;obtain ⟨j,rfl,h2⟩:=mU h1;cases h2;exact ⟨_,tN,(fun x y H S Q rx ry dm k=>⟨_,_,rx.blV,ry.blV,k _ H Ext.refl (.bl _)⟩),bC _⟩
 |inn=>
  exact ti hns hr
   (fun es l hdp=>by rw [du];exact ⟨_,tL (f:=id) (fun _ _=>rfl) (by omega),(fun x y H S Q rx ry dm k=>xi (f:=id) hdp rx ry k),lB hns⟩)
   h
 |nin=>
  exact ti hns hr
   (fun es l hdp=>by rw [du];exact ⟨_,tL (f:=(!·)) (fun _ _=>rfl) (by omega),(fun x y H S Q rx ry dm k=>xi (f:=(!·)) hdp rx ry k),lB hns⟩)
   h
theorem AN (hns:eN b=true) (hr:X.A.units+64<cLine) (ho:coC op=some o) (ha:DE X ρ a x) (hb:DE X ρ b y) (h:bf o x y=some q):DE X ρ (.Compare a [op] [b] pos) (.bl q):=by
 obtain ⟨r,h1,h2,h3⟩:=wR hns hr h;rw [se ho];exact nP h1 h2 ha hb h3
theorem yg (hns:eN b=true) (hr:X.A.units+64<cLine) (ho:coC op=some o) (ha:DE X ρ a x) (hb:DE X ρ b y) (h:bf o x y=some q):DT X ρ (.Compare a [op] [b] pos) q:=by
 obtain ⟨r,h1,h2,h3⟩:=wR hns hr h;rw [se ho];exact nW h1 h2 ha hb h3
theorem D9 (hr:X.A.units+64<cLine) (hs:rA b=true) (ha:DE X ρ a x) (hb:DE X ρ b y) (h:ixD x y=some d):DE X ρ (.Subscript a b pos) d:=by
 unfold ixD at h;split at h
 ·exact A0 ha hb h (lG hs)
 ·exact A1 ha hb h (lG hs)
 ·split at h
  ·rename_i l e;split at h
   ·rename_i hd;rw [du] at h;exact yA (by omega) ha (by rw [en e];exact hb) hd h (lG hs)
   ·cases h
  ·cases h
 ·cases h
theorem EM (R:Row P wd K mg base G) (hd:C9 d=some t) (hq:G.kit t u=some q):TyD K d (tv t):=by
 obtain ⟨_,h1,h2⟩:=R.kit t u q hq;cases d with
 |ins C fs=>cases hd;exact .ins fs (h1 C rfl)
 |exc C fs=>cases hd;exact .exc fs (h2 C rfl)
 |non=>cases hd;exact .non
 |bl b=>cases hd;exact .bl b
 |int i=>cases hd;exact .int i
 |str x=>cases hd;exact .str x
 |tup xs=>cases hd;exact .tup xs
 |lst xs=>cases hd;exact .lst xs
 |dct kvs=>cases hd;exact .dct kvs
 |pdc es=>cases hd;exact .pdc es
 |ty n=>cases hd
 |cl C=>cases hd
theorem BD (R:Row P wd X.K mg base G) (hg:Gl X "isinstance") (hm:X.mg "isinstance"=none) (ha:DA X ρ [a,b] [d,c]) (n1:bB a=true) (n2:bB b=true) (h:bR G d c=some q):DE X ρ (.Call (.Name "isinstance" p) [a,b] [] pos) (.bl q):=by
 have he:=bF (es:=[b]) (env:=X.env) (aN n1);have hpl:=fQ (es:=[b]) (env:=X.env) (pos:=pos) (fun e he=>by rw [FM.mp he];exact n2);unfold bR at h;split at h
 ·split at h
  ·rename_i hab;obtain ⟨rfl,rfl⟩:=hab;split at h
   ·rename_i n hn;cases h;obtain ⟨n',t1,t2⟩:=Fo (K:=X.K) (x:=d) (by rw [hn];exact fun z=>nomatch z);exact yu hg hm t1 (.cons (.ty _) (.cons (.ty _) .nil)) t2 ha he hpl
   ·cases h
  ·cases h
 ·split at h
  ·rename_i t u ht hu;have hk:=(R.kit t u q h).1;have cl:ClD c (tv u):=by
    cases c<;>first|(cases hu;done)|(cases hu;constructor)
   exact AZ hg hm (EM R ht h) cl hk ha he hpl
  ·cases h
end
set_option autoImplicit true
set_option relaxedAutoImplicit true
section
variable {X:Cx} {ρ:Rho} {k:Nat} {f C:Addr} {fd:FuncData} {ps:List Str} {x m:Str} {p pos apos:Pos} {e o:Expr} {es:List Expr} {ds:List D} {d:D}
theorem vl (ho:DE X ρ o (.ins C fs)) (hl:fs.lookup m=none) (c:Cls X.K C) (hm:Meth X.K C m f) (F:aG X.prog X.w X.K X.mg X.base CX0 k f fd ps (lO X.K Pr)) (hr:aE k X.A) (hb:Binds X.K fd ps [])
  (ha:DA X ρ (e::es) ds) (hp:Pr (.ins C fs::ds) cw) (hst:starEach (e::es) X.env=(false,eval e X.env)::starEach es X.env) (hpl:(backTo pos (starEach es X.env)).any (·.1)=false)
  (ht:eval (.Call (.Attribute o m apos) (e::es) [] pos) X.env=(do
   let ov←eval o X.env
   standAt apos.atName
   let (f,first)←holding [ov] (getMethod ov m pl)
   callWith pos f first (backTo pos (starEach (e::es) X.env)) (backToKw pos (keywordEach [] X.env)))):
  DFx X ρ (.Call (.Attribute o m apos) (e::es) [] pos) cw:=PE.weak (qe ho c hm F hr hb .nil gZ ha hst hpl ht) fun σ H Q ⟨S,ve,kk⟩=>⟨S,ve,fun v H1 ex1 r1=>by
   obtain ⟨a,dx,gs,rfl,hh,rf⟩:=r1.iF;exact ⟨a,dx,gs,rfl,hh,rf.none hl,S,ve.ext ex1,fun vs H' ex r=>⟨S,_,cw,((ve.ext ex1).ext ex).dom,.cons (r1.ext (ex.to S)) (gc r),hp,fun a o H'' ex' hn ha r'=>kk a o H'' (ex1.trans (ex.trans ex')) (ex1.back (ex.back hn)) ha r'⟩⟩⟩
theorem sy (ho:DE X ρ o (.ins C fs)) (hl:fs.lookup m=none) (c:Cls X.K C) (hm:Meth X.K C m f) (F:aG X.prog X.w X.K X.mg X.base CX0 k f fd ps (lO X.K Pr)) (hr:aE k X.A) (hb:Binds X.K fd ps [])
  (hp:Pr [.ins C fs] cw)
  (ht:eval (.Call (.Attribute o m apos) [] [] pos) X.env=(do
   let ov←eval o X.env
   standAt apos.atName
   let (f,first)←holding [ov] (getMethod ov m pl)
   callWith pos f first (backTo pos (starEach [] X.env)) (backToKw pos (keywordEach [] X.env)))):
  DFx X ρ (.Call (.Attribute o m apos) [] [] pos) cw:=PE.weak (oJ ho c hm F hr hb .nil gZ ht) fun σ H Q ⟨S,ve,kk⟩=>⟨S,ve,fun v H1 ex1 r1=>by
   obtain ⟨a,dx,gs,rfl,hh,rf⟩:=r1.iF;exact ⟨a,dx,gs,rfl,hh,rf.none hl,S,_,cw,(ve.ext ex1).dom,.cons r1 .nil,hp,fun a us H'' ex' hn ha r'=>kk a us H'' (ex1.trans ex') (ex1.back hn) ha r'⟩⟩
end
noncomputable def nmB:BN->Str
 |.len=>"len"|.sum=>"sum"|.all=>"all"|.any=>"any"|.abs=>"abs"|.int=>"int"|.tuple=>"tuple"|.list=>"list"|.dict=>"dict"|.min=>"min"|.max=>"max"|.isin=>"isinstance"|.range=>"range"|.zip=>"zip"|.enum=>"enumerate"|.str=>"str"|.sorted=>"sorted"
theorem n_ {c:Prop} [Decidable c] {α:Type} {a b:α} {o:Option α} (h:(if c then some a else o)=some b):(c∧a=b)∨o=some b:=by
 by_cases hc:c
 ·rw [if_pos hc] at h;exact .inl ⟨hc,Gi h⟩
 ·rw [if_neg hc] at h;exact .inr h
theorem gF {x:Str} {b:BN} (h:bnC x=some b):x=nmB b:=by
 unfold bnC at h
 repeat (rcases n_ h with ⟨hx,hb⟩|h;(subst hb;exact hx))
 cases h
section
variable {P:Program} {wd:World} {K:Frag} {mg:Str->Option Value} {base:Heap} {X:Cx} {sc:Scope} {N:List Str} {w k kc:Nat} {G:Prg} {cl:Str->List D->Option Rs} {ρ:Rho} {e:Expr} {ce:CE} {d:D} {args:List Expr} {ds:List D} {p pos:Pos} {x:Str} {b:BN}
theorem nr (R:Row P wd K mg base G) (xe:XE true P wd K mg base X sc N w k) (hx:bnC x=some b) (hg:glB sc x=true) (ha:DA X ρ args ds) (hl:args.length=ds.length) (hs:∀e∈args,bB e=true) (h:b8 G b ds=some d):DE X ρ (.Call (.Name x p) args [] pos) d:=by
 have hm:=R.blt x b hx;rw [←xe.mg_] at hm;have g:=xe.gl hg;have hn:=gF hx;have hK:=xe.K_;subst hK;have one:∀{e:Expr},args=[e]->starEach [e] X.env=(false,eval e X.env)::starEach [] X.env:=fun {e} q=>bF (aN (hs e (by rw [q];simp)));cases b with
 |len=>
  dsimp only [nmB] at hn;subst hn
  match ds,args,hl,h with
  |[d0],[e0],_,h=>
   unfold b8 at h;dsimp only at h;split at h
   ·rename_i xs hq;cases h;exact A2 (cL hq) g hm ha (one rfl) rfl
   ·cases h
  |[],_,_,h=>cases h
  |_::_::_,_,_,h=>cases h
 |sum=>cases h
 |all=>
  dsimp only [nmB] at hn;subst hn
  match ds,args,hl,h with
  |[d0],[e0],_,h=>
   unfold b8 at h;dsimp only at h;split at h
   ·rename_i xs hq;split at h
    ·rename_i bs hb;cases h;exact AV xe.calm (by rw [←j9 hb];exact cL hq) g hm ha (one rfl) rfl
    ·cases h
   ·cases h
  |[],_,_,h=>cases h
  |_::_::_,_,_,h=>cases h
 |any=>cases h
 |abs=>
  dsimp only [nmB] at hn;subst hn
  match ds,args,hl,h with
  |[.int i],[e0],_,h=>cases h;exact AS g hm ha (one rfl) rfl
 |int=>cases h
 |tuple=>
  dsimp only [nmB] at hn;subst hn
  match ds,args,hl,h with
  |[d0],[e0],_,h=>
   unfold b8 at h;dsimp only at h;split at h
   ·rename_i xs hq;cases h;exact vf (cL hq) g hm ha (one rfl) rfl
   ·cases h
  |[],_,_,h=>cases h
  |_::_::_,_,_,h=>cases h
 |min=>cases h
 |max=>cases h
 |isin=>
  dsimp only [nmB] at hn;subst hn
  match ds,args,hl,h with
  |[d0,c0],[e0,e1],_,h=>
   unfold b8 at h;dsimp only at h;split at h
   ·rename_i q hq;cases h;exact BD R g hm ha (hs e0 (by simp)) (hs e1 (by simp)) hq
   ·cases h
  |[],_,_,h=>cases h
  |[_],_,_,h=>cases h
  |_::_::_::_,_,_,h=>cases h
 |list=>cases h
 |dict=>cases h
 |range=>cases h
 |zip=>cases h
 |enum=>cases h
 |str=>cases h
 |sorted=>cases h
theorem pI (R:Row P wd K mg base G) (xe:XE true P wd K mg base X sc N w k) (hx:bnC x=some .dict) (hg:glB sc x=true) (ha:DA X ρ [e0] [.pdc es]) (hs:bB e0=true) (h:apart (es.map fun q=>q.1.hs)=true):DFx X ρ (.Call (.Name x p) [e0] [] pos) (.d es):=by
 have hm:=R.blt x _ hx;rw [←xe.mg_] at hm;have hn:=gF hx;dsimp only [nmB] at hn;subst hn;exact vk (nq h) (xe.gl hg) hm ha (bF (aN hs)) rfl
theorem y_ (R:Row P wd K mg base G) (xe:XE true P wd K mg base X sc N w k) (hx:bnC x=some .len) (hg:glB sc x=true) (ha:DA X ρ [e0] [.pdc es]) (hs:bB e0=true):DE X ρ (.Call (.Name x p) [e0] [] pos) (.int es.length):=by
 have hm:=R.blt x _ hx;rw [←xe.mg_] at hm;have hn:=gF hx;dsimp only [nmB] at hn;subst hn;exact yv (xe.gl hg) hm ha (bF (aN hs)) rfl
theorem AD (R:Row P wd K mg base G) (xe:XE true P wd K mg base X sc N w k) (ht:fv tg (.Call (.Name x p) args [] pos)=true) (hx:bnC x=some b) (hg:glB sc x=true) (ha:DA X ρ args ds) (hl:args.length=ds.length) (hs:∀e∈args,bB e=true) (h:cN b ds=some its):
  DI X tg ρ (.Call (.Name x p) args [] pos) its:=by
 have hm:=R.blt x b hx;rw [←xe.mg_] at hm;have g:=xe.gl hg;have hn:=gF hx;have s1:∀{e:Expr},e∈args->starEach [e] X.env=[(false,eval e X.env)]:=fun {e} q=>bF (es:=[]) (aN (hs e q));have s2:∀{e f:Expr},e∈args->f∈args->starEach [e,f] X.env=[(false,eval e X.env),(false,eval f X.env)]:=fun {e f} q r=>by rw [bF (aN (hs e q)),s1 r]
 have s3:∀{e f g:Expr},e∈args->f∈args->g∈args->starEach [e,f,g] X.env=[(false,eval e X.env),(false,eval f X.env),(false,eval g X.env)]:=fun {e f g} q r t=>by rw [bF (aN (hs e q)),s2 r t]
 have tup:(x="zip"∨x="enumerate")->∃elts j tp,tg=.Tuple elts j tp:=fun z=>by
  unfold fv at ht;dsimp only at ht;have:(!(x==("zip":Str))&&!(x==("enumerate":Str)))=false:=by rcases z with z|z<;>(subst z;decide)
  rw [this,Bool.false_or] at ht;cases tg<;>first|(cases ht;done)|exact ⟨_,_,_,rfl⟩
 unfold cN at h;split at h
 ·dsimp only [nmB] at hn;subst hn;split at h
  ·rename_i hj;cases h
   match args,hl with
   |[e0],_=>exact sD g hm ha (jf hj).1 (jf hj).2 (s1 (by simp))
  ·cases h
 ·dsimp only [nmB] at hn;subst hn;split at h
  ·rename_i hj;cases h
   match args,hl with
   |[e0,e1],_=>exact sC g hm ha ⟨(jf (Gg.mp hj).1).1,(jf (Gg.mp hj).1).2,(jf (Gg.mp hj).2).1,(jf (Gg.mp hj).2).2⟩ (s2 (by simp) (by simp)) (s1 (by simp))
  ·cases h
 ·dsimp only [nmB] at hn;subst hn;obtain ⟨elts,j,tp,rfl⟩:=tup (.inl rfl);split at h
  ·rename_i xs ys h1 h2;cases h
   match args,hl with
   |[e0,e1],_=>exact yF g hm (cL h1) (cL h2) ha (s2 (by simp) (by simp)) (s1 (by simp))
  ·cases h
 ·dsimp only [nmB] at hn;subst hn;obtain ⟨elts,j,tp,rfl⟩:=tup (.inl rfl);split at h
  ·rename_i xs ys zs h1 h2 h3;cases h
   match args,hl with
   |[e0,e1,e2],_=>exact yG g hm (cL h1) (cL h2) (cL h3) ha (s3 (by simp) (by simp) (by simp)) (s2 (by simp) (by simp))
  ·cases h
 ·dsimp only [nmB] at hn;subst hn;obtain ⟨elts,j,tp,rfl⟩:=tup (.inr rfl);split at h
  ·rename_i xs h1;cases h
   match args,hl with
   |[e0],_=>exact yE g hm (cL h1) ha (s1 (by simp))
  ·cases h
 ·cases h
theorem D1 (R:Row P wd K mg base G) (C:Calls P wd K mg base G kc cl) (hk:kc+2<=k) (xe:XE true P wd K mg base X sc N w k) (hn:bT x=true) (hg:glB sc x=true) (ha:DA X ρ args ds) (hl:args.length=ds.length) (hs:∀e∈args,bB e=true) (h:fnR G cl x ds=some r):
  (∀d,r.val=some d->DE X ρ (.Call (.Name x p) args [] pos) d)∧(∀c,r=.fr c->DFx X ρ (.Call (.Name x p) args [] pos) c)∧(∀d,r=.xc d->DEX X ρ (.Call (.Name x p) args [] pos) d):=by
 obtain ⟨hd1,hd2,hd3⟩:=cT hn;have g:=xe.gl hg;obtain ⟨rfl,rfl,rfl,rfl,rfl⟩:=And.intro xe.p_ (And.intro xe.w_ (And.intro xe.K_ (And.intro xe.mg_ xe.gB)));unfold fnR at h
 match ds,args,hl with
 |[],[],_=>
  cases h
 |d0::dr,e0::er,hl=>
  have he:=bF (es:=er) (env:=X.env) (aN (hs e0 (by simp)));have hpl:=fQ (es:=er) (env:=X.env) (pos:=pos) fun e he=>hs e (EQ _ he);dsimp only at h;split at h
  ·rename_i key hq;obtain ⟨df,f,fd,ps,hm,L⟩:=R.fn x key hq;have F:=C.fn key df f fd ps L;have rm:=xe.room.mono (show kc<=k by omega);refine ⟨fun d hd=>?_,fun c hc=>?_,fun d hd=>?_⟩
   ·exact yo (CT.aG.okD F) rm g hm L.kp L.bind ha ⟨r,h,hd⟩ hd1 he hpl
   ·subst hc;exact vj (C.fr key df f fd ps L) rm g hm L.kp L.bind ha h hd1 he hpl
   ·subst hd;exact vg F rm g hm L.kp L.bind ha h xe.nox hd1 he hpl
  ·split at h
   ·rename_i C0 key hq;obtain ⟨df,f,fd,ps,hm,M,L⟩:=R.ini x C0 key hq;have F:=C.ini key C0 df f fd ps L;have rm:=xe.room.mono (show kc+1<=k by omega);rcases C.insI key C0 df f fd ps L _ r h with ⟨fs,rfl⟩|⟨dx,rfl⟩
    ·refine ⟨fun d hd=>?_,(by intro c hc;cases hc),(by intro d hd;cases hd)⟩;cases hd;exact yw M (CT.aG.okI F) rm g hm L.bind ha h hd1 he hpl
    ·refine ⟨(by intro d hd;cases hd),(by intro c hc;cases hc),fun d hd=>?_⟩;cases hd;exact vh M F rm g hm L.bind ha h xe.nox hd1 he hpl
   ·cases h
theorem BZ (R:Row P wd K mg base G) (C:Calls P wd K mg base G kc cl) (hk:kc+2<=k) (xe:XE true P wd K mg base X sc N w k) (hb:iQ o=true) (h30:args.length<30) (hp:(ap.endLine==pos.line)=true) (ho:DE X ρ o od) (ha:DA X ρ args ds) (hone:∀e0 d0,args=[e0]->ds=[d0]->DE X ρ e0 d0) (hl:args.length=ds.length)
  (hs:∀e∈args,bB e=true) (h:aV G cl od m ds=some r):
  (∀d,r.val=some d->DE X ρ (.Call (.Attribute o m ap) args [] pos) d)∧(∀c,r=.fr c->DFx X ρ (.Call (.Attribute o m ap) args [] pos) c)∧(∀d,r=.xc d->DEX X ρ (.Call (.Attribute o m ap) args [] pos) d):=by
 have ht:=r9 (o:=o) (m:=m) (args:=args) (ap:=ap) (cp:=pos) (env:=X.env) hb hs h30 hp;obtain ⟨rfl,rfl,rfl,rfl,rfl⟩:=And.intro xe.p_ (And.intro xe.w_ (And.intro xe.K_ (And.intro xe.mg_ xe.gB)));have rm:=xe.room.mono (show kc<=k by omega);unfold aV at h;split at h
 ·rename_i C0 fs;split at h
  ·rename_i key h1 h2;obtain ⟨df,f,fd,ps,M,c,L⟩:=R.mth C0 m key h2;have F:=C.fn key df f fd ps L
   match ds,args,hl with
   |[],[],_=>
    refine ⟨fun d hd=>?_,fun c hc=>?_,fun d hd=>?_⟩
    ·exact va ho h1 c M (CT.aG.okD F) rm L.bind ⟨r,h,hd⟩ ht
    ·subst hc;exact sy ho h1 (by assumption) M (C.fr key df f fd ps L) rm L.bind h ht
    ·subst hd;exact sv ho h1 c M F rm L.bind h xe.nox ht
   |d0::dr,e0::er,hl=>
    have he:=bF (es:=er) (env:=X.env) (aN (hs e0 (by simp)));have hpl:=fQ (es:=er) (env:=X.env) (pos:=pos) fun e he=>hs e (EQ _ he);refine ⟨fun d hd=>?_,fun c hc=>?_,fun d hd=>?_⟩
    ·exact yx ho h1 c M (CT.aG.okD F) rm L.bind ha ⟨r,h,hd⟩ he hpl ht
    ·subst hc;exact vl ho h1 (by assumption) M (C.fr key df f fd ps L) rm L.bind ha h he hpl ht
    ·subst hd;exact vi ho h1 c M F rm L.bind ha h xe.nox he hpl ht
  ·cases h
 ·split at h
  ·rename_i hm;subst hm;split at h
   ·rename_i kd;split at h
    ·rename_i l e;split at h
     ·rename_i hdp;cases h
      match args,hl with
      |[e0],_=>
       refine ⟨fun d hd=>?_,(by intro c hc;cases hc),(by intro d hd;cases hd)⟩;cases hd;have s0:starEach [e0] X.env=[(false,eval e0 X.env)]:=bF (es:=[]) (aN (hs e0 (by simp)));rw [du];refine vc (by have:=xe.room.units;omega) ho (by rw [en e];exact hone e0 kd rfl rfl) hdp ⟨k7 hb,?_,hp,?_⟩
       ·rw [fP hs];rfl
       ·rw [s0];rfl
     ·cases h
    ·cases h
   ·cases h
  ·cases h
 ·cases h
end
set_option autoImplicit true
set_option relaxedAutoImplicit true
mutual
theorem gD:∀{t:Tg} {d:D} {ρ ρ' ρ1:Rho},Le ρ ρ'->aq t d ρ=some ρ1->∃ρ1',aq t d ρ'=some ρ1'∧Le ρ1 ρ1'
 |.nm k,d,ρ,ρ',ρ1,le,h=>by
  unfold aq at h ⊢;split at h
  ·rename_i hk;cases h;rw [if_pos (by rw [←le.len];exact hk)];exact ⟨_,rfl,le.set k _⟩
  ·cases h
 |.tp ts,.tup ds,ρ,ρ',ρ1,le,h=>by
  unfold aq at h ⊢;exact lZ le h
 |.tp _,.non,_,_,_,_,h=>by unfold aq at h;cases h
 |.tp _,.bl _,_,_,_,_,h=>by unfold aq at h;cases h
 |.tp _,.int _,_,_,_,_,h=>by unfold aq at h;cases h
 |.tp _,.str _,_,_,_,_,h=>by unfold aq at h;cases h
 |.tp _,.lst _,_,_,_,_,h=>by unfold aq at h;cases h
 |.tp _,.ins _ _,_,_,_,_,h=>by unfold aq at h;cases h
 |.tp _,.exc _ _,_,_,_,_,h=>by unfold aq at h;cases h
 |.tp _,.ty _,_,_,_,_,h=>by unfold aq at h;cases h
 |.tp _,.cl _,_,_,_,_,h=>by unfold aq at h;cases h
 |.tp _,.dct _,_,_,_,_,h=>by unfold aq at h;cases h
 |.tp _,.pdc _,_,_,_,_,h=>by unfold aq at h;cases h
theorem lZ:∀{ts:List Tg} {ds:List D} {ρ ρ' ρ1:Rho},Le ρ ρ'->aY ts ds ρ=some ρ1->∃ρ1',aY ts ds ρ'=some ρ1'∧Le ρ1 ρ1'
 |[],[],ρ,ρ',ρ1,le,h=>by unfold aY at h ⊢;cases h;exact ⟨_,rfl,le⟩
 |t::ts,d::ds,ρ,ρ',ρ1,le,h=>by
  unfold aY at h ⊢;split at h
  ·rename_i ρ2 h2;obtain ⟨ρ2',e2,le2⟩:=gD le h2;rw [e2];exact lZ le2 h
  ·cases h
 |[],_::_,_,_,_,_,h=>by unfold aY at h;cases h
 |_::_,[],_,_,_,_,h=>by unfold aY at h;cases h
end
theorem xY:(assignEach es env).length=es.length:=by
 induction es with
 |nil=>rfl
 |cons e es ih=>cases e<;>(simp only [assignEach,List.length_cons];rw [ih])
theorem jA (h:bB e=true):assignEach (e::es) env=(false,assign e env)::assignEach es env:=by
 cases e<;>first|rfl|cases h
theorem uL (h:∀e∈es,bB e=true):(assignEach es env).findIdx? (·.1)=none:=by
 rw [List.findIdx?_eq_none_iff]
 induction es with
 |nil=>intro x hx;cases hx
 |cons e es ih=>
  intro x hx;rw [jA (h e Fa)] at hx;rcases Fr.mp hx with z|z
  ·rw [z]
  ·exact ih (fun e he=>h e (EQ _ he)) x z
section
variable {P:Program} {wd:World} {K:Frag} {mg:Str->Option Value} {base:Heap} {X:Cx} {sc:Scope} {N:List Str} {w k kc:Nat} {G:Prg} {cl:Str->List D->Option Rs}
theorem kU (xe:XE true P wd K mg base X sc N w k):∀n,(∀tg t,cTg sc N n tg=some t->bB tg=true∧∀ρ d ρ1,aq t d ρ=some ρ1->(∀k∈tks t,k<w)->DG X tg ρ d ρ1 (tks t)∧cn ρ ρ1 (tks t))∧
  (∀tgs ts,eY sc N n tgs=some ts->(∀e∈tgs,bB e=true)∧∀ρ ds ρ1,aY ts ds ρ=some ρ1->(∀k∈fG ts,k<w)->DGs X tgs ρ ds ρ1 (fG ts)∧cn ρ ρ1 (fG ts)∧ds.length=tgs.length):=by
 intro n
 induction n with
 |zero=>exact ⟨fun tg t h=>(by unfold cTg at h;cases h),fun tg t h=>(by unfold eY at h;cases h)⟩
 |succ n ih=>
  refine ⟨fun tg t h=>?_,fun tgs ts h=>?_⟩
  ·unfold cTg at h;split at h
   ·rename_i x p;split at h
    ·rename_i hx;simp only [Bool.and_eq_true] at hx;cases hi:idx N x with
     |none=>rw [hi] at h;cases h
     |some i=>
      rw [hi] at h;cases h;refine ⟨rfl,fun ρ d ρ1 hb hw=>?_⟩;unfold aq at hb;split at hb
      ·cases hb;have hat:=xe.at hi;have hN:X.N.Nodup:=by rw [xe.N_];exact xe.nd
       refine ⟨yC hN hat (xe.loc hx.2) (.inl (xe.fn i x (hw i (by simp [tks])) (by rw [←xe.N_];exact hat))),Dc⟩
      ·cases hb
    ·cases h
   ·rename_i es j p;split at h
    ·rename_i hst;cases hts:eY sc N n es with
     |none=>rw [hts] at h;cases h
     |some ts=>
      rw [hts] at h;cases h;obtain ⟨hs,ht⟩:=ih.2 es ts hts;refine ⟨rfl,fun ρ d ρ1 hb hw=>?_⟩;cases d with
      |tup ds=>
       unfold aq at hb;obtain ⟨h1,h2,h3⟩:=ht ρ ds ρ1 hb (fun k hk=>hw k hk);exact ⟨Bb xe.calm h1 h3 (by rw [xY]) (uL hs),h2⟩
      |_=>unfold aq at hb;cases hb
    ·cases h
   ·cases h
  ·unfold eY at h;split at h
   ·cases h;refine ⟨fun e he=>(nomatch he),fun ρ ds ρ1 hb hw=>?_⟩;cases ds with
    |nil=>unfold aY at hb;cases hb;exact ⟨yD,C_,rfl⟩
    |cons=>unfold aY at hb;cases hb
   ·rename_i e r;split at h
    ·rename_i t ts h1 h2;cases h;obtain ⟨s1,g1⟩:=ih.1 e t h1;obtain ⟨s2,g2⟩:=ih.2 r ts h2;refine ⟨fun e' he=>?_,fun ρ ds ρ1 hb hw=>?_⟩
     ·rcases Fr.mp he with z|z
      ·rw [z];exact s1
      ·exact s2 e' z
     ·cases ds with
      |nil=>unfold aY at hb;cases hb
      |cons d ds=>
       unfold aY at hb;split at hb
       ·rename_i ρ2 hb1;obtain ⟨a1,a2⟩:=g1 ρ d ρ2 hb1 fun k hk=>hw k (by show k∈tks t++fG ts;exact Ev _ hk);obtain ⟨b1,b2,b3⟩:=g2 ρ2 ds ρ1 hb fun k hk=>hw k (by show k∈tks t++fG ts;exact Do _ hk);exact ⟨vm a1 b1 (by rw [jA s1];rfl),a2.trans b2,by simp [b3]⟩
       ·cases hb
    ·cases h
theorem XE.cX (xe:XE true P wd K mg base X sc N w k) (cs:CS X scope own cap):
  XE true P wd K mg base (CT.cX X scope own cap p s h fp) (dY scope sc) (own++cap.map (·.1)) own.length k where
 p_:=xe.p_
 w_:=xe.w_
 K_:=xe.K_
 mg_:=xe.mg_
 gB:=xe.gB
 sc_:=by rw [←xe.sc_];rfl
 N_:=rfl
 nd:=cs.nN
 mW:=xe.mW
 m5:=xe.m5
 units:=xe.units
 nox:=fun _ _ z=>z
 fn:=fun i x hi hx=>by
  show decide (x∈own)=true;rw [List.getElem?_append_left hi] at hx;exact Ge (List.mem_of_getElem? hx)
theorem nF (h:i<w):(dA w cap ρ)[i]?=some .nil:=by
 unfold dA;rw [List.getElem?_append_left (by simpa using h),List.getElem?_replicate,if_pos h]
end
set_option autoImplicit true
set_option relaxedAutoImplicit true
structure All (P:Program) (wd:World) (K:Frag) (mg:Str->Option Value) (base:Heap) (G:Prg) (cl:Str->List D->Option Rs) (k n:Nat):Prop where
 e:∀X sc N w,XE true P wd K mg base X sc N w k->∀e ce,cE n sc N e=some ce->bB e=true∧ce≠.nop∧OkE G cl X e ce
 a:∀X sc N w,XE true P wd K mg base X sc N w k->∀es ces,cA n sc N es=some ces->(∀e∈es,bB e=true)∧∀ρ ρ' ds,Le ρ ρ'->evA G cl ces ρ=some ds->DA X ρ' es ds∧es.length=ds.length∧(∀e0 d0,es=[e0]->ds=[d0]->DE X ρ' e0 d0)
 b:∀X sc N w,XE true P wd K mg base X sc N w k->∀op es ce,cB n sc N op es=some ce->(∀ρ ρ' d pos,Le ρ ρ'->ev G cl ce ρ=some d->DE X ρ' (.BoolOp op es pos) d)∧∀ρ ρ' b pos,Le ρ ρ'->evT G cl ce ρ=some b->DW X ρ' (.BoolOp op es pos) b
 o:∀X sc N w,XE true P wd K mg base X sc N w k->∀oe ce,cO n sc N oe=some ce->∀ρ ρ' l,Le ρ ρ'->asI ce (ev G cl ce ρ)=some l->DO X ρ' oe l
 f:∀X sc N w,XE true P wd K mg base X sc N w k->∀ifs ce,cIf n sc N ifs=some ce->∀ρ ρ' b,Le ρ ρ'->evT G cl ce ρ=some b->DTs X ρ' ifs b
 g:∀X sc N w,XE true P wd K mg base X sc N w k->∀gens elt ce,cG n sc N gens elt=some ce->∀(full:List Comprehension) (m:Nat),full.drop (m+1)=gens->∀scope pos ρ ρ' out acc,Le ρ ρ'->evB G cl w ce ρ=some out->DB X acc (a_ elt full scope pos m (.ref acc) X.env) ρ' out
section
variable {P:Program} {wd:World} {K:Frag} {mg:Str->Option Value} {base:Heap} {G:Prg} {cl:Str->List D->Option Rs} {k kc n:Nat} {X:Cx} {sc:Scope} {N:List Str} {w:Nat}
theorem Dp (ih:All P wd K mg base G cl k n) (xe:XE true P wd K mg base X sc N w k) (h:cA (n+1) sc N es=some ces):
  (∀e∈es,bB e=true)∧∀ρ ρ' ds,Le ρ ρ'->evA G cl ces ρ=some ds->DA X ρ' es ds∧es.length=ds.length∧(∀e0 d0,es=[e0]->ds=[d0]->DE X ρ' e0 d0):=by
 unfold cA at h;split at h
 ·cases h;refine ⟨fun e he=>(nomatch he),fun ρ ρ' ds le h=>?_⟩;unfold evA at h;cases h;exact ⟨nM,rfl,fun e0 d0 z=>nomatch z⟩
 ·rename_i e r;split at h
  ·rename_i x xs h1 h2;cases h;obtain ⟨s1,_,o1⟩:=ih.e X sc N w xe e x h1;obtain ⟨s2,o2⟩:=ih.a X sc N w xe r xs h2;refine ⟨fun e' he=>?_,fun ρ ρ' ds le h=>?_⟩
   ·rcases Fr.mp he with z|z
    ·rw [z];exact s1
    ·exact s2 e' z
   ·unfold evA at h;split at h
    ·rename_i d hd;split at h
     ·rename_i ds' hds;cases h;obtain ⟨a1,a2,_⟩:=o2 ρ ρ' ds' le hds;refine ⟨gf (o1.v le hd) a1 (bF (aN s1)),by simp [a2],fun e0 d0 z1 z2=>?_⟩;cases z1;cases z2;exact o1.v le hd
     ·cases h
    ·cases h
  ·cases h
theorem Dq (ih:All P wd K mg base G cl k n) (xe:XE true P wd K mg base X sc N w k) (h:cB (n+1) sc N op es=some ce):
  (∀ρ ρ' d pos,Le ρ ρ'->ev G cl ce ρ=some d->DE X ρ' (.BoolOp op es pos) d)∧∀ρ ρ' b pos,Le ρ ρ'->evT G cl ce ρ=some b->DW X ρ' (.BoolOp op es pos) b:=by
 unfold cB at h;split at h
 ·cases h
 ·rename_i e;obtain ⟨_,_,o1⟩:=ih.e X sc N w xe e ce h;refine ⟨fun ρ ρ' d pos le h=>A7 (o1.v le h),fun ρ ρ' b pos le h=>?_⟩;cases op with
  |And=>exact yU (o1.t le h)
  |Or=>exact Bh (o1.t le h)
 ·rename_i e f r;split at h
  ·rename_i x y h1 h2;cases h;obtain ⟨_,_,o1⟩:=ih.e X sc N w xe e x h1;obtain ⟨o2,o3⟩:=ih.b X sc N w xe .And (f::r) y h2;refine ⟨fun ρ ρ' d pos le h=>?_,fun ρ ρ' b pos le h=>?_⟩
   ·rw [ev] at h;split at h
    ·rename_i hx;split at h
     ·rename_i q hq;cases h;have:=sg (pos:=pos) (o1.v le hx) fun _=>o2 ρ ρ' _ pos le hq;rw [Bool.true_and] at this;exact this
     ·cases h
    ·rename_i hx;cases h;exact sg (q:=false) (o1.v le hx) fun z=>nomatch z
    ·cases h
   ·unfold evT at h;split at h
    ·rename_i hx;have:=sN (pos:=pos) (o1.t le hx) fun _=>o3 ρ ρ' _ pos le h;rw [Bool.true_and] at this;exact this
    ·rename_i hx;cases h;exact sN (q:=false) (o1.t le hx) fun z=>nomatch z
    ·cases h
  ·rename_i x y h1 h2;cases h;obtain ⟨_,_,o1⟩:=ih.e X sc N w xe e x h1;obtain ⟨o2,o3⟩:=ih.b X sc N w xe .Or (f::r) y h2;refine ⟨fun ρ ρ' d pos le h=>?_,fun ρ ρ' b pos le h=>?_⟩
   ·rw [ev] at h;split at h
    ·rename_i hx;cases h;exact wW (q:=false) (o1.v le hx) fun z=>nomatch z
    ·rename_i hx;split at h
     ·rename_i q hq;cases h;have:=wW (pos:=pos) (o1.v le hx) fun _=>o2 ρ ρ' _ pos le hq;rw [Bool.false_or] at this;exact this
     ·cases h
    ·cases h
   ·unfold evT at h;split at h
    ·rename_i hx;cases h;exact wX (q:=false) (o1.t le hx) fun z=>nomatch z
    ·rename_i hx;have:=wX (pos:=pos) (o1.t le hx) fun _=>o3 ρ ρ' _ pos le h;rw [Bool.false_or] at this;exact this
    ·cases h
  ·cases h
theorem Du (ih:All P wd K mg base G cl k n) (xe:XE true P wd K mg base X sc N w k) (h:cO (n+1) sc N oe=some ce) (le:Le ρ ρ') (hl:asI ce (ev G cl ce ρ)=some l):DO X ρ' oe l:=by
 unfold cO at h;split at h
 ·cases h;cases hl;exact yH
 ·rename_i e;obtain ⟨_,hn,o1⟩:=ih.e X sc N w xe e ce h;unfold asI at hl;split at hl
  ·exact absurd rfl hn
  ·rename_i i hv;cases hl;exact yI (o1.v le hv)
  ·cases hl
theorem Ds (ih:All P wd K mg base G cl k n) (xe:XE true P wd K mg base X sc N w k) (h:cIf (n+1) sc N ifs=some ce) (le:Le ρ ρ') (hl:evT G cl ce ρ=some b):DTs X ρ' ifs b:=by
 unfold cIf at h;split at h
 ·cases h;unfold evT at hl;cases hl;exact yS
 ·rename_i e;obtain ⟨_,hn,o1⟩:=ih.e X sc N w xe e ce h;exact yT (o1.t le hl)
 ·cases h
theorem qm
  (h:(match aq tgt d ρ with
     |some ρ'=>match evT G cl test ρ' with
      |some true=>evB G cl wb body ρ'
      |some false=>some []
      |none=>none
     |none=>none)=some out):∃ρ1 b,aq tgt d ρ=some ρ1∧evT G cl test ρ1=some b∧(b=true->evB G cl wb body ρ1=some out)∧(b=false->out=[]):=by
 split at h
 ·rename_i ρ1 h1;split at h
  ·rename_i h2;exact ⟨ρ1,true,h1,h2,fun _=>h,fun z=>nomatch z⟩
  ·rename_i h2;cases h;exact ⟨ρ1,false,h1,h2,(fun z=>nomatch z),fun _=>rfl⟩
  ·cases h
 ·cases h
theorem Dt (ih:All P wd K mg base G cl k n) (xe:XE true P wd K mg base X sc N w k) (h:cG (n+1) sc N gens elt=some ce) (hf:full.drop (m+1)=gens)
  (le:Le ρ ρ') (ho:evB G cl w ce ρ=some out):DB X acc (a_ elt full scope pos m (.ref acc) X.env) ρ' out:=by
 unfold cG at h;split at h
 ·cases hq:cE n sc N elt with
  |none=>rw [hq] at h;cases h
  |some x=>
   rw [hq] at h;cases h;obtain ⟨_,_,o1⟩:=ih.e X sc N w xe elt x hq;unfold evB at ho;split at ho
   ·rename_i d hd;cases ho;have hn:full[m+1]?=none:=by
     have z:(full.drop (m+1))[0]?=full[m+1]?:=by rw [List.getElem?_drop]
     rw [←z,hf];rfl
    unfold a_;rw [hn];exact yk (o1.v le hd)
   ·cases ho
 ·rename_i tg it ifs r;split at h
  ·rename_i hit;split at h
   ·rename_i t i c b h1 h2 h3 h4;cases h;have hg:full[m+1]?=some ⟨tg,it,ifs,0⟩:=by
     have z:(full.drop (m+1))[0]?=full[m+1]?:=by rw [List.getElem?_drop]
     rw [←z,hf];rfl
    have hf2:full.drop (m+1+1)=r:=by
     have:full.drop (m+1+1)=(full.drop (m+1)).drop 1:=by rw [List.drop_drop]
     rw [this,hf];rfl
    obtain ⟨_,_,oi⟩:=ih.e X sc N w xe it i h2;unfold evB at ho;split at ho
    ·rename_i its hi;split at ho
     ·rename_i hk;obtain ⟨outs,l1,l2,l3⟩:=iu ho;subst l2;rw [F7] at hk;have hk':∀j∈tks t,j<w∧ρ[j]?=some .nil:=fun j hj=>by
       have:=hk j hj;simp only [Bool.and_eq_true,decide_eq_true_eq] at this;exact ⟨this.1,tm this.2⟩
      refine ym (ks:=tks t) hg xe.calm (fun e s z=>xe.nox e s z) (oi.i le hit hi).dI0 (fun j hj=>le.nil j (hk' j hj).2) l1 (fun q d o hd ho'=>?_) (fk hit _);obtain ⟨ρ1,bb,z1,z2,z3,z4⟩:=qm (l3 q d o hd ho');obtain ⟨ρ1',e1,le1⟩:=gD le z1;obtain ⟨_,tg1⟩:=(kU xe n).1 tg t h1;obtain ⟨dg,_⟩:=tg1 ρ' d ρ1' e1 fun j hj=>(hk' j hj).1;exact ⟨ρ1',bb,dg,ih.f X sc N w xe ifs c h3 ρ1 ρ1' bb le1 z2,fun hb=>ih.g X sc N w xe r elt b h4 full (m+1) hf2 scope pos ρ1 ρ1' o acc le1 (z3 hb),z4⟩
     ·cases ho
    ·cases ho
   ·cases h
  ·cases h
 ·cases h
theorem yh (ih:All P wd K mg base G cl k n) (xe:XE true P wd K mg base X sc N w k)
  (hcs:lg scope (ownOf scope) (aU scope N) sc N=true) (hit:fv tg it=true)
  (h1:cTg (dY scope sc) (ownOf scope++(aU scope N).map (·.1)) n tg=some t) (h2:cE n sc N it=some i) (h3:cIf n (dY scope sc) (ownOf scope++(aU scope N).map (·.1)) ifs=some c)
  (h4:cG n (dY scope sc) (ownOf scope++(aU scope N).map (·.1)) gens elt=some b) (le:Le ρ ρ') (h:ev G cl (.comp (ownOf scope).length ((aU scope N).map (·.2)) t i c b) ρ=some d):
  ∃xs,d=.lst xs∧DC X ρ' (.ListComp elt (⟨tg,it,ifs,0⟩::gens) scope pos) xs:=by
 have cs:CS X scope (ownOf scope) (aU scope N):=CS.of sc N xe.sc_ xe.N_ hcs;obtain ⟨_,_,oi⟩:=ih.e X sc N w xe it i h2;rw [ev] at h;split at h
 ·rename_i its hi;split at h
  ·rename_i hk;split at h
   ·rename_i out hc;split at h
    ·rename_i hz;cases h;obtain ⟨outs,l1,l2,l3⟩:=iu hc;subst l2;rw [F7] at hk;have hk':∀j∈tks t,j<(ownOf scope).length:=fun j hj=>by simpa using hk j hj
     have lec:=le.cap (ownOf scope) (aU scope N);refine ⟨_,rfl,yn (ks:=tks t) cs xe.calm (oi.i le hit hi).dI0 (fun j hj=>lec.nil j (nF (hk' j hj))) l1 hz (fun q dd o hd ho'=>?_) (fk hit _)⟩;obtain ⟨ρ1,bb,z1,z2,z3,z4⟩:=qm (l3 q dd o hd ho');obtain ⟨ρ1',e1,le1⟩:=gD lec z1;refine ⟨ρ1',bb,fun p s H f=>?_,fun p s H f=>?_,fun hb p s H f acc=>?_,z4⟩
     ·obtain ⟨_,tg1⟩:=(kU (xe.cX cs (p:=p) (s:=s) (h:=H) (fp:=f)) n).1 tg t h1;exact (tg1 _ dd ρ1' e1 hk').1
     ·exact ih.f _ _ _ _ (xe.cX cs) ifs c h3 ρ1 ρ1' bb le1 z2
     ·exact ih.g _ _ _ _ (xe.cX cs) gens elt b h4 (⟨tg,it,ifs,0⟩::gens) 0 rfl scope pos ρ1 ρ1' o acc le1 (z3 hb)
    ·cases h
   ·cases h
  ·cases h
 ·cases h
theorem kf:∀{its:List D} {es0 es:List (CT.PK×D)},iA f its es0=some es->∃E:Nat->List (CT.PK×D),E 0=es0∧E its.length=es∧∀(i:Nat) d,its[i]?=some d->∃p,f d=some p∧(E i).length<sizeLine∧E (i+1)=dZ (E i) p.1 p.2
 |[],es0,es,h=>by cases h;exact ⟨fun _=>es0,rfl,rfl,fun i d h=>by simp at h⟩
 |x::xs,es0,es,h=>by
  unfold iA at h;split at h
  ·rename_i p hp;split at h
   ·rename_i hl;obtain ⟨E,e0,e1,e2⟩:=kf h;refine ⟨fun i=>match i with|0=>es0|i+1=>E i,rfl,e1,fun i d hd=>?_⟩;cases i with
    |zero=>simp at hd;subst hd;exact ⟨p,hp,hl,e0⟩
    |succ i=>exact e2 i d (by simpa using hd)
   ·cases h
  ·cases h
theorem u5 (ih:All P wd K mg base G cl k n) (xe:XE true P wd K mg base X sc N w k)
  (hcs:lg scope (ownOf scope) (aU scope N) sc N=true) (hit:fv tg it=true)
  (h1:cTg (dY scope sc) (ownOf scope++(aU scope N).map (·.1)) n tg=some t) (h2:cE n sc N it=some i) (h3:cE n (dY scope sc) (ownOf scope++(aU scope N).map (·.1)) kx=some kk)
  (h4:cE n (dY scope sc) (ownOf scope++(aU scope N).map (·.1)) vx=some vv) (le:Le ρ ρ') (h:ev G cl (.bV (ownOf scope).length ((aU scope N).map (·.2)) t i kk vv) ρ=some d):
  ∃es,d=.pdc es∧DCx X ρ' (.DictComp kx vx [⟨tg,it,[],0⟩] scope pos) (.d es):=by
 have cs:CS X scope (ownOf scope) (aU scope N):=CS.of sc N xe.sc_ xe.N_ hcs;obtain ⟨_,_,oi⟩:=ih.e X sc N w xe it i h2;rw [ev] at h;split at h
 ·rename_i its hi;split at h
  ·rename_i hk;split at h
   ·rename_i es hc;cases h;obtain ⟨E,e0,e1,e2⟩:=kf hc;rw [F7] at hk;have hk':∀j∈tks t,j<(ownOf scope).length:=fun j hj=>by simpa using hk j hj
    have lec:=le.cap (ownOf scope) (aU scope N);have hz:(E its.length).length<=sizeLine:=by
     cases hl:its.length with
     |zero=>rw [e0];exact Nat.zero_le _
     |succ m=>
      obtain ⟨p,_,a,b⟩:=e2 m its[m] (by simp [hl]);rw [b,dZ];split
      ·rw [F6];omega
      ·rw [F5];exact a
    subst e1;refine ⟨_,rfl,u6 (ks:=tks t) cs xe.calm (oi.i le hit hi).dI0 (fun j hj=>lec.nil j (nF (hk' j hj))) e0 hz (fun q dd hd=>?_) (fk hit _)⟩;obtain ⟨p,hp,hl,hE⟩:=e2 q dd hd;split at hp
    ·rename_i ρ1 z1;obtain ⟨ρ1',e1',le1⟩:=gD lec z1;unfold ll at hp;split at hp
     ·rename_i kd v hkd hvd;split at hp
      ·rename_i l hpk;split at hp
       ·rename_i hdp;cases hp;refine ⟨ρ1',.t l,v,fun p s H f=>?_,fun p s H f acc=>?_,by rw [hE,eS],Nat.le_of_lt hl,hdp⟩
        ·obtain ⟨_,tg1⟩:=(kU (xe.cX cs (p:=p) (s:=s) (h:=H) (fp:=f)) n).1 tg t h1;exact (tg1 _ dd ρ1' e1' hk').1
        ·have xc:=xe.cX cs (p:=p) (s:=s) (h:=H) (fp:=f);have ok1:=(ih.e _ _ _ _ xc kx kk h3).2.2.v le1 hkd;rw [←en hpk] at ok1;exact u4 (Y:=cX X scope (ownOf scope) (aU scope N) p s H f) (by have:=xe.units;show X.A.units+9<cLine;omega) ok1 ((ih.e _ _ _ _ xc vx vv h4).2.2.v le1 hvd)
       ·cases hp
      ·cases hp
     ·cases hp
    ·cases hp
   ·cases h
  ·cases h
 ·cases h
end
set_option autoImplicit true
set_option relaxedAutoImplicit true
section
variable {P:Program} {wd:World} {K:Frag} {mg:Str->Option Value} {base:Heap} {G:Prg} {cl:Str->List D->Option Rs} {k kc n:Nat} {X:Cx} {sc:Scope} {N:List Str} {w:Nat} {ce:CE} {pos:Pos}
theorem yV (h:rR c=some ce):ce≠.nop∧OkE G cl X (.Constant c j pos) ce:=by
 cases c with
 |int i=>
  cases h;refine ⟨(fun z=>nomatch z),OkE.of (fun le h=>by rw [ev] at h;cases h;exact AX) (fun le h=>by unfold evT at h;cases h) (fun le _ h=>by unfold evI at h;cases h) rfl fun ρ=>rfl⟩
 |bool b=>
  cases h;refine ⟨(fun z=>nomatch z),OkE.of (fun le h=>by rw [ev] at h;cases h;exact wU) (fun le h=>by unfold evT at h;cases h;exact iB wU) (fun le _ h=>by unfold evI at h;cases h) rfl fun ρ=>rfl⟩
 |none=>
  cases h;refine ⟨(fun z=>nomatch z),OkE.of (fun le h=>by rw [ev] at h;cases h;exact iz) (fun le h=>by unfold evT at h;cases h) (fun le _ h=>by unfold evI at h;cases h) rfl fun ρ=>rfl⟩
 |str s=>
  cases h;refine ⟨(fun z=>nomatch z),OkE.of (fun le h=>by rw [ev] at h;cases h;exact A8) (fun le h=>by unfold evT at h;cases h) (fun le _ h=>by unfold evI at h;cases h) rfl fun ρ=>rfl⟩
 |float _=>cases h
 |complex _ _=>cases h
 |bytes _=>cases h
 |ellipsis=>cases h
theorem Bi (R:Row P wd K mg base G) (xe:XE ca P wd K mg base X sc N w k) (h:qz sc N x=some ce):ce≠.nop∧OkE G cl X (.Name x pos) ce:=by
 unfold qz at h;split at h
 ·rename_i hn;obtain ⟨h1,h2,_⟩:=cT hn;split at h
  ·rename_i i hi;split at h
   ·rename_i hv;cases h;have go:∀{ρ ρ':Rho} {d:D},Le ρ ρ'->aJ ρ[i]?=some d->DE X ρ' (.Name x pos) d:=fun le hq=>nQ (xe.at hi) (xe.vis hv) (le.val i _ (wH hq)) h1 h2;refine ⟨(fun z=>nomatch z),OkE.of (fun le h=>by rw [ev] at h;exact go le h) (fun le h=>?_) (fun le _ h=>?_) rfl (fun ρ=>rfl) (fun i' z ρ c pos hr=>(by cases z;exact yN (xe.at hi) (xe.vis hv) hr h1 h2)) fun i' z=>(by cases z;exact ⟨x,pos,rfl,xe.at hi,xe.vis hv,h1,h2⟩)⟩
    ·unfold evT at h;split at h
     ·rename_i b hb;cases h;exact iB (go le hb)
     ·cases h
    ·unfold evI at h;obtain ⟨d,hd,h⟩:=oD h;exact ke (go le hd) h
   ·cases h
  ·split at h
   ·rename_i hg;cases h;refine ⟨(fun z=>nomatch z),OkE.of (fun le h=>by rw [ev] at h;exact R.glob X xe.K_ xe.mg_ x _ h hn (xe.gl hg) _ _) (fun le h=>by unfold evT at h;cases h) (fun le _ h=>by unfold evI at h;cases h) rfl fun ρ=>rfl⟩
   ·cases h
 ·cases h
theorem BB (h:n8 op b=some true):∃j p,b=.Constant .none j p∧op=.Is:=by
 unfold n8 at h;split at h
 ·split at h
  ·split at h
   ·exact ⟨_,_,rfl,rfl⟩
   ·cases h
   ·cases h
  ·cases h
 ·cases h
theorem BA (h:n8 op b=some false):∃j p,b=.Constant .none j p∧op=.IsNot:=by
 unfold n8 at h;split at h
 ·split at h
  ·split at h
   ·cases h
   ·exact ⟨_,_,rfl,rfl⟩
   ·cases h
  ·cases h
 ·cases h
theorem BP (h:lel ops=true):ops=[.LtE,.Lt]:=by
 unfold lel at h;split at h
 ·split at h
  ·split at h
   ·rfl
   ·cases h
  ·cases h
 ·cases h
theorem Dr (R:Row P wd K mg base G) (C:Calls P wd K mg base G kc cl) (hk:kc+2<=k) (ih:All P wd K mg base G cl k n) (xe:XE true P wd K mg base X sc N w k) (h:cE (n+1) sc N e=some ce):bB e=true∧ce≠.nop∧OkE G cl X e ce:=by
 unfold cE at h;split at h
 ·
  exact ⟨rfl,yV h⟩
 ·
  exact ⟨rfl,Bi R xe h⟩
 ·
  rename_i a op b _;split at h
  ·rename_i o x y h0 h1 h2;cases h;obtain ⟨_,_,oa⟩:=ih.e X sc N w xe a x h1;obtain ⟨_,_,ob⟩:=ih.e X sc N w xe b y h2;refine ⟨rfl,(fun z=>nomatch z),OkE.of (fun le h=>?_) (fun le h=>by unfold evT at h;cases h) (fun le _ h=>by unfold evI at h;cases h) rfl fun ρ=>rfl⟩;rw [ev] at h;obtain ⟨u,hu,h⟩:=oD h;obtain ⟨v,hv,h⟩:=oD h;exact AB h0 (oa.v le hu) (ob.v le hv) h
  ·cases h
 ·
  rename_i op a _;split at h
  ·
   cases hq:cE n sc N a with
   |none=>rw [hq] at h;cases h
   |some x=>
    rw [hq] at h;cases h;obtain ⟨_,_,oa⟩:=ih.e X sc N w xe a x hq;refine ⟨rfl,(fun z=>nomatch z),OkE.of (fun le h=>?_) (fun le h=>by unfold evT at h;cases h) (fun le _ h=>by unfold evI at h;cases h) rfl fun ρ=>rfl⟩;rw [ev] at h;split at h
    ·rename_i i hi;cases h;exact A5 (oa.v le hi)
    ·cases h
  ·
   cases hq:cE n sc N a with
   |none=>rw [hq] at h;cases h
   |some x=>
    rw [hq] at h;cases h;obtain ⟨_,_,oa⟩:=ih.e X sc N w xe a x hq;refine ⟨rfl,(fun z=>nomatch z),OkE.of (fun le h=>?_) (fun le h=>?_) (fun le _ h=>by unfold evI at h;cases h) rfl fun ρ=>rfl⟩
    ·rw [ev] at h;split at h
     ·rename_i i hi;cases h;exact A6 (oa.v le hi)
     ·cases h
    ·unfold evT at h;obtain ⟨i,hi,h⟩:=oB h;cases h;exact Bg (oa.t le hi)
  ·cases h
 ·
  rename_i op es _;split at h
  ·rename_i a b r;obtain ⟨b1,b2⟩:=ih.b X sc N w xe op (a::b::r) ce h;have hce:(∃x y,ce=.and x y)∨∃x y,ce=.or x y:=by
    cases n with
    |zero=>unfold cB at h;cases h
    |succ n=>
     unfold cB at h;dsimp only at h;split at h
     ·cases h;exact .inl ⟨_,_,rfl⟩
     ·cases h;exact .inr ⟨_,_,rfl⟩
     ·cases h
   refine ⟨rfl,?_,OkE.of (fun le h=>b1 _ _ _ _ le h) (fun le h=>(b2 _ _ _ _ le h).dt) ?_ rfl ?_ ?_ ?_⟩
   ·rcases hce with ⟨_,_,rfl⟩|⟨_,_,rfl⟩<;>exact fun z=>nomatch z
   ·intro ρ ρ' its tg le _ h;rcases hce with ⟨_,_,rfl⟩|⟨_,_,rfl⟩<;>(unfold evI at h;cases h)
   ·intro ρ;rcases hce with ⟨_,_,rfl⟩|⟨_,_,rfl⟩<;>rfl
   ·intro i z;rcases hce with ⟨_,_,rfl⟩|⟨_,_,rfl⟩<;>cases z
   ·intro i z;rcases hce with ⟨_,_,rfl⟩|⟨_,_,rfl⟩<;>cases z
  ·cases h
 ·
  rename_i a ops bs _;split at h
  ·rename_i b;split at h
   ·rename_i op;split at h
    ·rename_i hc;obtain ⟨j,p',rfl,rfl⟩:=BB hc;cases hq:cE n sc N a with
     |none=>rw [hq] at h;cases h
     |some x=>
      rw [hq] at h;cases h;obtain ⟨_,_,oa⟩:=ih.e X sc N w xe a x hq;refine ⟨rfl,(fun z=>nomatch z),OkE.of (fun le h=>?_) (fun le h=>?_) (fun le _ h=>by unfold evI at h;cases h) rfl fun ρ=>rfl⟩
      ·rw [ev] at h;obtain ⟨d,hd,h⟩:=oD h;cases h;exact AY (oa.v le hd)
      ·unfold evT at h;obtain ⟨d,hd,h⟩:=oD h;cases h;exact Bf (oa.v le hd)
    ·rename_i hc;obtain ⟨j,p',rfl,rfl⟩:=BA hc;cases hq:cE n sc N a with
     |none=>rw [hq] at h;cases h
     |some x=>
      rw [hq] at h;cases h;obtain ⟨_,_,oa⟩:=ih.e X sc N w xe a x hq;refine ⟨rfl,(fun z=>nomatch z),OkE.of (fun le h=>?_) (fun le h=>?_) (fun le _ h=>by unfold evI at h;cases h) rfl fun ρ=>rfl⟩
      ·rw [ev] at h;obtain ⟨d,hd,h⟩:=oD h;cases h;exact yz (oa.v le hd)
      ·unfold evT at h;obtain ⟨d,hd,h⟩:=oD h;cases h;exact yQ (oa.v le hd)
    ·split at h
     ·rename_i o x y h0 h1 h2;split at h
      ·rename_i hns;cases h;obtain ⟨_,_,oa⟩:=ih.e X sc N w xe a x h1;obtain ⟨_,_,ob⟩:=ih.e X sc N w xe b y h2;refine ⟨rfl,(fun z=>nomatch z),OkE.of (fun le h=>?_) (fun le h=>?_) (fun le _ h=>by unfold evI at h;cases h) rfl fun ρ=>rfl⟩
       ·rw [ev] at h;obtain ⟨u,hu,h⟩:=oD h;obtain ⟨v,hv,h⟩:=oD h;obtain ⟨q,hq,h⟩:=oB h;cases h;exact AN hns xe.units h0 (oa.v le hu) (ob.v le hv) hq
       ·unfold evT at h;obtain ⟨u,hu,h⟩:=oD h;obtain ⟨v,hv,h⟩:=oD h;exact yg hns xe.units h0 (oa.v le hu) (ob.v le hv) h
      ·cases h
     ·cases h
   ·cases h
  ·
   rename_i b c;split at h
   ·rename_i hl;obtain rfl:=BP hl;split at h
    ·rename_i x y z h1 h2 h3;split at h
     ·rename_i hs;simp only [Bool.and_eq_true] at hs;cases h;obtain ⟨_,_,oa⟩:=ih.e X sc N w xe a x h1;obtain ⟨_,_,ob⟩:=ih.e X sc N w xe b y h2;obtain ⟨_,_,oc⟩:=ih.e X sc N w xe c z h3;refine ⟨rfl,(fun z=>nomatch z),OkE.of (fun le h=>?_) (fun le h=>by unfold evT at h;cases h) (fun le _ h=>by unfold evI at h;cases h) rfl fun ρ=>rfl⟩;rw [ev] at h;split at h
      ·rename_i i hi;split at h
       ·rename_i j hj;split at h
        ·rename_i l hl;cases h;exact u7 (oa.v le hi) (ob.v le hj) (oc.v le hl) (vU hs.2)
        ·cases h
       ·cases h
      ·cases h
     ·cases h
    ·cases h
   ·cases h
  ·cases h
 ·
  rename_i c a b _;split at h
  ·rename_i z x y h0 h1 h2;cases h;obtain ⟨_,_,oc⟩:=ih.e X sc N w xe c z h0;obtain ⟨_,_,oa⟩:=ih.e X sc N w xe a x h1;obtain ⟨_,_,ob⟩:=ih.e X sc N w xe b y h2;refine ⟨rfl,(fun z=>nomatch z),OkE.of (fun le h=>?_) (fun le h=>by unfold evT at h;cases h) (fun le _ h=>by unfold evI at h;cases h) rfl fun ρ=>rfl⟩;rw [ev] at h;split at h
   ·rename_i hq;exact wV (oc.t le hq) (fun _=>oa.v le h) fun z=>nomatch z
   ·rename_i hq;exact wV (oc.t le hq) (fun z=>nomatch z) fun _=>ob.v le h
   ·cases h
  ·cases h
 ·
  rename_i es j _;cases hq:cA n sc N es with
  |none=>rw [hq] at h;cases h
  |some ces=>
   rw [hq] at h;cases h;obtain ⟨_,oa⟩:=ih.a X sc N w xe es ces hq;refine ⟨rfl,(fun z=>nomatch z),OkE.of (fun le h=>?_) (fun le h=>by unfold evT at h;cases h) (fun le _ h=>?_) rfl fun ρ=>rfl⟩
   ·rw [ev] at h;obtain ⟨ds,hd,h⟩:=oL h;split at h
    ·rename_i hl;cases h;exact sj (oa _ _ ds le hd).1 hl
    ·cases h
   ·unfold evI at h;obtain ⟨ds,hd,h⟩:=oL h;split at h
    ·rename_i hl;cases h;exact sE (sj (oa _ _ _ le hd).1 hl)
    ·cases h
 ·
  rename_i es _;cases hq:cA n sc N es with
  |none=>rw [hq] at h;cases h
  |some ces=>
   rw [hq] at h;cases h;obtain ⟨_,oa⟩:=ih.a X sc N w xe es ces hq;refine ⟨rfl,(fun z=>nomatch z),⟨fun le h=>?_,fun le h=>(by unfold evT at h;cases h),fun le _ h=>?_,fun z=>(nomatch z),fun i z=>(nomatch z),fun i z=>(nomatch z),fun le h=>?_⟩⟩
   ·rw [ev] at h;obtain ⟨ds,hd,h⟩:=oL h;split at h
    ·rename_i hl;cases h;exact si (oa _ _ ds le hd).1 hl
    ·cases h
   ·unfold evI at h;obtain ⟨ds,hd,h⟩:=oL h;split at h
    ·rename_i hl;cases h;exact sA (si (oa _ _ _ le hd).1 hl)
    ·cases h
   ·unfold evV at h;dsimp only at h;obtain ⟨ds,hd,h⟩:=oL h;split at h
    ·rename_i hl;cases h;have:=Ba (pos:=‹Pos›) (oa _ _ ds le hd).1 hl;exact ⟨fun d hd=>by cases hd;exact this.de,fun c hc=>by cases hc;exact this.x,by intro d z;cases z⟩
    ·cases h
 ·
  split at h
  ·split at h
   ·skip
    cases h;refine ⟨rfl,(fun z=>nomatch z),⟨fun le h=>?_,fun le h=>(by unfold evT at h;cases h),fun le _ h=>(by unfold evI at h;cases h),fun z=>(nomatch z),fun i z=>(nomatch z),fun i z=>(nomatch z),fun le h=>?_⟩⟩
    ·rw [ev] at h;cases h;exact lh.de
    ·unfold evV at h;cases h;exact ⟨fun d hd=>by cases hd;exact lh.de,fun c hc=>by cases hc;exact lh,by intro d z;cases z⟩
   ·cases h
  ·cases h
 ·
  rename_i a b _;split at h
  ·rename_i lo hi st _;split at h
   ·
    split at h
    ·cases h;exact ⟨rfl,(fun z=>nomatch z),OkE.of (fun le h=>by rw [ev] at h;cases h) (fun le h=>by unfold evT at h;cases h) (fun le _ h=>by unfold evI at h;cases h) rfl fun ρ=>rfl⟩
    ·cases h
   ·cases h
  ·
   split at h
   ·rename_i x y h1 h2;split at h
    ·rename_i hs;cases h;obtain ⟨_,_,oa⟩:=ih.e X sc N w xe a x h1;obtain ⟨_,_,ob⟩:=ih.e X sc N w xe b y h2;have go:∀{ρ ρ':Rho} {u v d:D},Le ρ ρ'->ev G cl x ρ=some u->ev G cl y ρ=some v->ixD u v=some d->DE X ρ' (.Subscript a b ‹Pos›) d:=fun le hu hv hd=>D9 xe.units hs (oa.v le hu) (ob.v le hv) hd;refine ⟨rfl,(fun z=>nomatch z),OkE.of (fun le h=>?_) (fun le h=>by unfold evT at h;cases h) (fun le _ h=>?_) rfl fun ρ=>rfl⟩
     ·rw [ev] at h;obtain ⟨u,hu,h⟩:=oD h;obtain ⟨v,hv,h⟩:=oD h;exact go le hu hv h
     ·unfold evI at h;obtain ⟨u,hu,h⟩:=oD h;obtain ⟨v,hv,h⟩:=oD h;obtain ⟨d,hd,h⟩:=oD h;exact ke (go le hu hv hd) h
    ·cases h
   ·cases h
 ·
  rename_i a f _;split at h
  ·rename_i hb;cases hq:cE n sc N a with
   |none=>rw [hq] at h;cases h
   |some x=>
    rw [hq] at h;cases h;obtain ⟨_,_,oa⟩:=ih.e X sc N w xe a x hq;have go:∀{ρ ρ':Rho} {u d:D},Le ρ ρ'->ev G cl x ρ=some u->bx G u f=some d->DE X ρ' (.Attribute a f ‹Pos›) d:=fun {ρ ρ' u d} le hu hd=>by
     have hK:=xe.K_;subst hK;unfold bx at hd;split at hd
     ·split at hd
      ·rename_i hf;exact AW (oa.v le hu) (R.fok _ _ hf).1 (R.fok _ _ hf).2 hd (k7 hb)
      ·cases hd
     ·cases hd
    refine ⟨rfl,(fun z=>nomatch z),OkE.of (fun le h=>?_) (fun le h=>by unfold evT at h;cases h) (fun le _ h=>?_) rfl fun ρ=>rfl⟩
    ·rw [ev] at h;obtain ⟨u,hu,h⟩:=oD h;exact go le hu h
    ·unfold evI at h;obtain ⟨u,hu,h⟩:=oD h;obtain ⟨d,hd,h⟩:=oD h;exact ke (go le hu hd) h
  ·cases h
 ·
  rename_i f args ks cp;split at h
  ·split at h
   ·rename_i x p';split at h
    ·rename_i hn;simp only [Bool.and_eq_true] at hn;obtain ⟨⟨hn1,hg⟩,_⟩:=hn;split at h
     ·rename_i ces hq;obtain ⟨ss,oa⟩:=ih.a X sc N w xe args ces hq;split at h
      ·rename_i b hb;cases h;have vb:∀{ρ ρ':Rho} {d:D},Le ρ ρ'->ev G cl (.blt b ces) ρ=some d->DE X ρ' (.Call (.Name x p') args [] cp) d:=by
        intro ρ ρ' d le h;rw [ev] at h;split at h
        ·rename_i ds hd;obtain ⟨a1,a2,a3⟩:=oa _ _ ds le hd;split at h
         ·cases h
         ·split at h
          ·split at h
           ·rename_i es hs;cases h
            match args,a2,a1,ss with
            |[e0],_,a1,ss=>exact (pI R xe hb hg a1 (ss e0 (by simp)) hs).de
           ·cases h
          ·cases h
         ·split at h
          ·rename_i es;cases h
           match args,a2,a1,ss with
           |[e0],_,a1,ss=>exact y_ R xe hb hg a1 (ss e0 (by simp))
          ·exact nr R xe hb hg a1 a2 ss h
         ·exact nr R xe hb hg a1 a2 ss h
        ·cases h
       refine ⟨rfl,(fun z=>nomatch z),⟨vb,fun le h=>?_,fun le ht h=>?_,fun z=>(nomatch z),fun i z=>(nomatch z),fun i z=>(nomatch z),fun {ρ ρ' r} le h=>?_⟩⟩
       ·unfold evT at h;obtain ⟨ds,hd,h⟩:=oL h;split at h
        ·rename_i q hq;cases h;obtain ⟨a1,a2,a3⟩:=oa _ _ ds le hd;exact iB (nr R xe hb hg a1 a2 ss hq)
        ·cases h
       ·unfold evI at h;obtain ⟨ds,hd,h⟩:=oL h;obtain ⟨its,hi,h⟩:=oL h;cases h;obtain ⟨a1,a2,a3⟩:=oa _ _ ds le hd;exact AD R xe ht hb hg a1 a2 ss hi
       ·have dflt:(evV G cl (.blt b ces) ρ=match ev G cl (.blt b ces) ρ with|some d=>some (.ok d)|none=>none)->(∀d,r.val=some d->DE X ρ' (.Call (.Name x p') args [] cp) d)∧(∀c,r=.fr c->DFx X ρ' (.Call (.Name x p') args [] cp) c)∧(∀d,r=.xc d->DEX X ρ' (.Call (.Name x p') args [] cp) d):=by
         intro q;rw [q] at h;obtain ⟨d,hd,h⟩:=oD h;cases h;exact ⟨fun d' hd'=>by cases hd';exact vb le hd,(by intro c z;cases z),by intro d z;cases z⟩
        cases b with
        |list=>
         unfold evV at h;dsimp only at h;split at h
         ·rename_i xs hx;rw [ev] at hx;dsimp only at hx;split at hx<;>cases hx
         ·cases h
        |dict=>
         unfold evV at h;dsimp only at h;split at h
         ·rename_i xs hx;cases h;refine ⟨fun d' hd'=>by cases hd';exact vb le hx,fun c hc=>?_,by intro d z;cases z⟩;cases hc;rw [ev] at hx;obtain ⟨ds,hd,hx⟩:=oL hx;obtain ⟨a1,a2,a3⟩:=oa _ _ ds le hd;dsimp only at hx;split at hx
          ·split at hx
           ·rename_i es hs;cases hx
            match args,a2,a1,ss with
            |[e0],_,a1,ss=>exact pI R xe hb hg a1 (ss e0 (by simp)) hs
           ·cases hx
          ·cases hx
         ·cases h
        |len=>exact dflt rfl
        |sum=>exact dflt rfl
        |all=>exact dflt rfl
        |any=>exact dflt rfl
        |abs=>exact dflt rfl
        |int=>exact dflt rfl
        |tuple=>exact dflt rfl
        |min=>exact dflt rfl
        |max=>exact dflt rfl
        |isin=>exact dflt rfl
        |range=>exact dflt rfl
        |zip=>exact dflt rfl
        |enum=>exact dflt rfl
        |str=>exact dflt rfl
        |sorted=>exact dflt rfl
      ·cases h;have go:∀{ρ ρ':Rho} {ds:List D} {r:Rs},Le ρ ρ'->evA G cl ces ρ=some ds->fnR G cl x ds=some r->(∀d,r.val=some d->DE X ρ' (.Call (.Name x p') args [] cp) d)∧(∀c,r=.fr c->DFx X ρ' (.Call (.Name x p') args [] cp) c)∧(∀d,r=.xc d->DEX X ρ' (.Call (.Name x p') args [] cp) d):=fun le hd hr=>by
        obtain ⟨a1,a2,a3⟩:=oa _ _ _ le hd;exact D1 R C hk xe hn1 hg a1 a2 ss hr
       refine ⟨rfl,(fun z=>nomatch z),⟨fun le h=>?_,fun le h=>?_,fun le ht h=>?_,fun z=>(nomatch z),fun i z=>(nomatch z),fun i z=>(nomatch z),fun {ρ ρ' r} le h=>?_⟩⟩
       ·rw [ev] at h;obtain ⟨ds,hd,h⟩:=oL h;split at h
        ·rename_i r hr;exact (go le hd hr).1 _ h
        ·cases h
       ·unfold evT at h;obtain ⟨ds,hd,h⟩:=oL h;split at h
        ·rename_i q hr;cases h;exact iB ((go le hd hr).1 _ rfl)
        ·cases h
       ·unfold evI at h;obtain ⟨ds,hd,h⟩:=oL h;split at h
        ·rename_i r hr;obtain ⟨d,hv,h⟩:=oD h;exact ke ((go le hd hr).1 _ hv) h
        ·cases h
       ·unfold evV at h;dsimp only at h;obtain ⟨ds,hd,h⟩:=oL h;exact go le hd h
     ·cases h
    ·cases h
   ·rename_i o m ap;split at h
    ·rename_i hn;simp only [Bool.and_eq_true,decide_eq_true_eq] at hn;obtain ⟨⟨hb,h30⟩,hp⟩:=hn;split at h
     ·rename_i x ces h1 h2;cases h;obtain ⟨_,_,oo⟩:=ih.e X sc N w xe o x h1;obtain ⟨ss,oa⟩:=ih.a X sc N w xe args ces h2;have go:∀{ρ ρ':Rho} {u:D} {ds:List D} {r:Rs},Le ρ ρ'->ev G cl x ρ=some u->evA G cl ces ρ=some ds->aV G cl u m ds=some r->(∀d,r.val=some d->DE X ρ' (.Call (.Attribute o m ap) args [] cp) d)∧(∀c,r=.fr c->DFx X ρ' (.Call (.Attribute o m ap) args [] cp) c)∧(∀d,r=.xc d->DEX X ρ' (.Call (.Attribute o m ap) args [] cp) d):=fun le hu hd hr=>by
       obtain ⟨a1,a2,a3⟩:=oa _ _ _ le hd;exact BZ R C hk xe hb h30 hp (oo.v le hu) a1 a3 a2 ss hr
      refine ⟨rfl,(fun z=>nomatch z),⟨fun le h=>?_,fun le h=>?_,fun le ht h=>?_,fun z=>(nomatch z),fun i z=>(nomatch z),fun i z=>(nomatch z),fun {ρ ρ' r} le h=>?_⟩⟩
      ·rw [ev] at h;obtain ⟨u,hu,h⟩:=oD h;obtain ⟨ds,hd,h⟩:=oL h;split at h
       ·rename_i r hr;exact (go le hu hd hr).1 _ h
       ·cases h
      ·unfold evT at h;obtain ⟨u,hu,h⟩:=oD h;obtain ⟨ds,hd,h⟩:=oL h;split at h
       ·rename_i q hr;cases h;exact iB ((go le hu hd hr).1 _ rfl)
       ·cases h
      ·unfold evI at h;obtain ⟨u,hu,h⟩:=oD h;obtain ⟨ds,hd,h⟩:=oL h;split at h
       ·rename_i r hr;obtain ⟨d,hv,h⟩:=oD h;exact ke ((go le hu hd hr).1 _ hv) h
       ·cases h
      ·unfold evV at h;dsimp only at h;obtain ⟨u,hu,h⟩:=oD h;obtain ⟨ds,hd,h⟩:=oL h;exact go le hu hd h
     ·cases h
    ·cases h
   ·cases h
  ·cases h
 ·
  rename_i elt gs scope _;split at h
  ·rename_i tg it ifs gens;split at h
   ·rename_i hn;simp only [Bool.and_eq_true] at hn;split at h
    ·rename_i t i c b h1 h2 h3 h4;cases h;have go:=fun {ρ ρ':Rho} {d:D} (le:Le ρ ρ') (h:ev G cl (.comp (ownOf scope).length ((aU scope N).map (·.2)) t i c b) ρ=some d)=>yh (pos:=‹Pos›) ih xe hn.1 hn.2 h1 h2 h3 h4 le h;have hcx:∀{ρ ρ':Rho} {r:Rs},Le ρ ρ'->evV G cl (.comp (ownOf scope).length ((aU scope N).map (·.2)) t i c b) ρ=some r->∃c,r=.fr c∧DCx X ρ' (.ListComp elt (⟨tg,it,ifs,0⟩::gens) scope ‹Pos›) c:=fun {ρ ρ' r} le h=>by
      unfold evV at h;dsimp only at h;split at h
      ·rename_i xs hx;cases h;obtain ⟨ys,e,dc⟩:=go le hx;cases e;exact ⟨_,rfl,dc.cx⟩
      ·cases h
     refine ⟨rfl,(fun z=>nomatch z),⟨fun le h=>?_,fun le h=>(by unfold evT at h;cases h),fun le ht h=>(by unfold evI at h;cases h),fun _ le h=>hcx le h,fun i z=>(nomatch z),fun i z=>(nomatch z),fun {ρ ρ' r} le h=>?_⟩⟩
     ·obtain ⟨xs,rfl,dc⟩:=go le h;exact dc.de
     ·obtain ⟨c',rfl,dc⟩:=hcx le h;exact ⟨fun d hd=>by cases hd;exact dc.pe.de,fun c hc=>by cases hc;exact dc.pe,by intro d z;cases z⟩
    ·cases h
   ·cases h
  ·cases h
 ·
  rename_i kx vx gs scope _;split at h
  ·rename_i tg it;split at h
   ·rename_i hn;simp only [Bool.and_eq_true] at hn;split at h
    ·rename_i t i kk vv h1 h2 h3 h4;cases h;have go:=fun {ρ ρ':Rho} {d:D} (le:Le ρ ρ') (h:ev G cl (.bV (ownOf scope).length ((aU scope N).map (·.2)) t i kk vv) ρ=some d)=>u5 (pos:=‹Pos›) ih xe hn.1 hn.2 h1 h2 h3 h4 le h;have hcx:∀{ρ ρ':Rho} {r:Rs},Le ρ ρ'->evV G cl (.bV (ownOf scope).length ((aU scope N).map (·.2)) t i kk vv) ρ=some r->∃c,r=.fr c∧DCx X ρ' (.DictComp kx vx [⟨tg,it,[],0⟩] scope ‹Pos›) c:=fun {ρ ρ' r} le h=>by
      unfold evV at h;dsimp only at h;split at h
      ·rename_i es hx;cases h;obtain ⟨ys,e,dc⟩:=go le hx;cases e;exact ⟨_,rfl,dc⟩
      ·cases h
     refine ⟨rfl,(fun z=>nomatch z),⟨fun le h=>?_,fun le h=>(by unfold evT at h;cases h),fun le ht h=>(by unfold evI at h;cases h),fun _ le h=>hcx le h,fun i z=>(nomatch z),fun i z=>(nomatch z),fun {ρ ρ' r} le h=>?_⟩⟩
     ·obtain ⟨es,rfl,dc⟩:=go le h;exact dc.pe.de
     ·obtain ⟨c',rfl,dc⟩:=hcx le h;exact ⟨fun d hd=>by cases hd;exact dc.pe.de,fun c hc=>by cases hc;exact dc.pe,by intro d z;cases z⟩
    ·cases h
   ·cases h
  ·cases h
 ·cases h
theorem Aw (R:Row P wd K mg base G) (C:Calls P wd K mg base G kc cl) (hk:kc+2<=k):∀n,All P wd K mg base G cl k n:=by
 intro n
 induction n with
 |zero=>exact ⟨fun X sc N w xe e ce h=>(by unfold cE at h;cases h),fun X sc N w xe es ces h=>(by unfold cA at h;cases h),fun X sc N w xe op es ce h=>(by unfold cB at h;cases h),fun X sc N w xe oe ce h=>(by unfold cO at h;cases h),fun X sc N w xe ifs ce h=>(by unfold cIf at h;cases h),fun X sc N w xe gens elt ce h=>(by unfold cG at h;cases h)⟩
 |succ n ih=>
  exact ⟨fun X sc N w xe e ce h=>Dr R C hk ih xe h,fun X sc N w xe es ces h=>Dp ih xe h,fun X sc N w xe op es ce h=>Dq ih xe h,fun X sc N w xe oe ce h ρ ρ' l le hl=>Du ih xe h le hl,fun X sc N w xe ifs ce h ρ ρ' b le hl=>Ds ih xe h le hl,
   fun X sc N w xe gens elt ce h full m hf scope pos ρ ρ' out acc le ho=>Dt ih xe h hf le ho⟩
end
set_option autoImplicit true
set_option relaxedAutoImplicit true
noncomputable def tr (z dx:Addr):Sl->Sl
 |.new C _ _ fs=>.new C z dx fs
 |s=>s
noncomputable abbrev trR (z dx:Addr) (ρ:Rho):Rho:=ρ.map (tr z dx)
section
variable {z dx:Addr} {ρ:Rho}
theorem o6 {i:Nat} {d:D} (h:ρ[i]?=some (.val d)):(trR z dx ρ)[i]?=some (.val d):=by rw [List.getElem?_map,h];rfl
theorem bK {i:Nat} {c:Ow} (h:ρ[i]?=some (.owx c)):(trR z dx ρ)[i]?=some (.owx c):=by rw [List.getElem?_map,h];rfl
theorem bG:Le ρ (trR z dx ρ):=⟨by simp,fun i d h=>o6 h,fun i h=>by rw [List.getElem?_map,h];rfl⟩
theorem br:trR z dx (ρ.set i s)=(trR z dx ρ).set i (tr z dx s):=by unfold trR;rw [List.map_set]
theorem eT:trR z dx (ρ.modify i aH)=trR z dx ρ∨∃c,ρ[i]?=some (.owx c)∧trR z dx (ρ.modify i aH)=(trR z dx ρ).set i (.val c.D):=by
 cases h:ρ[i]? with
 |none=>
  left;rw [List.modify_eq_self (by simpa using h)]
 |some s=>
  have hi:=(FS.mp h).1;have e:ρ.modify i aH=ρ.set i (aH s):=by
   refine List.ext_getElem? fun j=>?_;rw [List.getElem?_modify]
   by_cases hj:i=j
   ·subst hj;rw [F3 hi,h];simp
   ·rw [F4 hj];simp [hj]
  cases s with
  |owx c=>right;exact ⟨c,rfl,by rw [e,br];rfl⟩
  |_=>
   left;rw [e]
   congr 1
   refine List.ext_getElem? fun j=>?_
   by_cases hj:i=j
   ·subst hj;rw [F3 hi,h];rfl
   ·rw [F4 hj]
end
section
variable {X:Cx} {ρ:Rho} {e:Expr} {d:D} {i:Nat} {c c':Ow} {xs:List D} {st:Stmt} {o:Out}
theorem au.cZ {K:Frag} {H:Hp} {S:Ad} {a:Addr} {ob:HO} (cc:gw a ob) (ha:H a=some ob):∀(es:List (CT.PK×D)) {kvs:List (CT.PK×Addr×V)},(es.all fun p=>ak p.2)=true->au K H S es kvs->au K H (S.and a) es kvs
 |[],_,_,r=>by cases r;exact .nil
 |(k,d)::es,_,h,r=>by
  have h':ak d=true∧(es.all fun p=>ak p.2)=true:=by simpa using h
  have nk:∀k:CT.PK,ak (CT.PK.d k)=true:=by
   intro k;exact CT.PK.rec (motive_1:=fun k=>ak (CT.PK.d k)=true) (motive_2:=fun l=>aW (CT.PK.dL l)=true) (fun n=>rfl) (fun l ih=>ih) rfl (fun k l h1 h2=>by show (ak (CT.PK.d k)&&aW (CT.PK.dL l))=true;rw [h1,h2];rfl) k
  cases r with
  |cons hd kk r t=>exact .cons hd (Rds.cZ cc ha _ (nk k) kk) (Rds.cZ cc ha d h'.1 r) (au.cZ cc ha es h'.2 t)
theorem kQ {K:Frag} {σ:L2.St} {H:Hp} {Q:VK} (hr:ρ[i]?=some (.owx c)) (hf:bN c'=true):o4 K ρ c' σ H Q->o4 K (ρ.set i (.val c.D)) c' σ H Q:=fun ⟨S,ve,k⟩=>by
 obtain ⟨S',a,us,ha,cc,hS,ve'⟩:=ve.xg hr;refine ⟨S',ve',fun a' ob H' ex hn ha' r=>k a' ob H' ex hn ha' ?_⟩;have hb:∀b,(S.and a') b->((S'.and a').and a) b:=fun b hb=>by
  rcases hb with hb|hb
  ·rcases hS b hb with z|z
   ·exact .inl (.inl z)
   ·exact .inr z
  ·exact .inl (.inr hb)
 have ha2:=ex _ _ (fun z=>z) ha;cases c' with
 |l xs=>obtain ⟨vs,q,r⟩:=r;exact ⟨vs,q,(ag.cZ cc ha2 xs hf r).av fun b h=>.inl (hb b h)⟩
 |d es=>obtain ⟨ep,vs,q,r⟩:=r;exact ⟨ep,vs,q,(au.cZ cc ha2 es hf r).av fun b h=>.inl (hb b h)⟩
theorem l7 (hr:ρ[i]?=some (.owx c)) (hf:bN c'=true) (h:DFx X (ρ.set i (.val c.D)) e c'):DFx X ρ e c':=PE.weak h fun σ H Q=>kQ hr hf
theorem sf (hr:ρ[i]?=some (.owx c)) (hf:bN c'=true) (h:DCx X (ρ.set i (.val c.D)) e c'):DCx X ρ e c':=
 ⟨l7 hr hf h.pe,fun j x pos' spos hN hix hx hl hsw=>PS.weak (h.ps j x pos' spos hN hix hx hl hsw) fun D σ H q=>kQ (Q:=fun x H1=>eJ j x σ H1 D.nx) hr hf q⟩
theorem yJ (hr:ρ[i]?=some (.owx c)) (h:DS X (ρ.set i (.val c.D)) st o):DS X ρ st o:=PS.weak h fun E σ H ⟨H₀,S₀,S,f,k⟩=>by
 obtain ⟨S',_,f'⟩:=f.give hr;exact ⟨H₀,S₀,S',f',k⟩
variable {z dx:Addr}
theorem aZ:∀{L:List Nat} {ρ:Rho},DS X (trR z dx (aa L ρ)) st o->DS X (trR z dx ρ) st o
 |[],_,h=>h
 |i::L,ρ,h=>by
  have h':=aZ (L:=L) (ρ:=ρ.modify i aH) h;rcases eT (z:=z) (dx:=dx) (ρ:=ρ) (i:=i) with e|⟨c,hc,e⟩
  ·rw [e] at h';exact h'
  ·rw [e] at h';exact yJ (bK hc) h'
theorem dq {ρ':Rho}:∀{L:List Nat} {ρ:Rho},DSX X (trR z dx (aa L ρ)) st ρ' d->DSX X (trR z dx ρ) st ρ' d
 |[],_,h=>h
 |i::L,ρ,h=>by
  have h':=dq (L:=L) (ρ:=ρ.modify i aH) h;rcases eT (z:=z) (dx:=dx) (ρ:=ρ) (i:=i) with e|⟨c,hc,e⟩
  ·rw [e] at h';exact h'
  ·rw [e] at h';exact vz (bK hc) h'
theorem bW (hn:ak d=true):∀{L:List Nat} {ρ:Rho},DE X (trR z dx (aa L ρ)) e d->DE X (trR z dx ρ) e d
 |[],_,h=>h
 |i::L,ρ,h=>by
  have h':=bW hn (L:=L) (ρ:=ρ.modify i aH) h;rcases eT (z:=z) (dx:=dx) (ρ:=ρ) (i:=i) with e|⟨c,hc,e⟩
  ·rw [e] at h';exact h'
  ·rw [e] at h';exact vd (bK hc) hn h'
theorem fJ (hn:bN c'=true):∀{L:List Nat} {ρ:Rho},DFx X (trR z dx (aa L ρ)) e c'->DFx X (trR z dx ρ) e c'
 |[],_,h=>h
 |i::L,ρ,h=>by
  have h':=fJ hn (L:=L) (ρ:=ρ.modify i aH) h;rcases eT (z:=z) (dx:=dx) (ρ:=ρ) (i:=i) with e|⟨c,hc,e⟩
  ·rw [e] at h';exact h'
  ·rw [e] at h';exact l7 (bK hc) hn h'
theorem l6 (hn:bN c'=true):∀{L:List Nat} {ρ:Rho},DCx X (trR z dx (aa L ρ)) e c'->DCx X (trR z dx ρ) e c'
 |[],_,h=>h
 |i::L,ρ,h=>by
  have h':=l6 hn (L:=L) (ρ:=ρ.modify i aH) h;rcases eT (z:=z) (dx:=dx) (ρ:=ρ) (i:=i) with e|⟨c,hc,e⟩
  ·rw [e] at h';exact h'
  ·rw [e] at h';exact sf (bK hc) hn h'
theorem gK {q:Bool}:∀{L:List Nat} {ρ:Rho},DT X (trR z dx (aa L ρ)) e q->DT X (trR z dx ρ) e q
 |[],_,h=>h
 |i::L,ρ,h=>by
  have h':=gK (L:=L) (ρ:=ρ.modify i aH) h;rcases eT (z:=z) (dx:=dx) (ρ:=ρ) (i:=i) with e|⟨c,hc,e⟩
  ·rw [e] at h';exact h'
  ·rw [e] at h';exact yR (bK hc) h'
theorem mj:∀{L:List Nat} {ρ:Rho} {j:Nat},ρ[j]?=some (.new C a b fs)->(aa L ρ)[j]?=some (.new C a b fs)
 |[],_,_,h=>h
 |i::L,ρ,j,h=>by
  refine mj (L:=L) (ρ:=ρ.modify i aH) ?_;rw [List.getElem?_modify,h]
  split<;>rfl
end
set_option autoImplicit true
set_option relaxedAutoImplicit true
section
variable {X:Cx} {ρ ρ':Rho} {e tg:Expr} {d:D} {pos:Pos} {ks:List Nat}
theorem pK (he:DE X ρ e d) (hg:DG X tg ρ d ρ' ks) (ht:cn ρ ρ' ks) (hs:swapsWithSole [tg] e pos.line X.env=pure false) (hw:swappedStores [tg] e X.env=pure none) (h1:(assignEach [tg] X.env).map (·.2)=[assign tg X.env]):
  DS X ρ (.Assign [tg] e pos) (.nx ρ'):=PS.weak (ub he hg hs hw h1) fun E σ H ⟨H₀,S₀,S,f,k⟩=>⟨S,f.ve,fun v H' ex r=>⟨S,(f.grow ex).ve,r,fun σ' ve' c=>k σ' H' S ((f.grow ex).tgt ve' c ht)⟩⟩
theorem sI {kt k2 pt2} (hc:X.calm=true) (hN:X.N.Nodup) (hi:X.N[i]?=some x) (hj:X.N[j]?=some y) (hij:i≠j)
  (hx:X.env.scope.names.lookup x=some .local) (hy:X.env.scope.names.lookup y=some .local) (ha:DA X ρ [a,b] [da,db])
  (hw:swappedStores [.Tuple [.Name x px,.Name y py] kt pt] (.Tuple [a,b] k2 pt2) X.env=pure (some [x,y])):
  DS X ρ (.Assign [.Tuple [.Name x px,.Name y py] kt pt] (.Tuple [a,b] k2 pt2) pos) (.nx ((ρ.set i (.val da)).set j (.val db))):=
 PS.weak (CH hc hN hi hj hij hx hy ha hw) fun E σ H ⟨H₀,S₀,S,f,k⟩=>⟨S,f.ve,fun vs H' ex rs=>by
  obtain ⟨v,u,rfl,r1,r2⟩:=rs.two;exact ⟨v,u,rfl,k _ H' S (((f.grow ex).set r1).set r2)⟩⟩
theorem l_ (hN:X.N[i]?=some x) (hv:Vis X.env.scope x) (hr:ρ[i]?=some (.owx (.l xs))) (he:DFx X ρ a (.l ys)) (hz:xs.length+ys.length<=sizeLine) (hd:(x==("__debug__":Str))=false) (hcd:(x==("__classdict__":Str))=false)
  (hs:swapsWith (.Call (.Attribute (.Name x p) "extend" ap) [a] [] cp) none pos.line X.env=pure false)
  (hbase:attributeBase (.Name x p) "extend" X.env (eval (.Name x p) X.env)=eval (.Name x p) X.env)
  (hfew:((backTo cp (starEach [a] X.env)).all (fun x=>!x.1)&&(backToKw cp (keywordEach [] X.env)).all (fun x=>x.1.isSome)&&decide (([a]:List Expr).length+([]:List Keyword).length+(if ([]:List Keyword).isEmpty then 0 else 1)<30))=true)
  (hline:(ap.endLine==cp.line)=true) (hst:starEach [a] X.env=(false,eval a X.env)::starEach [] X.env) (hplain:(backTo cp (starEach [] X.env)).any (·.1)=false):
  DS X ρ (.Expr (.Call (.Attribute (.Name x p) "extend" ap) [a] [] cp) pos) (.nx (ρ.set i (.owx (.l (xs++ys))))):=
 PS.weak (gq (xM PySem.F.plainAttrs_list PySem.F.slot_list_extend PySem.F.type_list_extend tK (fC hN hv hd hcd) (lI he oH hst) hbase hfew hline hst hplain) hs) fun E σ H ⟨H₀,S₀,S,f,k⟩=>by
  obtain ⟨v,h1,l,_,rfl,sa,ha,vs,rfl,r⟩:=f.ve.rel i _ hr;refine ⟨_,h1,.inl ⟨rfl,vs,.inl (.inl ha)⟩,S,f.ve,fun b o H' ex hn hb ro=>?_⟩;obtain ⟨us,rfl,ru⟩:=ro;refine ⟨l,b,vs,us,rfl,rfl,ex _ _ (fun z=>z) ha,hb,by rw [←r.length,←ru.length];exact hz,?_⟩;exact k _ _ S ((f.grow ex).ud hr h1 (ag.app (r.ext (ex.to S)) (ru.av fun b hb=>.inl (.inl hb))))
theorem Fm.move {K:Frag} {H₀ H:Hp} {S₀ S:Ad} {σ:L2.St} {i j:Nat} {c:Ow} {a:Addr} (f:Fm K H₀ S₀ H S ρ σ) (hij:i≠j) (hr:ρ[i]?=some (.owx c)) (hs:σ[i]?=some (some (.ref a))):Fm K H₀ S₀ H S ((ρ.set i .any).set j (.owx c)) (σ.set j (some (.ref a))):=by
 have key:∀(m:Nat) (x:Sl),((ρ.set i .any).set j (.owx c))[m]?=some x->(j=m∧x=.owx c∧j<ρ.length)∨(j≠m∧i=m∧x=.any)∨(j≠m∧i≠m∧ρ[m]?=some x):=fun m x h=>by
  by_cases hm:j=m
  ·subst hm;have hj:j<ρ.length:=by have:=(FS.mp h).1;simpa using this
   rw [F3 (by simpa using hj)] at h;exact .inl ⟨rfl,(Gi h).symm,hj⟩
  ·rw [F4 hm] at h
   by_cases hi:i=m
   ·subst hi;have hi':i<ρ.length:=(FS.mp hr).1;rw [F3 hi'] at h;exact .inr (.inl ⟨hm,rfl,(Gi h).symm⟩)
   ·rw [F4 hi] at h;exact .inr (.inr ⟨hm,hi,h⟩)
 obtain ⟨v,q1,q2⟩:=f.ve.rel i _ hr;refine ⟨⟨by simpa using f.ve.len,fun m x h=>?_,fun m k x y b hmk h1 h2 o1 o2 h3 h4=>?_,f.ve.dom⟩,f.ext,f.sub,f.new,f.dm,fun m x b h o h2=>?_⟩
 ·rcases key m x h with ⟨rfl,rfl,hj⟩|⟨hm,rfl,rfl⟩|⟨hm,hi,h'⟩
  ·rw [hs] at q1;cases q1;exact ⟨_,F3 (f.ve.len▸hj),q2⟩
  ·rw [F4 hm];exact ⟨_,hs,trivial⟩
  ·rw [F4 hm];exact f.ve.rel m x h'
 ·rcases key m x h1 with ⟨rfl,rfl,hj⟩|⟨hm,rfl,rfl⟩|⟨hm,hi,h1'⟩
  ·rw [F3 (f.ve.len▸hj)] at h3;cases h3;rcases key k y h2 with ⟨rfl,_,_⟩|⟨hk,rfl,rfl⟩|⟨hk,hi,h2'⟩
   ·exact hmk rfl
   ·exact o2
   ·rw [F4 hk] at h4;exact f.ve.dist i k _ y a hi hr h2' trivial o2 hs h4
  ·exact o1
  ·rw [F4 hm] at h3;rcases key k y h2 with ⟨rfl,rfl,hj⟩|⟨hk,rfl,rfl⟩|⟨hk,hi2,h2'⟩
   ·rw [F3 (f.ve.len▸hj)] at h4;cases h4;exact f.ve.dist m i x _ a (Ne.symm hi) h1' hr o1 trivial h3 hs
   ·exact o2
   ·rw [F4 hk] at h4;exact f.ve.dist m k x y b hmk h1' h2' o1 o2 h3 h4
 ·rcases key m x h with ⟨rfl,rfl,hj⟩|⟨hm,rfl,rfl⟩|⟨hm,hi,h'⟩
  ·rw [F3 (f.ve.len▸hj)] at h2;cases h2;exact f.own i _ a hr trivial hs
  ·exact o.elim
  ·rw [F4 hm] at h2;exact f.own m x b h' o h2
theorem yK (hN:X.N.Nodup) (hi:X.N[i]?=some y) (hj:X.N[j]?=some x) (hij:i≠j) (hv:Vis X.env.scope y) (hx:L2.Loc X.env.scope x) (hf:X.fn x=true∨X.env.scope.names.lookup x=some .local) (hr:ρ[i]?=some (.owx c))
  (hd:(y==("__debug__":Str))=false) (hcd:(y==("__classdict__":Str))=false):DS X ρ (.Assign [.Name x p] (.Name y q) pos) (.nx ((ρ.set i .any).set j (.owx c))):=
 PS.weak (oM hN hj hx (fC hi hv hd hcd) rfl hf) fun E σ H ⟨H₀,S₀,S,f,k⟩=>by
  obtain ⟨v,h1,a,o,rfl,sa,ha,r⟩:=f.ve.rel i _ hr;exact ⟨_,h1,k _ H S (Fm.move f hij hr h1)⟩
theorem cY (h:cy e=false):swapsWith e t l env=pure false:=by
 cases e<;>first|rfl|cases h
theorem EV (h:bB tg=true):(assignEach [tg] env).map (·.2)=[assign tg env]:=by rw [jA h];rfl
theorem B4 (hsc:env.scope=sc) (h:jc sc tg e=true):swappedStores [tg] e env=pure none:=by
 unfold jc at h;split at h
 ·rename_i ts _ _ vs _ _;have h1:=(Gg.mp (Gg.mp (Gg.mp h).1).1).1;unfold swappedStores;dsimp only;split
  ·rfl
  ·split
   ·rfl
   ·have e:∀id:Str,env.kindOf id=sc.names.lookup id:=fun id=>by rw [←hsc];rfl
    simp only [e];rw [if_pos];exact Bool.or_eq_true_iff.mpr (.inl h1)
 ·rename_i ts _ _ hne;unfold swappedStores;cases e<;>first|rfl|exact absurd rfl (hne _ _ _)
 ·unfold swappedStores;cases e<;>rfl
 ·cases h
end
mutual
theorem gE:∀{t:Tg} {d:D} {ρ ρ1:Rho},aq t d ρ=some ρ1->aq t d (trR z dx ρ)=some (trR z dx ρ1)
 |.nm k,d,ρ,ρ1,h=>by
  unfold aq at h ⊢;split at h
  ·rename_i hk;cases h;rw [if_pos (by simpa using hk),br];rfl
  ·cases h
 |.tp ts,.tup ds,ρ,ρ1,h=>by
  unfold aq at h ⊢;exact l4 h
 |.tp _,.non,_,_,h=>by unfold aq at h;cases h
 |.tp _,.bl _,_,_,h=>by unfold aq at h;cases h
 |.tp _,.int _,_,_,h=>by unfold aq at h;cases h
 |.tp _,.str _,_,_,h=>by unfold aq at h;cases h
 |.tp _,.lst _,_,_,h=>by unfold aq at h;cases h
 |.tp _,.ins _ _,_,_,h=>by unfold aq at h;cases h
 |.tp _,.exc _ _,_,_,h=>by unfold aq at h;cases h
 |.tp _,.ty _,_,_,h=>by unfold aq at h;cases h
 |.tp _,.cl _,_,_,h=>by unfold aq at h;cases h
 |.tp _,.dct _,_,_,h=>by unfold aq at h;cases h
 |.tp _,.pdc _,_,_,h=>by unfold aq at h;cases h
theorem l4:∀{ts:List Tg} {ds:List D} {ρ ρ1:Rho},aY ts ds ρ=some ρ1->aY ts ds (trR z dx ρ)=some (trR z dx ρ1)
 |[],[],ρ,ρ1,h=>by unfold aY at h ⊢;cases h;rfl
 |t::ts,d::ds,ρ,ρ1,h=>by
  unfold aY at h ⊢;split at h
  ·rename_i ρ2 h2;rw [gE h2];exact l4 h
  ·cases h
 |[],_::_,_,_,h=>by unfold aY at h;cases h
 |_::_,[],_,_,h=>by unfold aY at h;cases h
end
theorem tW:∀{d:D} {k:CT.PK},bU d=some k->ak d=true:=by
 intro d k h;have nk:∀k:CT.PK,ak (CT.PK.d k)=true:=by
  intro k;exact CT.PK.rec (motive_1:=fun k=>ak (CT.PK.d k)=true) (motive_2:=fun l=>aW (CT.PK.dL l)=true) (fun n=>rfl) (fun l ih=>ih) rfl (fun k l h1 h2=>by show (ak (CT.PK.d k)&&aW (CT.PK.dL l))=true;rw [h1,h2];rfl) k
 rw [←en h];exact nk k
set_option autoImplicit true
set_option relaxedAutoImplicit true
noncomputable def S1 (X:Cx) (z dx:Addr) (st:Stmt) (ρ:Rho):Oc->Prop
 |.nx ρ'=>DS X (trR z dx ρ) st (.nx (trR z dx ρ'))
 |.rt d=>DS X (trR z dx ρ) st (.rt d)
 |.fr c=>DS X (trR z dx ρ) st (.rfx c)
 |.xc ρ' d=>DSX X (trR z dx ρ) st (trR z dx ρ') d
noncomputable def SS (X:Cx) (z dx:Addr) (sts:List Stmt) (ρ:Rho):Oc->Prop
 |.nx ρ'=>DSs X (trR z dx ρ) sts (.nx (trR z dx ρ'))
 |.rt d=>DSs X (trR z dx ρ) sts (.rt d)
 |.fr c=>DSs X (trR z dx ρ) sts (.rfx c)
 |.xc ρ' d=>b7 X (trR z dx ρ) sts (trR z dx ρ') d
section
variable {X:Cx} {z dx:Addr} {st:Stmt} {sts:List Stmt} {ρ ρ1:Rho} {o:Oc} {L:List Nat}
theorem S1.cons (hx:∀e s,¬X.xe e s) (h1:S1 X z dx st ρ (.nx ρ1)) (h2:SS X z dx sts ρ1 o):SS X z dx (st::sts) ρ o:=by
 cases o with
 |nx ρ'=>exact gJ h1 h2
 |rt d=>exact gJ h1 h2
 |fr c=>exact gJ h1 h2
 |xc ρ' d=>exact sL h1 h2 hx
theorem S1.last (h1:S1 X z dx st ρ o) (hn:∀ρ',o≠.nx ρ'):SS X z dx (st::sts) ρ o:=by
 cases o with
 |nx ρ'=>exact absurd rfl (hn ρ')
 |rt d=>exact pN h1 trivial
 |fr c=>exact pN h1 trivial
 |xc ρ' d=>exact sM h1
theorem S1.give (h:S1 X z dx st (aa L ρ) o):S1 X z dx st ρ o:=by
 cases o with
 |nx ρ'=>exact aZ h
 |rt d=>exact aZ h
 |fr c=>exact aZ h
 |xc ρ' d=>exact dq h
end
section
variable {ca:Bool} {P:Program} {wd:World} {K:Frag} {mg:Str->Option Value} {base:Heap} {G:Prg} {cl:Str->List D->Option Rs} {k kc n:Nat} {X:Cx} {sc:Scope} {N:List Str} {w:Nat} {ce:CE} {z dx:Addr} {ρ:Rho} {pos:Pos}
theorem ny (h:cTg sc N n tg=some (.nm i)):∃x p,tg=.Name x p∧idx N x=some i∧bT x=true∧ot sc x=true:=by
 cases n with
 |zero=>unfold cTg at h;cases h
 |succ n=>
  unfold cTg at h;split at h
  ·rename_i x p;split at h
   ·rename_i hx;simp only [Bool.and_eq_true] at hx;cases hi:idx N x with
    |none=>rw [hi] at h;cases h
    |some j=>rw [hi] at h;cases h;exact ⟨x,p,rfl,hi,hx.1,hx.2⟩
   ·cases h
  ·split at h
   ·cases hq:eY sc N n ‹_› with
    |none=>rw [hq] at h;cases h
    |some ts=>rw [hq] at h;cases h
   ·cases h
  ·cases h
theorem XE.lt (xe:XE ca P wd K mg base X sc N w k) (h:idx N x=some i):i<N.length:=by
 have:=xe.at h;rw [xe.N_] at this;exact (FS.mp this).1
theorem XE.fnx (xe:XE ca P wd K mg base X sc N N.length k) (h:idx N x=some i):X.fn x=true:=by
 have:=xe.at h;rw [xe.N_] at this;exact xe.fn i x (xe.lt h) this
theorem XE.ndX (xe:XE ca P wd K mg base X sc N w k):X.N.Nodup:=by rw [xe.N_];exact xe.nd
mutual
theorem o5:∀{n:Nat} {tg:Expr} {t:Tg},(∀x i,idx N x=some i->i<N.length)->cTg sc N n tg=some t->∀j∈tks t,j<N.length
 |0,_,_,_,h=>by unfold cTg at h;cases h
 |n+1,tg,t,lt,h=>by
  unfold cTg at h;split at h
  ·rename_i x p;split at h
   ·cases hi:idx N x with
    |none=>rw [hi] at h;cases h
    |some i=>rw [hi] at h;cases h;intro j hj;rw [FM.mp (show j∈[i] from hj)];exact lt x i hi
   ·cases h
  ·rename_i es _ _;split at h
   ·cases hq:eY sc N n es with
    |none=>rw [hq] at h;cases h
    |some ts=>rw [hq] at h;cases h;exact fun j hj=>ql lt hq j hj
   ·cases h
  ·cases h
theorem ql:∀{n:Nat} {tgs:List Expr} {ts:List Tg},(∀x i,idx N x=some i->i<N.length)->eY sc N n tgs=some ts->∀j∈fG ts,j<N.length
 |0,_,_,_,h=>by unfold eY at h;cases h
 |n+1,tgs,ts,lt,h=>by
  unfold eY at h;split at h
  ·cases h;intro j hj;cases hj
  ·split at h
   ·rename_i t ts' h1 h2;cases h;intro j hj;rcases Fk.mp (show j∈tks t++fG ts' from hj) with q|q
    ·exact o5 lt h1 j q
    ·exact ql lt h2 j q
   ·cases h
end
theorem Ay (xe:XE true P wd K mg base X sc N N.length k) (hm:∃n,cTg sc N n tg=some t) (oe:OkE G cl X e ce) (hsw:jc sc tg e=true) (hcm:(!cy e||!tw tg)=true) (h:af G cl (.asg t ce L) ρ=some o):
  S1 X z dx (.Assign [tg] e pos) ρ o:=by
 obtain ⟨m,hm⟩:=hm;obtain ⟨ns,tok⟩:=(kU xe m).1 tg t hm;have lt:=o5 (N:=N) (fun x i h=>xe.lt h) hm;have hw:=B4 xe.sc_ hsw;have h1:=EV (env:=X.env) ns;rw [af] at h;cases hv:evV G cl ce (aa L ρ) with
 |none=>rw [hv] at h;cases h
 |some r=>
  rw [hv] at h;obtain ⟨w1,w2,w3⟩:=oe.w (ρ':=trR z dx (aa L ρ)) bG hv;cases hc:cy e with
  |false=>
   have hs:swapsWithSole [tg] e pos.line X.env=pure false:=cY hc;cases r with
   |ok d=>
    dsimp only at h;split at h
    ·rename_i ρ' hb;cases h;cases hn:ak d with
     |true=>
      rw [hn] at hb;obtain ⟨g1,g2⟩:=tok _ d _ (gE (z:=z) (dx:=dx) hb) lt;exact pK (bW hn (w1 d rfl)) g1 g2 hs hw h1
     |false=>
      rw [hn] at hb;obtain ⟨g1,g2⟩:=tok _ d _ (gE (z:=z) (dx:=dx) hb) lt;exact aZ (pK (w1 d rfl) g1 g2 hs hw h1)
    ·cases h
   |fr c=>
    dsimp only at h;split at h
    ·rename_i i;split at h
     ·cases h;obtain ⟨x,p,rfl,hi,hok,hl⟩:=ny hm;show DS X _ _ (.nx (trR z dx _));rw [br];cases hn:bN c with
      |true=>exact jH xe.ndX (xe.at hi) (xe.loc hl) (fJ hn (w2 c rfl)) (cY hc) (.inl (xe.fnx hi))
      |false=>exact aZ (jH xe.ndX (xe.at hi) (xe.loc hl) (w2 c rfl) (cY hc) (.inl (xe.fnx hi)))
     ·cases h
    ·cases h
   |xc d=>
    cases h;exact dq (vw (w3 d rfl) hs hw h1)
  |true=>
   obtain ⟨c,rfl,dc⟩:=oe.c (ρ':=trR z dx (aa L ρ)) hc bG hv;dsimp only at h;split at h
   ·rename_i i;split at h
    ·cases h;obtain ⟨x,p,rfl,hi,hok,hl⟩:=ny hm;show DS X _ _ (.nx (trR z dx _));rw [br];obtain ⟨bb,hbb⟩:∃bb,swapsWith e (some (.Name x p)) pos.line X.env=pure bb:=by
      cases e<;>first|(cases hc;done)|exact ⟨_,rfl⟩
     have key:∀{ρ0:Rho},DCx X (trR z dx ρ0) e c->DS X (trR z dx ρ0) (.Assign [.Name x p] e pos) (.nx ((trR z dx ρ0).set i (.owx c))):=fun {ρ0} dc=>by
      cases bb with
      |true=>exact vq xe.ndX (xe.at hi) (xe.loc hl) dc hbb (.inl (xe.fnx hi))
      |false=>exact jH xe.ndX (xe.at hi) (xe.loc hl) dc.pe hbb (.inl (xe.fnx hi))
     cases hn:bN c with
     |true=>exact key (l6 hn dc)
     |false=>exact aZ (key dc)
    ·cases h
   ·cases h
end
set_option autoImplicit true
set_option relaxedAutoImplicit true
structure XF (P:Program) (wd:World) (K:Frag) (mg:Str->Option Value) (base:Heap) (X:Cx) (sc:Scope) (N:List Str) (k:Nat):Prop where
 xe:XE true P wd K mg base X sc N N.length k
 pass:PassesOwn (model X.prog X.w) X.A X.env X.xe
 hst:X.stack=X.env::X.outer
 hfr:X.env.frame=some X.env.locals
 blk:X.env.blockKind=.function
noncomputable def DY:CS'->Bool
 |.asg _ _ _=>false|.ife _ _ _ _=>false|.for _ _ _ _=>false|.whl _ _ _=>false|.try _ _ _ _=>false
 |_=>true
theorem bA (h:s'=er1 s) (hf:DY s'=true):s=s':=by
 subst h;cases s<;>first|(unfold er1;rfl)|(unfold er1 at hf;cases hf)
theorem Bn {t e L} (h:CS'.asg t e L=er1 s):s=.asg t e L∨∃j i,s=.mov j i∧t=.nm j∧e=.var i:=by
 cases s<;>first|(unfold er1 at h;cases h;done)|(unfold er1 at h;cases h;exact .inl rfl)|(unfold er1 at h;cases h;exact .inr ⟨_,_,rfl,rfl,rfl⟩)
theorem DX {c L a b} (h:CS'.ife c L a b=er1 s):∃a' b',s=.ife c L a' b'∧erL a'=a∧erL b'=b:=by
 cases s<;>first|(unfold er1 at h;cases h;done)|(unfold er1 at h;cases h;exact ⟨_,_,rfl,rfl,rfl⟩)
theorem Bo {t it L b} (h:CS'.for t it L b=er1 s):∃b',s=.for t it L b'∧erL b'=b:=by
 cases s<;>first|(unfold er1 at h;cases h;done)|(unfold er1 at h;cases h;exact ⟨_,rfl,rfl⟩)
theorem Bq {c L b} (h:CS'.whl c L b=er1 s):∃b',s=.whl c L b'∧erL b'=b:=by
 cases s<;>first|(unfold er1 at h;cases h;done)|(unfold er1 at h;cases h;exact ⟨_,rfl,rfl⟩)
theorem Bp {b x i hh} (h:CS'.try b x i hh=er1 s):∃b',s=.try b' x i hh∧erL b'=b:=by
 cases s<;>first|(unfold er1 at h;cases h;done)|(unfold er1 at h;cases h;exact ⟨_,rfl,rfl⟩)
theorem ei (h:nmV e=some (x,p)):e=.Name x p:=by
 unfold nmV at h;split at h
 ·cases h;rfl
 ·cases h
theorem Ak (h:iU e=some (a,b)):∃k p,e=.Tuple [a,b] k p:=by
 unfold iU at h;split at h
 ·split at h
  ·cases h;exact ⟨_,_,rfl⟩
  ·cases h
 ·cases h
theorem zx (h:v3 es e=some ((x,px),(y,py),a,b)):es=[.Name x px,.Name y py]∧∃k p,e=.Tuple [a,b] k p:=by
 unfold v3 at h;split at h
 ·split at h
  ·rename_i h1 h2 h3;cases h;rw [ei h1,ei h2];exact ⟨rfl,Ak h3⟩
  ·cases h
 ·cases h
theorem Aa (h:oS G x es=some C):es=[]∧G.exc x=some (C,[]):=by
 unfold oS at h;split at h
 ·split at h
  ·rename_i hq;cases h;exact ⟨rfl,hq⟩
  ·cases h
 ·cases h
theorem Ab (h:wz o=some (x,args)):∃p1 p2,o=some (.Call (.Name x p1) args [] p2):=by
 unfold wz at h;split at h
 ·split at h
  ·split at h
   ·split at h
    ·rename_i h1;cases h;rw [ei h1];exact ⟨_,_,rfl⟩
    ·cases h
   ·cases h
  ·cases h
 ·cases h
theorem yY (h:vK hs=some (c,x,b)):∃p1 p2,hs=[.ExceptHandler (some (.Name c p1)) (some x) b p2]:=by
 unfold vK at h;split at h
 ·split at h;split at h
  ·split at h
   ·rename_i h1;cases h;rw [ei h1];exact ⟨_,_,rfl⟩
   ·cases h
  ·cases h
 ·cases h
theorem C1 (h:stV b=some (y,x)):∃p1 p2 p3,b=[.Assign [.Name y p1] (.Name x p2) p3]:=by
 unfold stV at h;split at h
 ·split at h
  ·split at h
   ·split at h
    ·rename_i h1 h2;cases h;rw [ei h1,ei h2];exact ⟨_,_,_,rfl⟩
    ·cases h
   ·cases h
  ·cases h
 ·cases h
structure Aq (G:Prg) (cl:Str->List D->Option Rs) (X:Cx) (sc:Scope) (N:List Str) (z dx:Addr) (n:Nat):Prop where
 s:∀st s,cS1 n sc N st=some (er1 s)->∀ρ o,af G cl s ρ=some o->S1 X z dx st ρ o
 b:∀sts b,cS n sc N sts=some (erL b)->∀ρ o,run G cl b ρ=some o->SS X z dx sts ρ o
section
variable {ca:Bool} {P:Program} {wd:World} {K:Frag} {mg:Str->Option Value} {base:Heap} {G:Prg} {cl:Str->List D->Option Rs} {k kc n:Nat} {X:Cx} {sc:Scope} {N:List Str} {w:Nat} {ce:CE} {z dx:Addr} {ρ:Rho} {pos:Pos}
theorem wA (h:run G cl (s::r) ρ=some o):(∃ρ1,af G cl s ρ=some (.nx ρ1)∧run G cl r ρ1=some o)∨(af G cl s ρ=some o∧∀ρ',o≠.nx ρ'):=by
 unfold run at h;split at h
 ·rename_i ρ1 h1;exact .inl ⟨ρ1,h1,h⟩
 ·rename_i hne;exact .inr ⟨h,fun ρ' q=>by subst q;exact hne ρ' h⟩
theorem Ew (hx:∀e s,¬X.xe e s) {st:Stmt} {sts:List Stmt} {s:CS'} {r:List CS'} (h1:∀ρ o,af G cl s ρ=some o->S1 X z dx st ρ o) (h2:∀ρ o,run G cl r ρ=some o->SS X z dx sts ρ o) {o:Oc} (h:run G cl (s::r) ρ=some o):SS X z dx (st::sts) ρ o:=by
 rcases wA h with ⟨ρ1,a,b⟩|⟨a,b⟩
 ·exact S1.cons hx (h1 _ _ a) (h2 _ _ b)
 ·exact S1.last (h1 _ _ a) b
theorem S1.if (hx:∀e s,¬X.xe e s) (hc:DT X (trR z dx ρ) c q) (ha:q=true->SS X z dx a ρ o) (hb:q=false->SS X z dx b ρ o):S1 X z dx (.If c a b pos) ρ o:=by
 cases o with
 |nx ρ'=>exact qF hc ha hb
 |rt d=>exact qF hc ha hb
 |fr c=>exact qF hc ha hb
 |xc ρ' d=>exact Be hc ha hb hx
theorem wy (h:af G cl (.ret e L) ρ=some o):(∃i c,e=.var i∧ρ[i]?=some (.owx c)∧o=.fr c)∨∃r,evV G cl e (aa L ρ)=some r∧o=(match r with|.ok d=>.rt d|.fr c=>.fr c|.xc d=>.xc (aa L ρ) d):=by
 unfold af at h;split at h
 ·rename_i c hc;cases h;split at hc
  ·rename_i i;split at hc
   ·rename_i c' hq;cases hc;exact .inl ⟨i,_,rfl,hq,rfl⟩
   ·cases hc
  ·cases hc
 ·right;split at h
  ·rename_i d hd;cases h;exact ⟨_,hd,rfl⟩
  ·rename_i d hd;cases h;exact ⟨_,hd,rfl⟩
  ·rename_i d hd;cases h;exact ⟨_,hd,rfl⟩
  ·cases h
theorem nU (h:DFx X ρ e c) (hs:swapsWith e none pos.line X.env=pure false):DS X ρ (.Expr e pos) (.nx ρ):=PS.weak (gq h hs) fun E σ H ⟨H₀,S₀,S,f,k⟩=>⟨S,f.ve,fun a o H' ex hn ha r=>k σ H' S (f.grow ex)⟩
theorem sT (oe:OkE G cl X e ce) (hc:cy e=false) (hr:af G cl (.exp ce L) ρ=some o):S1 X z dx (.Expr e pos) ρ o:=by
 rw [af] at hr;cases hv:evV G cl ce (aa L ρ) with
 |none=>rw [hv] at hr;cases hr
 |some r=>
  rw [hv] at hr;obtain ⟨w1,w2,w3⟩:=oe.w (ρ':=trR z dx (aa L ρ)) bG hv;cases r with
  |ok d=>
   cases hr;cases hn:ak d with
   |true=>exact pL (bW hn (w1 d rfl)) (cY hc)
   |false=>exact aZ (pL (w1 d rfl) (cY hc))
  |fr c=>
   cases hr;cases hn:bN c with
   |true=>exact nU (fJ hn (w2 c rfl)) (cY hc)
   |false=>exact aZ (nU (w2 c rfl) (cY hc))
  |xc d=>
   cases hr;exact dq (vy (w3 d rfl) (cY hc))
noncomputable def xK (z dx:Addr):Oc->Out
 |.nx ρ=>.nx (trR z dx ρ)|.rt d=>.rt d|.fr c=>.rfx c|.xc _ _=>.rt .non
theorem sV (tok:∀ρ d ρ1,aq t d ρ=some ρ1->DG X tg ρ d ρ1 (tks t)∧cn ρ ρ1 (tks t)) (hb:∀ρ o,run G cl b ρ=some o->SS X z dx body ρ o):
  ∀(its:List D) (ρ:Rho) (o:Oc),forL t (run G cl b) its ρ=some o->((∀ρ' d,o≠.xc ρ' d)->jw X tg body its (trR z dx ρ) (xK z dx o))∧∀ρe d,o=.xc ρe d->kZ X tg body (trR z dx ρe) d its (trR z dx ρ)
 |[],ρ,o,h=>by
  unfold forL at h;cases h;exact ⟨fun _=>.nil _,fun _ _ z=>nomatch z⟩
 |d::ds,ρ,o,h=>by
  unfold forL at h;split at h
  ·rename_i ρ1 h1;obtain ⟨g1,g2⟩:=tok _ d _ (gE (z:=z) (dx:=dx) h1);split at h
   ·rename_i ρ2 h2;obtain ⟨r1,r2⟩:=sV tok hb ds ρ2 o h;have s1:DSs X (trR z dx ρ1) body (.nx (trR z dx ρ2)):=hb _ _ h2;exact ⟨fun hx=>.cons g1 g2 s1 (r1 hx),fun ρe d' z=>.cons g1 g2 s1 (r2 ρe d' z)⟩
   ·rename_i hne;have s1:=hb _ _ h;cases o with
    |nx ρ'=>exact absurd h (hne ρ')
    |rt d'=>exact ⟨fun _=>.ret g1 g2 s1 trivial,fun _ _ z=>nomatch z⟩
    |fr c=>exact ⟨fun _=>.ret g1 g2 s1 trivial,fun _ _ z=>nomatch z⟩
    |xc ρe d'=>exact ⟨fun hx=>absurd rfl (hx ρe d'),fun ρe' d'' z=>by cases z;exact .here g1 g2 s1⟩
  ·cases h
theorem uD (hc:∀ρ q,evT G cl ce (aa L ρ)=some q->DT X (trR z dx ρ) c q) (hb:∀ρ o,run G cl b ρ=some o->SS X z dx body ρ o):
  ∀(m:Nat) (ρ:Rho) (o:Oc),ie (fun ρ=>evT G cl ce (aa L ρ)) (run G cl b) m ρ=some o->(∀ρ' d,o≠.xc ρ' d)∧WhO X c body m (trR z dx ρ) (xK z dx o)
 |0,_,_,h=>by unfold ie at h;cases h
 |m+1,ρ,o,h=>by
  unfold ie at h;split at h
  ·rename_i hq;split at h
   ·rename_i ρ2 h2;obtain ⟨n1,w1⟩:=uD hc hb m ρ2 o h;exact ⟨n1,.turn (hc _ _ hq) (hb _ _ h2) w1⟩
   ·cases h
   ·rename_i hne hnx;have s1:=hb _ _ h;cases o with
    |nx ρ'=>exact absurd h (hne ρ')
    |rt d'=>exact ⟨(fun _ _ z=>nomatch z),.ret (hc _ _ hq) s1 trivial⟩
    |fr c=>exact ⟨(fun _ _ z=>nomatch z),.ret (hc _ _ hq) s1 trivial⟩
    |xc ρe d'=>exact absurd h (hnx ρe d')
  ·rename_i hq;cases h;exact ⟨(fun _ _ z=>nomatch z),.stop (hc _ _ hq)⟩
  ·cases h
theorem BY (xe:XE ca P wd K mg base X sc N N.length k) (h1:cTg sc N n tg=some (.nm j)) (hv:∀i',CE.var i=.var i'->∃y q,e=.Name y q∧X.N[i']?=some y∧Vis X.env.scope y∧(y==("__debug__":Str))=false∧(y==("__classdict__":Str))=false) (hr:af G cl (.mov j i) ρ=some o):S1 X z dx (.Assign [tg] e pos) ρ o:=by
 obtain ⟨y,q,rfl,hy,hvis,d1,d2⟩:=hv i rfl;obtain ⟨x,p,rfl,hi,hok,hl⟩:=ny h1;rw [af] at hr;split at hr
 ·rename_i c hc;split at hr
  ·rename_i hij;cases hr;show DS X _ _ (.nx (trR z dx _));rw [br,br];exact yK xe.ndX hy (xe.at hi) hij.1 hvis (xe.loc hl) (.inl (xe.fnx hi)) (bK hc) d1 d2
  ·cases hr
 ·rename_i d hd;split at hr
  ·cases hr;show DS X _ _ (.nx (trR z dx _));rw [br];exact sJ xe.ndX (xe.at hi) (xe.loc hl) (nQ hy hvis (o6 hd) d1 d2) rfl (.inl (xe.fnx hi))
  ·cases hr
 ·cases hr
theorem yZ (hi:ρ[i]?=some (.val d)) (h:run G cl [.asg (.nm j) (.var i) [i]] ρ=some o):o=.nx (ρ.set j (.val d)):=by
 have e:aa [i] ρ=ρ:=by
  show ρ.modify i aH=ρ;apply List.ext_getElem?;intro m;rw [List.getElem?_modify];split
  ·rename_i q;subst q;rw [hi];rfl
  ·simp
 rw [run,af] at h;simp only [e,evV,ev.eq_1,hi,aJ,kp,ite_self,aq] at h
 by_cases hj:j<ρ.length
 ·simp only [if_pos hj] at h;unfold run at h;cases h;rfl
 ·simp only [if_neg hj] at h;cases h
theorem Av (R:Row P wd K mg base G) (C:Calls P wd K mg base G kc cl) (hk:kc+2<=k) (xf:XF P wd K mg base X sc N k) (ih:Aq G cl X sc N z dx n) {st:Stmt} {s:CS'} (h:cS1 (n+1) sc N st=some (er1 s)) {o:Oc} (hr:af G cl s ρ=some o):S1 X z dx st ρ o:=by
 have xe:=xf.xe;have A:=Aw (cl:=cl) R C hk n;have getE:∀{e:Expr} {ce:CE},cE n sc N e=some ce->OkE G cl X e ce:=fun he=>(A.e X sc N N.length xe _ _ he).2.2;unfold cS1 at h;split at h
 ·
  obtain rfl:=bA (Gi h) rfl;rw [af] at hr;cases hr;exact yL
 ·
  rename_i o _;split at h
  ·obtain rfl:=bA (Gi h) rfl;rw [af] at hr;cases hr;exact yM
  ·
   rename_i e;cases hq:cE n sc N e with
   |none=>rw [hq] at h;cases h
   |some x=>
    rw [hq] at h;obtain rfl:=bA (Gi h) rfl;have oe:=getE hq;rcases wy hr with ⟨i,c,rfl,hi,rfl⟩|⟨r,hv,rfl⟩
    ·exact oe.ro i rfl _ c _ (bK hi)
    ·obtain ⟨w1,w2,w3⟩:=oe.w (ρ':=trR z dx (aa (fvU x) ρ)) bG hv;cases r with
     |ok d=>exact aZ (Bd (w1 d rfl))
     |fr c=>exact aZ (vp (w2 c rfl))
     |xc d=>exact dq (yP (w3 d rfl))
 ·
  rename_i ts e pos;have gen:∀{tg e:Expr},mV n sc N tg e=some (er1 s)->S1 X z dx (.Assign [tg] e pos) ρ o:=fun {tg e} h=>by
   unfold mV at h;split at h
   ·rename_i t ce h1 h2;split at h
    ·rename_i hc;simp only [Bool.and_eq_true] at hc;rcases Bn (Gi h) with rfl|⟨j,i,rfl,rfl,rfl⟩
     ·exact Ay xe ⟨n,h1⟩ (getE h2) hc.1 hc.2 hr
     ·exact BY xe h1 (getE h2).vr hr
    ·cases h
   ·cases h
  unfold AF at h;split at h
  ·rename_i tg;unfold wL at h;split at h
   ·split at h
    ·
     rename_i x px y py a b hp;obtain ⟨rfl,k2,p2,rfl⟩:=zx hp;split at h
     ·rename_i i j ca cb h1 h2 h3 h4;split at h
      ·rename_i hc;obtain rfl:=bA (Gi h) rfl;have oa:=getE h3;have ob:=getE h4;rw [af] at hr;split at hr
       ·rename_i u hu;split at hr
        ·rename_i v hv;split at hr
         ·rename_i hij;cases hr;simp only [Bool.and_eq_true,beq_iff_eq,Bool.not_eq_true'] at hc;obtain ⟨⟨⟨⟨⟨⟨o1,o2⟩,lx⟩,ly⟩,hl⟩,hf⟩,hca⟩:=hc;have na:=(A.e X sc N N.length xe _ _ h3).1;have nb:=(A.e X sc N N.length xe _ _ h4).1;have hxy:x≠y:=fun q=>hij.1 (by rw [q,h2] at h1;exact (Gi h1).symm);have lx':X.env.scope.names.lookup x=some .local:=by rw [xe.sc_];exact lx
          have ly':X.env.scope.names.lookup y=some .local:=by rw [xe.sc_];exact ly
          have hw:∀kt pt k2 pt2,swappedStores [.Tuple [.Name x px,.Name y py] kt pt] (.Tuple [a,b] k2 pt2) X.env=pure (some [x,y]):=by
           intro kt pt k2 pt2;have k1:X.env.kindOf x=some .local:=lx';have k2:X.env.kindOf y=some .local:=ly';have ed:([x,y]:List Str).eraseDups=[x,y]:=by
            simp [List.eraseDups_cons,Ne.symm hxy]
           have e1:(px.line==px.line)=true:=beq_self_eq_true _;have e2:(py.line==px.line)=true:=by rw [hl];exact beq_self_eq_true _
           unfold swappedStores;dsimp only;rw [if_neg (by rw [xf.blk];simp)];rw [if_neg (by
            intro q;simp only [List.any_cons,List.any_nil,Bool.or_false] at q;rcases Bool.or_eq_true_iff.mp q with q|q
            ·cases a<;>first|(cases q;done)|(cases na;done)
            ·cases b<;>first|(cases q;done)|(cases nb;done))]
           simp only [List.filterMap_cons,List.filterMap_nil,List.head?_cons,Option.map_some,Option.getD_some,(show ∀(x:Str) (p:Pos),Expr.pos (.Name x p)=p from fun _ _=>rfl),k1,k2,e1,e2,beq_self_eq_true,Bool.and_true,if_true,ed];rw [if_neg (by simp),if_neg (by rw [hf];decide),if_neg (by rw [hca];decide)]
          have da:DA X (trR z dx (aa (uniq (fvE ca++fvE cb)) ρ)) [a,b] [u,v]:=gf (oa.v bG hu) (gf (ob.v bG hv) nM (bF (aN nb))) (bF (aN na));show DS X _ _ (.nx (trR z dx _));rw [br,br];cases hn:ak u&&ak v with
          |true=>
           simp only [Bool.and_eq_true] at hn;have da':DA X (trR z dx ρ) [a,b] [u,v]:=gf (bW hn.1 (oa.v bG hu)) (gf (bW hn.2 (ob.v bG hv)) nM (bF (aN nb))) (bF (aN na));exact sI xe.calm xe.ndX (xe.at h1) (xe.at h2) hij.1 lx' ly' da' (hw _ _ _ _)
          |false=>exact aZ (sI xe.calm xe.ndX (xe.at h1) (xe.at h2) hij.1 lx' ly' da (hw _ _ _ _))
         ·cases hr
        ·cases hr
       ·cases hr
      ·cases h
     ·cases h
    ·exact gen h
   ·rename_i b kx _;split at h
    ·
     rename_i x _ hp;obtain rfl:=ei hp;split at h
     ·rename_i i ck ce h1 h2 h3;split at h
      ·rename_i hc;simp only [Bool.and_eq_true,Bool.not_eq_true'] at hc;obtain ⟨⟨o1,hv⟩,hcm⟩:=hc;obtain rfl:=bA (Gi h) rfl;obtain ⟨d1,d2,_⟩:=cT o1;have ok':=getE h2;have oe:=getE h3;rw [af] at hr;split at hr
       ·rename_i v hve;split at hr
        ·rename_i kd hkd;split at hr
         ·rename_i es l hs hp;split at hr
          ·rename_i hz;cases hr;have dk:=ok'.v (ρ':=trR z dx (aa (uniq (fvE ck++fvE ce)) ρ)) bG hkd;have de:=oe.v (ρ':=trR z dx (aa (uniq (fvE ck++fvE ce)) ρ)) bG hve;have hu:X.A.units+9<cLine:=by have:=xe.units;omega
           show DS X _ _ (.nx (trR z dx _));rw [br,eS];rw [←en hp] at dk;have nk:ak (CT.PK.d (.t l))=true:=by rw [en hp];exact tW hp
           cases hn:ak v with
           |true=>
            rw [hn] at hs;exact pM hu (xe.at h1) (xe.vis hv) (bK hs) (bW nk dk) (bW hn de) hz.1 hz.2 (cY hcm) d1 d2
           |false=>
            rw [hn] at hs;exact aZ (pM hu (xe.at h1) (xe.vis hv) (bK hs) dk de hz.1 hz.2 (cY hcm) d1 d2)
          ·cases hr
         ·cases hr
        ·cases hr
       ·cases hr
      ·cases h
     ·cases h
    ·cases h
   ·rename_i b f _;split at h
    ·
     rename_i x _ hp;obtain rfl:=ei hp;split at h
     ·rename_i ce h1 h3;split at h
      ·rename_i hc;simp only [Bool.and_eq_true,Bool.not_eq_true'] at hc;obtain ⟨⟨o1,hv⟩,hcm⟩:=hc;obtain rfl:=bA (Gi h) rfl;obtain ⟨d1,d2,_⟩:=cT o1;have oe:=getE h3;rw [af] at hr;split at hr
       ·rename_i d hd;split at hr
        ·rename_i C0 a0 b0 fs h0;split at hr
         ·rename_i hf;cases hr;have de:=oe.v (ρ':=trR z dx (aa (fvU ce) ρ)) bG hd;have hK:=xe.K_;subst hK;obtain ⟨c1,c2⟩:=R.fok C0 f hf.2;show DS X _ _ (.nx (trR z dx _));rw [br];have t0:∀{ρ0:Rho},ρ0[0]?=some (.new C0 a0 b0 fs)->(trR z dx ρ0)[0]?=some (.new C0 z dx fs):=fun h=>by rw [List.getElem?_map,h];rfl
          cases hn:ak d with
          |true=>exact sH (i:=0) (xe.at h1) (xe.vis hv) (t0 h0) c1 c2 hf.1 (bW hn de) (cY hcm) d1 d2
          |false=>exact aZ (sH (i:=0) (xe.at h1) (xe.vis hv) (t0 (mj h0)) c1 c2 hf.1 de (cY hcm) d1 d2)
         ·cases hr
        ·cases hr
       ·cases hr
      ·cases h
     ·cases h
    ·cases h
   ·exact gen h
  ·cases h
 ·
  unfold cExp at h;split at h
  ·
   obtain rfl:=bA (Gi h) rfl;rw [af] at hr;cases hr;exact PS.weak CC fun E σ H ⟨H₀,S₀,S,f,k⟩=>k σ H S f
  ·
   rename_i x xp m ap args cp;split at h
   ·rename_i hm;subst hm;split at h
    ·rename_i i a h1;split at h
     ·rename_i hc;simp only [Bool.and_eq_true] at hc;obtain ⟨⟨o1,hv⟩,hl⟩:=hc;cases hq:cE n sc N a with
      |none=>rw [hq] at h;cases h
      |some x'=>
       rw [hq] at h;obtain rfl:=bA (Gi h) rfl;obtain ⟨d1,d2,_⟩:=cT o1;have oe:=getE hq;have na:=(A.e X sc N N.length xe _ _ hq).1;have s0:=bF (es:=[]) (env:=X.env) (aN na);rw [af] at hr;split at hr
       ·rename_i v hve;split at hr
        ·rename_i xs hs;split at hr
         ·rename_i hz;cases hr;have de:=oe.v (ρ':=trR z dx (aa (fvU x') ρ)) bG hve;show DS X _ _ (.nx (trR z dx _));rw [br];have few:((backTo cp (starEach [a] X.env)).all (fun x=>!x.1)&&(backToKw cp (keywordEach [] X.env)).all (fun x=>x.1.isSome)&&decide (([a]:List Expr).length+([]:List Keyword).length+(if ([]:List Keyword).isEmpty then 0 else 1)<30))=true:=by
           rw [fP (fun e he=>by rw [FM.mp he];exact na)];rfl
          cases hn:ak v with
          |true=>
           rw [hn] at hs;exact l9 (xe.at h1) (xe.vis hv) (bK hs) (bW hn de) hz d1 d2 rfl rfl few hl s0 rfl
          |false=>
           rw [hn] at hs;exact aZ (l9 (xe.at h1) (xe.vis hv) (bK hs) de hz d1 d2 rfl rfl few hl s0 rfl)
         ·cases hr
        ·cases hr
       ·cases hr
     ·cases h
    ·cases h
   ·split at h
    ·rename_i hm;subst hm;split at h
     ·rename_i i h1;split at h
      ·rename_i hc;simp only [Bool.and_eq_true] at hc;obtain ⟨⟨o1,hv⟩,hl⟩:=hc;obtain rfl:=bA (Gi h) rfl;obtain ⟨d1,d2,_⟩:=cT o1;rw [af] at hr;cases hr
      ·cases h
     ·cases h
    ·split at h
     ·rename_i hm;subst hm;split at h
      ·rename_i i a h1;split at h
       ·rename_i hc;simp only [Bool.and_eq_true] at hc;obtain ⟨⟨o1,hv⟩,hl⟩:=hc;cases hq:cE n sc N a with
        |none=>rw [hq] at h;cases h
        |some x'=>
         rw [hq] at h;obtain rfl:=bA (Gi h) rfl;obtain ⟨d1,d2,_⟩:=cT o1;have oe:=getE hq;have na:=(A.e X sc N N.length xe _ _ hq).1;have s0:=bF (es:=[]) (env:=X.env) (aN na);rw [af] at hr;split at hr
         ·rename_i ys hve;split at hr
          ·rename_i xs hs;split at hr
           ·rename_i hz;cases hr;have de:=(oe.w (ρ':=trR z dx (aa (fvU x') ρ)) bG hve).2.1 _ rfl;show DS X _ _ (.nx (trR z dx _));rw [br];have few:((backTo cp (starEach [a] X.env)).all (fun x=>!x.1)&&(backToKw cp (keywordEach [] X.env)).all (fun x=>x.1.isSome)&&decide (([a]:List Expr).length+([]:List Keyword).length+(if ([]:List Keyword).isEmpty then 0 else 1)<30))=true:=by
             rw [fP (fun e he=>by rw [FM.mp he];exact na)];rfl
            cases hn:aW ys with
            |true=>
             rw [hn] at hs;exact l_ (xe.at h1) (xe.vis hv) (bK hs) (fJ (c':=.l ys) hn de) hz d1 d2 rfl rfl few hl s0 rfl
            |false=>
             rw [hn] at hs;exact aZ (l_ (xe.at h1) (xe.vis hv) (bK hs) de hz d1 d2 rfl rfl few hl s0 rfl)
           ·cases hr
          ·cases hr
         ·cases hr
       ·cases h
      ·cases h
     ·cases hq:cE n sc N (.Call (.Attribute (.Name x xp) m ap) args [] cp) with
      |none=>rw [hq] at h;cases h
      |some ce=>
       rw [hq] at h;obtain rfl:=bA (Gi h) rfl;exact sT (getE hq) rfl hr
  ·
   rename_i e _ _ _ _;split at h
   ·rename_i hc;have hc:cy e=false:=by simpa using hc
    cases hq:cE n sc N e with
    |none=>rw [hq] at h;cases h
    |some ce=>
     rw [hq] at h;obtain rfl:=bA (Gi h) rfl;exact sT (getE hq) hc hr
   ·cases h
 ·
  rename_i c a b _;split at h
  ·rename_i x y zz h1 h2 h3;obtain ⟨y',zz',rfl,rfl,rfl⟩:=DX (Gi h);have oc:=getE h1;rw [af] at hr;split at hr
   ·rename_i hq;exact S1.if xe.nox (gK (oc.t bG hq)) (fun _=>ih.b a y' h2 _ _ hr) fun z=>nomatch z
   ·rename_i hq;exact S1.if xe.nox (gK (oc.t bG hq)) (fun z=>nomatch z) fun _=>ih.b b zz' h3 _ _ hr
   ·cases hr
  ·cases h
 ·
  rename_i tg it b els _;split at h
  ·rename_i hit0;obtain ⟨hit,hel⟩:=Gg.mp hit0;obtain rfl:=List.isEmpty_iff.mp hel;split at h
   ·rename_i t x y h1 h2 h3;obtain ⟨y',rfl,rfl⟩:=Bo (Gi h);have oi:=getE h2;rw [af] at hr;split at hr
    ·rename_i its hi;have lt:=o5 (N:=N) (fun x i h=>xe.lt h) h1;obtain ⟨f1,f2⟩:=sV (z:=z) (dx:=dx) (fun ρ d ρ1 hb=>((kU xe n).1 tg t h1).2 ρ d ρ1 hb lt) (fun ρ o h=>ih.b b y' h3 ρ o h) its _ o hr;have di:=oi.i (ρ':=trR z dx (aa (fvU x) ρ)) (tg:=tg) bG hit hi;refine S1.give (L:=fvU x) ?_;cases o with
     |nx ρ'=>exact nV xf.pass xe.calm di (f1 fun _ _ z=>nomatch z) (fk hit _)
     |rt d=>exact nV xf.pass xe.calm di (f1 fun _ _ z=>nomatch z) (fk hit _)
     |fr c=>exact nV xf.pass xe.calm di (f1 fun _ _ z=>nomatch z) (fk hit _)
     |xc ρe d=>exact yO xf.hst xf.hfr xe.calm di (f2 ρe d rfl) xe.nox (fk hit _)
    ·cases hr
   ·cases h
  ·cases h
 ·
  rename_i c b els _;split at h
  ·rename_i x y h1 h2
   by_cases hel:els.isEmpty=true
   case neg=>rw [if_neg hel] at h;cases h
   rw [if_pos hel] at h;obtain rfl:=List.isEmpty_iff.mp hel;obtain ⟨y',rfl,rfl⟩:=Bq (Gi h);have oc:=getE h1;rw [af] at hr;obtain ⟨n1,w1⟩:=uD (z:=z) (dx:=dx) (fun ρ q hq=>gK (oc.t bG hq)) (fun ρ o h=>ih.b b y' h2 ρ o h) _ ρ o hr;have:=vu (pos:=‹Pos›) xf.pass w1;cases o with
   |nx ρ'=>exact this
   |rt d=>exact this
   |fr c=>exact this
   |xc ρe d=>exact absurd rfl (n1 ρe d)
  ·cases h
 ·
  split at h
  ·
   rename_i x args hp;obtain ⟨p1,p2,rfl⟩:=Ab hp;split at h
   ·rename_i hc;simp only [Bool.and_eq_true] at hc;obtain ⟨⟨o1,hg⟩,_⟩:=hc;cases hq:cA n sc N args with
    |none=>rw [hq] at h;cases h
    |some ces=>
     rw [hq] at h;obtain rfl:=bA (Gi h) rfl;obtain ⟨ss,oa⟩:=A.a X sc N N.length xe args ces hq;obtain ⟨d1,d2,_⟩:=cT o1;rw [af] at hr;split at hr
     ·rename_i C0 hq0;cases hr;obtain ⟨rfl,hx⟩:=Aa hq0;obtain ⟨a1,a2,_⟩:=oa _ (trR z dx (aa (uniq (fvA [])) ρ)) [] bG (by rw [evA]);obtain ⟨rfl,rfl,rfl,rfl,rfl⟩:=And.intro xe.p_ (And.intro xe.w_ (And.intro xe.K_ (And.intro xe.mg_ xe.gB)));have xc:=R.exc x C0 [] hx;obtain rfl:=F2.mp a2;obtain ⟨z1,z2⟩:=xc.zero rfl;exact dq (L:=uniq (fvA [])) (qG z1 z2 (xe.gl hg) xc.mg_ xc.cl xc.ty xe.room.hd d1)
     ·cases hr
   ·cases h
  ·cases h
 ·
  rename_i b hds els fin _;split at h
  ·
   rename_i c x hbd hp;obtain ⟨q1,q2,rfl⟩:=yY hp;obtain ⟨⟨y,x'⟩,hq⟩:∃q,stV hbd=some q:=by
    cases hq:stV hbd with
    |none=>rw [hq] at h;cases h
    |some q=>exact ⟨q,rfl⟩
   rw [hq] at h;dsimp only at h;obtain ⟨q3,q4,q5,rfl⟩:=C1 hq;split at h
   ·rename_i cb i j h1 h2 h3;split at h
    ·rename_i hc;simp only [Bool.and_eq_true,beq_iff_eq] at hc;obtain ⟨⟨⟨⟨⟨⟨⟨⟨⟨o1,hg⟩,_⟩,hl⟩,rfl⟩,ox⟩,oy⟩,ly⟩,he1⟩,he2⟩:=hc;obtain rfl:=List.isEmpty_iff.mp he1;obtain rfl:=List.isEmpty_iff.mp he2;obtain ⟨cb',rfl,rfl⟩:=Bp (Gi h);obtain ⟨d1,d2,_⟩:=cT o1;obtain ⟨e1,e2,_⟩:=cT ox;rw [af] at hr;split at hr
     ·rename_i ρ1 C0 fs hb;have sb:b7 X _ b _ _:=ih.b b cb' h1 _ _ hb;split at hr
      ·rename_i CE hgl;split at hr
       ·rename_i hsub;obtain ⟨rfl,rfl,rfl,rfl,rfl⟩:=And.intro xe.p_ (And.intro xe.w_ (And.intro xe.K_ (And.intro xe.mg_ xe.gB)));obtain ⟨m1,m2⟩:=R.sub C0 CE true hsub.1;have hv:(ρ1.set i (.val (.exc C0 fs)))[i]?=some (.val (.exc C0 fs)):=F3 hsub.2;have hlx:X.env.scope.names.lookup x'=some .local:=by rw [xe.sc_];exact hl
        cases hh:run G cl [.asg (.nm j) (.var i) [i]] (ρ1.set i (.val (.exc C0 fs))) with
        |none=>rw [hh] at hr;cases hr
        |some o'=>
         rw [hh] at hr;obtain rfl:=yZ hv hh;cases hr;show DS X _ _ (.nx (trR z dx _));rw [br];refine vt (o:=.nx _) xf.hst xf.hfr sb (xe.gl hg) (R.xh c CE hgl) m2 m1 xe.ndX (xe.at h2) hlx (fun a=>?_) xe.nox d1;have e:(trR z dx ρ1).set i (.val (.exc C0 fs))=trR z dx (ρ1.set i (.val (.exc C0 fs))):=by rw [br];rfl
         have e3:trR z dx ((ρ1.set i (.val (.exc C0 fs))).set j (.val (.exc C0 fs)))=(trR z dx (ρ1.set i (.val (.exc C0 fs)))).set j (.val (.exc C0 fs)):=by rw [br];rfl
         rw [e,e3];exact gJ (sJ (X:=X.inH a) xe.ndX (xe.at h3) (xe.loc ly) (nQ (X:=X.inH a) (xe.at h2) (.inl hlx) (o6 hv) e1 e2) rfl (.inl (xe.fnx h3))) pO
       ·cases hr
      ·cases hr
     ·cases hr
     ·rename_i hn1 hn2;have sb:=ih.b b cb' h1 _ _ hr;cases o with
      |nx ρ'=>exact jI sb xe.nox
      |rt d=>exact jI sb xe.nox
      |fr c=>exact jI sb xe.nox
      |xc ρ' d=>exact absurd hr (hn2 ρ' d)
    ·cases h
   ·cases h
  ·cases h
 ·cases h
end
set_option autoImplicit true
set_option relaxedAutoImplicit true
section
variable {ca:Bool} {P:Program} {wd:World} {K:Frag} {mg:Str->Option Value} {base:Heap} {G:Prg} {cl:Str->List D->Option Rs} {k kc n:Nat} {X:Cx} {sc:Scope} {N:List Str} {w:Nat} {ce:CE} {z dx:Addr} {ρ:Rho} {pos:Pos}
theorem Wk.EU:∀{ρ:Rho} {i:Nat},Wk ρ (ρ.set i .any):=fun {ρ i}=>⟨by simp,fun j x h=>by
 by_cases hj:i=j
 ·subst hj;have hi:i<ρ.length:=by have:=(FS.mp h).1;simpa using this
  rw [F3 hi] at h;exact .inl (Gi h).symm
 ·rw [F4 hj] at h;exact .inr h⟩
theorem SS.fgt:∀{L:List Nat} {ρ:Rho},SS X z dx sts (jL L ρ) o->SS X z dx sts ρ o
 |[],_,h=>h
 |i::L,ρ,h=>by
  have h':=SS.fgt (L:=L) (ρ:=ρ.set i .any) h;have w:Wk (trR z dx ρ) (trR z dx (ρ.set i .any)):=by rw [br];exact Wk.EU
  cases o with
  |nx ρ'=>exact lj w h'
  |rt d=>exact lj w h'
  |fr c=>exact lj w h'
  |xc ρ' d=>exact vA w h'
theorem Ac (h:run G cl (.fgt L::r) ρ=some o):run G cl r (jL L ρ)=some o:=by
 unfold run at h;have e:af G cl (.fgt L) ρ=some (.nx (jL L ρ)):=by rw [af]
 rw [e] at h;exact h
theorem sR (h:l=erL b):(∃L r,b=.fgt L::r∧l=erL r)∨(b=[]∧l=[])∨∃s r,b=s::r∧l=er1 s::erL r:=by
 cases b with
 |nil=>exact .inr (.inl ⟨rfl,by rw [h];rfl⟩)
 |cons s r=>
  cases s with
  |fgt L=>exact .inl ⟨L,r,rfl,by rw [h,erL]⟩
  |_=>exact .inr (.inr ⟨_,r,rfl,by rw [h,erL];intro L z;cases z⟩)
theorem f_ (R:Row P wd K mg base G) (C:Calls P wd K mg base G kc cl) (hk:kc+2<=k) (xf:XF P wd K mg base X sc N k):∀n,Aq G cl X sc N z dx n:=by
 intro n
 induction n with
 |zero=>exact ⟨fun st s h=>(by unfold cS1 at h;cases h),fun sts b h=>(by unfold cS at h;cases h)⟩
 |succ n ih=>
  refine ⟨fun st s h ρ o hr=>Av R C hk xf ih h hr,fun sts b=>?_⟩
  induction b generalizing sts with
  |nil=>
   intro h ρ o hr;unfold run at hr;cases hr;unfold cS at h;split at h
   ·exact pO
   ·split at h
    ·cases h
    ·cases h
  |cons s0 r0 ihb=>
   intro h ρ o hr;rcases sR (b:=s0::r0) rfl with ⟨L,r,eb,el⟩|⟨eb,el⟩|⟨s,r,eb,el⟩
   ·cases eb;rw [el] at h;exact SS.fgt (ihb sts h _ _ (Ac hr))
   ·cases eb
   ·cases eb;rw [el] at h;unfold cS at h;split at h
    ·cases h
    ·split at h
     ·rename_i s0' r0' h1 h2;cases h;exact Ew xf.xe.nox (fun ρ o h=>ih.s _ _ h1 ρ o h) (fun ρ o h=>ih.b _ _ h2 ρ o h) hr
     ·cases h
end
theorem kY {CX:CXT} {P:Program} {wd:World} {K:Frag} {mg:Str->Option Value} {base:Heap} {N ps:List Str} {qual:Str} {st:Stmt} {f:Addr} {cd:Value} {A:Around} {outer:List PySem.Env} {s:Shared} {H:Hp} {E:XK} {k:Nat}
  (S:bP N ps (aj st)) (hr:aE k (A.deeper (envOfC qual (aj st) s.heap.objs.size f cd))):XF P wd K mg base (b9 CX P wd K mg base N qual (aj st) f cd A outer s H E).nox (aj st) N k where
 xe:={p_:=rfl,w_:=rfl,K_:=rfl,mg_:=rfl,gB:=rfl,sc_:=rfl,N_:=rfl,nd:=S.nd,mW:=fun _=>rfl,m5:=fun _=>hr,units:=hr.units,nox:=fun _ _ z=>z,fn:=fun _ _ _ _=>rfl}
 pass:=PassesOwn.never
 hst:=rfl
 hfr:=rfl
 blk:=by
  show (if (aj st).kind.isAnnotationScope then _ else (aj st).kind)=_;rw [S.kind];rfl
section
variable {P:Program} {wd:World} {K:Frag} {mg:Str->Option Value} {base:Heap} {G:Prg}
theorem kH {z dx:Addr} {ds:List D} {n:Nat}:trR z dx (ds.map .val++List.replicate n .nil)=ds.map .val++List.replicate n .nil:=by
 unfold trR;rw [List.map_append,List.map_map,List.map_replicate]
 congr 1
theorem mn {key:Str} {C:Addr} {d:Def} {N ps:List Str} {n:Nat} (df:G.defs key=some (some C,d)) (h1:d.slots=N.length) (h2:d.ao=ps.length) (ds:List D) (r:Rs) (h:kal G (n+1) key ds=some r):
  ds.length+1=ps.length∧((∃ρ' a b fs,run G (kal G n) d.body (.new C 0 0 []::(ds.map .val++List.replicate (N.length - (ds.length+1)) .nil))=some (.nx ρ')∧ρ'[0]?=some (.new C a b fs)∧r=.ok (.ins C fs))∨
   ∃ρ' x,run G (kal G n) d.body (.new C 0 0 []::(ds.map .val++List.replicate (N.length - (ds.length+1)) .nil))=some (.xc ρ' x)∧r=.xc x):=by
 unfold kal at h;rw [df] at h;unfold dF at h;dsimp only at h;split at h
 ·rename_i hl;rw [h1] at h;refine ⟨by rw [←h2];exact hl.1,?_⟩;split at h
  ·rename_i ρ' q;split at h
   ·rename_i C' a b fs h0;split at h
    ·rename_i hC;subst hC;cases h;exact .inl ⟨ρ',a,b,fs,q,h0,rfl⟩
    ·cases h
   ·cases h
  ·rename_i ρ' x' q;cases h;exact .inr ⟨ρ',x',q,rfl⟩
  ·cases h
 ·cases h
theorem uX (R:Row P wd K mg base G):∀n,Calls P wd K mg base G (3*n+3) (kal G n):=by
 intro n
 induction n with
 |zero=>
  refine ⟨fun key d f fd ps L=>?_,fun key d f fd ps L=>?_,fun key C d f fd ps L=>?_,fun key C d f fd ps L ds r h=>?_⟩
  ·have no:∀vs H Q E,¬spR K (prR (kal G 0) key) vs H Q E:=fun vs H Q E ⟨S,ds,r,_,_,p,_⟩=>by
    cases r with
    |ok d=>obtain ⟨r,h,_⟩:=p;unfold kal at h;cases h
    |xc d=>have h:kal G 0 key ds=some (.xc d):=p;unfold kal at h;cases h
   exact ⟨fun vs H Q E h=>(no _ _ _ _ h).elim,fun A outer s H args us vs Q E hr he hb hv hs=>(no _ _ _ _ hs).elim⟩
  ·have no:∀vs H Q E,¬lO K (prF (kal G 0) key) vs H Q E:=fun vs H Q E ⟨S,ds,c,_,_,p,_⟩=>by
    have h:kal G 0 key ds=some (.fr c):=p;unfold kal at h;cases h
   exact ⟨fun vs H Q E h=>(no _ _ _ _ h).elim,fun A outer s H args us vs Q E hr he hb hv hs=>(no _ _ _ _ hs).elim⟩
  ·have no:∀vs H Q E,¬lP K C (prI (kal G 0) C key) vs H Q E:=fun vs H Q E ⟨S,x,dx,us,ds,r,_,_,_,_,_,p,_⟩=>by
    cases r with
    |ok fs=>have h:kal G 0 key ds=some (.ok (.ins C fs)):=p;unfold kal at h;cases h
    |xc d=>have h:kal G 0 key ds=some (.xc d):=p;unfold kal at h;cases h
   exact ⟨fun vs H Q E h=>(no _ _ _ _ h).elim,fun A outer s H args us vs Q E hr he hb hv hs=>(no _ _ _ _ hs).elim⟩
  ·unfold kal at h;cases h
 |succ n ih=>
  have hk:3*(n+1)+3=(3*n+5)+1:=by omega
  refine ⟨fun key d f fd ps L=>?_,fun key d f fd ps L=>?_,fun key C d f fd ps L=>?_,fun key C d f fd ps L ds r h=>?_⟩
  ·obtain ⟨x,qual,st,N,F,S,hc,h1,h2⟩:=L.ex;rw [hk];have shape:∀ds r,kal G (n+1) key ds=some r->ds.length=ps.length∧∃o,run G (kal G n) d.body (aO N ds)=some o∧r=(match o with|.nx _=>.ok .non|.rt x=>.ok x|.fr c=>.fr c|.xc _ x=>.xc x):=fun ds r h=>by
    unfold kal at h;rw [L.df] at h;unfold dF at h;dsimp only at h;split at h
    ·rename_i hl;rw [h1] at h;refine ⟨by rw [←h2];exact hl.1,?_⟩;split at h
     ·rename_i ρ' q;cases h;exact ⟨_,q,rfl⟩
     ·rename_i x' q;cases h;exact ⟨_,q,rfl⟩
     ·rename_i c q;cases h;exact ⟨_,q,rfl⟩
     ·rename_i ρ' x' q;cases h;exact ⟨_,q,rfl⟩
     ·cases h
    ·cases h
   refine E6 F S (fun ds r p=>?_) (fun cdv A outer s H E ds d' hr p=>?_) (fun cdv A outer s H E ds d' hr p=>?_)
   ·cases r with
    |ok d'=>obtain ⟨r,h,_⟩:=p;exact (shape ds r h).1
    |xc d'=>exact (shape ds _ p).1
   ·obtain ⟨r,h,hv⟩:=p;obtain ⟨_,o,ho,e⟩:=shape ds r h;have B:=(f_ (z:=0) (dx:=0) R ih (by omega) (kY (CX:=CXA P wd) (P:=P) (wd:=wd) (K:=K) (mg:=mg) (base:=base) (outer:=outer) (H:=H) (E:=E) S hr) 60).b _ _ hc _ o ho;have e0:trR 0 0 (aO N ds)=aO N ds:=kH;cases o with
    |nx ρ'=>subst e;cases hv;refine ⟨.nx (trR 0 0 ρ'),rfl,?_⟩;have B':DSs _ _ _ _:=B;rw [e0] at B';exact B'
    |rt x'=>subst e;cases hv;refine ⟨.rt _,rfl,?_⟩;have B':DSs _ _ _ _:=B;rw [e0] at B';exact B'
    |fr c=>subst e;cases hv;refine ⟨.rfx c,rfl,?_⟩;have B':DSs _ _ _ _:=B;rw [e0] at B';exact B'
    |xc ρ' x'=>subst e;cases hv
   ·obtain ⟨_,o,ho,e⟩:=shape ds _ p;have B:=(f_ (z:=0) (dx:=0) R ih (by omega) (kY (CX:=CXA P wd) (P:=P) (wd:=wd) (K:=K) (mg:=mg) (base:=base) (outer:=outer) (H:=H) (E:=E) S hr) 60).b _ _ hc _ o ho;have e0:trR 0 0 (aO N ds)=aO N ds:=kH;cases o with
    |nx ρ'=>cases e
    |rt x'=>cases e
    |fr c=>cases e
    |xc ρ' x'=>cases e;refine ⟨trR 0 0 ρ',?_⟩;have B':b7 _ _ _ _ _:=B;rw [e0] at B';exact B'
  ·obtain ⟨x,qual,st,N,F,S,hc,h1,h2⟩:=L.ex;rw [hk];have shape:∀ds c,kal G (n+1) key ds=some (.fr c)->ds.length=ps.length∧run G (kal G n) d.body (aO N ds)=some (.fr c):=fun ds r h=>by
    unfold kal at h;rw [L.df] at h;unfold dF at h;dsimp only at h;split at h
    ·rename_i hl;rw [h1] at h;refine ⟨by rw [←h2];exact hl.1,?_⟩;split at h
     ·cases h
     ·cases h
     ·rename_i c q;cases h;exact q
     ·cases h
     ·cases h
    ·cases h
   refine DZ F S (fun ds c p=>(shape ds c p).1) (fun cdv A outer s H E ds c hr p=>?_);have B:=(f_ (z:=0) (dx:=0) R ih (by omega) (kY (CX:=CX0) (P:=P) (wd:=wd) (K:=K) (mg:=mg) (base:=base) (outer:=outer) (H:=H) (E:=E) S hr) 60).b _ _ hc _ _ (shape ds c p).2;have e0:trR 0 0 (aO N ds)=aO N ds:=kH;have B':DSs _ _ _ _:=B;rw [e0] at B';exact B'
  ·obtain ⟨x,qual,st,N,F,S,hc,h1,h2⟩:=L.ex;rw [hk];have shape:=mn (C:=C) (n:=n) L.df h1 h2;have e0:∀z dx:Addr,∀ds:List D,trR z dx (.new C 0 0 []::(ds.map .val++List.replicate (N.length - (ds.length+1)) .nil))=.new C z dx []::(aO N (.non::ds)).tail:=fun z dx ds=>by
    show Sl.new C z dx []::trR z dx (ds.map .val++List.replicate (N.length - (ds.length+1)) .nil)=_;rw [kH];rfl
   refine D0 F S (fun ds r p=>?_) (fun cdv A outer s H E ds fs z dx hr p=>?_) (fun cdv A outer s H E ds d' z dx hr p=>?_)
   ·cases r with
    |ok fs=>exact (shape ds _ p).1
    |xc d'=>exact (shape ds _ p).1
   ·obtain ⟨_,h⟩:=shape ds _ p;rcases h with ⟨ρ',a,b,fs',ho,h0,e⟩|⟨ρ',x',ho,e⟩
    ·cases e;have B:=(f_ (z:=z) (dx:=dx) R ih (by omega) (kY (CX:=CXA P wd) (P:=P) (wd:=wd) (K:=K) (mg:=mg) (base:=base) (outer:=outer) (H:=H) (E:=E) S hr) 60).b _ _ hc _ _ ho;have B':DSs _ _ _ _:=B;rw [e0] at B';exact ⟨_,by rw [List.getElem?_map,h0];rfl,B'⟩
    ·cases e
   ·obtain ⟨_,h⟩:=shape ds _ p;rcases h with ⟨ρ',a,b,fs',ho,h0,e⟩|⟨ρ',x',ho,e⟩
    ·cases e
    ·cases e;have B:=(f_ (z:=z) (dx:=dx) R ih (by omega) (kY (CX:=CXA P wd) (P:=P) (wd:=wd) (K:=K) (mg:=mg) (base:=base) (outer:=outer) (H:=H) (E:=E) S hr) 60).b _ _ hc _ _ ho;have B':b7 _ _ _ _ _:=B;rw [e0] at B';exact ⟨_,B'⟩
  ·obtain ⟨x,qual,st,N,F,S,hc,h1,h2⟩:=L.ex;obtain ⟨_,h⟩:=mn (C:=C) (n:=n) L.df h1 h2 ds r h;rcases h with ⟨ρ',a,b,fs',ho,h0,e⟩|⟨ρ',x',ho,e⟩
   ·exact .inl ⟨fs',e⟩
   ·exact .inr ⟨x',e⟩
end
set_option autoImplicit true
set_option relaxedAutoImplicit true
noncomputable def asc {α β:Type} [DecidableEq α]:List (α×β)->α->Option β
 |[],_=>none
 |(a,b)::l,x=>if a=x then some b else asc l x
theorem cH {α β:Type} [DecidableEq α] {l:List (α×β)} {x:α} {y:β} (h:asc l x=some y):(x,y)∈l:=by
 induction l with
 |nil=>cases h
 |cons p l ih=>
  obtain ⟨a,b⟩:=p;unfold asc at h;split at h
  ·rename_i e;cases h;rw [e];exact Fa
  ·exact EQ _ (ih h)
noncomputable def eL (n c:String):Bool:=n==c||(n=="bool"&&c=="int")
noncomputable def kL:List String:=["NoneType","bool","int","str","tuple","list","dict"]
noncomputable def kK:List String:=["int","bool","list","tuple","str","dict"]
structure Src where
 gl:List (Str×D):=[]
 fn:List Str:=[]
 ini:List (Str×(Addr×Str)):=[]
 exc:List (Str×(Addr×List Str)):=[]
 mth:List ((Addr×Str)×Str):=[]
 fok:List (Addr×Str):=[]
 xok:List (Addr×Str):=[]
 qT:List ((Addr×Addr)×Bool):=[]
 qV:List ((Addr×Addr)×Bool):=[]
 qU:List (Addr×Bool):=[]
 sub:List ((Addr×Addr)×Bool):=[]
 defs:List (Str×(Option Addr×Def)):=[]
noncomputable def Src.kit (s:Src):Tag->Tag->Option Bool
 |.ty n,.ty c=>if n∈kL∧c∈kK then some (eL n c) else none
 |.cl C,.cl E=>asc s.qT (C,E)
 |.xc C,.cl E=>asc s.qV (C,E)
 |.xc C,.ty c=>if c="ValueError" then asc s.qU C else none
 |_,_=>none
noncomputable def Src.prg (s:Src):Prg where
 glob:=asc s.gl
 fn:=fun x=>if x∈s.fn then some x else none
 ini:=asc s.ini
 exc:=asc s.exc
 mth:=fun C m=>asc s.mth (C,m)
 fok:=fun C f=>decide ((C,f)∈s.fok)
 xok:=fun C f=>decide ((C,f)∈s.xok)
 kit:=s.kit
 sub:=fun C E=>asc s.sub (C,E)
 defs:=asc s.defs
noncomputable def ER (mg:Str->Option Value) (x:Str):D->Prop
 |.ty n=>mg x=none∧bootBuiltins x=some (.type n)
 |.cl C=>mg x=some (.ref C)
 |.int i=>∃t,mg x=some (.int i t)
 |_=>False
noncomputable def jE (K:Frag) (C:Addr):Bool:=plainGet K C Str.empty&&hasDictIn K C&&plainOver K C&&findIn K (.ref C) "__setattr__"==some (some (.builtin "object.__setattr__"))&&findIn K (.ref C) "__class__"==some (some (.builtin "object.__class__"))&&
 specialIn K (.builtin "object.__class__") "__get__"==some (some (.builtin "getset_descriptor.__get__"))&&takesIn K (.builtin "object.__class__")==some true&&mroIn K C (.type "object")==some true
theorem n9 {K:Frag} {C:Addr} (h:jE K C=true):Isi K C:=by
 unfold jE at h;simp only [Bool.and_eq_true,beq_iff_eq] at h;obtain ⟨⟨⟨⟨⟨⟨⟨h1,h2⟩,h3⟩,h4⟩,h5⟩,h6⟩,h7⟩,h8⟩:=h;exact ⟨⟨h1,h2,h3,h4⟩,h5,h6,h7,h8⟩
noncomputable def Dg (K:Frag):Bool:=kL.all fun n=>kK.all fun c=>kitOne K (.type n) (.type c)==some (eL n c)
noncomputable def uN:List Str:=["len","sum","all","any","abs","int","tuple","list","dict","min","max","isinstance","range","zip","enumerate"]
theorem AE (h:bnC x=some b):x∈uN:=by
 unfold bnC at h
 repeat (rcases n_ h with ⟨hx,hb⟩|h;(subst hx;decide))
 cases h
noncomputable def GF (K:Frag) (q:Str) (st:Stmt):Prop:=∃f,nsIn K mainGlobals q=some (some (.ref f))∧∃fd,Fun K q q st f fd
noncomputable def MF (K:Frag) (C:Addr) (m q:Str) (st:Stmt):Prop:=∃f,findIn K (.ref C) m=some (some (.ref f))∧isFn K (.ref f)=true∧∃fd,Fun K m q st f fd
theorem D4 {K:Frag} {q:Str} {st:Stmt} {f:Addr} {oc:Value} {od an:Option Addr} {osl:Array (Option Value)} {kV doc pm cdv ct:Value} (a:nsIn K mainGlobals q=some (some (.ref f))) (l:K.lookup f=some ⟨oc,od,.func (fnOf q q (dj st) (a7 st) (aj st) .none kV doc pm an cdv ct),osl⟩) (c:codeIn K cdv q=true) (k:keepIn K (.ref f)=true):GF K q st:=⟨f,a,_,sX l c k⟩
theorem Eb {K:Frag} {C:Addr} {m q:Str} {st:Stmt} {f:Addr} {oc:Value} {od an:Option Addr} {osl:Array (Option Value)} {kV doc pm cdv ct:Value} (a:findIn K (.ref C) m=some (some (.ref f))) (i:isFn K (.ref f)=true) (l:K.lookup f=some ⟨oc,od,.func (fnOf m q (dj st) (a7 st) (aj st) .none kV doc pm an cdv ct),osl⟩) (c:codeIn K cdv q=true) (k:keepIn K (.ref f)=true):MF K C m q st:=⟨f,a,i,_,sX l c k⟩
structure DT (G:Prg) (key:Str) (C:Option Addr) (d:Def) (x q:Str) (st:Stmt) (ps:List Str):Prop where
 N:∃N,bP N ps (aj st)∧cS 60 (aj st) N (a7 st)=some (erL d.body)∧d.slots=N.length
 bd:∀(kV doc pm:Value) (an:Option Addr) (cdv ct:Value) (us:List Value),us.length=ps.length->bindArgs (fnOf x q (dj st) (a7 st) (aj st) .none kV doc pm an cdv ct) ⟨us,[]⟩=pure (ps.zip us)
 df:G.defs key=some (C,d)
 ao:d.ao=ps.length
 ini:d.init=C.isSome
noncomputable def nmN (st:Stmt) (ps:List Str):List Str:=ps++(((aj st).names.filter fun p=>p.2==.local||p.2==.cell).map (·.1)).filter fun x=>!ps.contains x
theorem DT.of {G:Prg} {key:Str} {C:Option Addr} {d:Def} {x q:Str} {st:Stmt} {ps:List Str} (S:bP (nmN st ps) ps (aj st)) (h2:cS 60 (aj st) (nmN st ps) (a7 st)=some (erL d.body)) (h3:d.slots=(nmN st ps).length)
  (bd:∀(kV doc pm:Value) (an:Option Addr) (cdv ct:Value) (us:List Value),us.length=ps.length->bindArgs (fnOf x q (dj st) (a7 st) (aj st) .none kV doc pm an cdv ct) ⟨us,[]⟩=pure (ps.zip us)) (df:G.defs key=some (C,d)) (ao:d.ao=ps.length) (ini:d.init=C.isSome):DT G key C d x q st ps:=⟨⟨_,S,h2,h3⟩,bd,df,ao,ini⟩
theorem DT.lk {K:Frag} {G:Prg} {key x q:Str} {C:Option Addr} {d:Def} {st:Stmt} {ps:List Str} {f:Addr} {fd:FuncData} (t:DT G key C d x q st ps) (F:Fun K x q st f fd):Lk K G key C d f fd ps:=by
 obtain ⟨N,h1,h2,h3⟩:=t.N;exact ⟨t.df,F.binds t.bd,F.kp,⟨x,q,st,N,F,h1,h2,h3,t.ao⟩,t.ini⟩
theorem lenZ {P:List Value->Prop} (h:P []):∀us:List Value,us.length=0->P us
 |[],_=>h
theorem qW {P:List Value->Prop} {n:Nat} (h:∀a us,us.length=n->P (a::us)):∀us:List Value,us.length=n+1->P us
 |a::us,e=>h a us (Nat.succ.inj e)
theorem BQ {P:List Value->Prop} (h:∀a0,P [a0]):∀us:List Value,us.length=1->P us:=
 qW fun a=>lenZ (P:=fun us=>P (a::us)) (h a)
theorem BR {P:List Value->Prop} (h:∀a0 a1,P [a0,a1]):∀us:List Value,us.length=2->P us:=
 qW fun a=>BQ (P:=fun us=>P (a::us)) (h a)
theorem BS {P:List Value->Prop} (h:∀a0 a1 a2,P [a0,a1,a2]):∀us:List Value,us.length=3->P us:=
 qW fun a=>BR (P:=fun us=>P (a::us)) (h a)
theorem Fp {P:List Value->Prop} (h:∀a0 a1 a2 a3,P [a0,a1,a2,a3]):∀us:List Value,us.length=4->P us:=
 qW fun a=>BS (P:=fun us=>P (a::us)) (h a)
section
variable {K:Frag} {h:Heap} {mg:Str->Option Value} {G:Prg} {q m key:Str} {st:Stmt} {d:Def} {ps:List Str} {C:Addr}
theorem GF.row (X:K.In h) (GG:h.Ns mainGlobals mg) (t:DT G q none d q q st ps) (e:GF K q st):∃d f fd ps,mg q=some (.ref f)∧Lk K G q none d f fd ps:=by
 obtain ⟨f,a,fd,F⟩:=e;exact ⟨d,f,fd,ps,mg_of X GG a,t.lk F⟩
theorem MF.row (o:jE K C=true) (t:DT G key none d m key st ps) (e:MF K C m key st):∃d f fd ps,Meth K C m f∧Cls K C∧Lk K G key none d f fd ps:=by
 obtain ⟨f,a,i,fd,F⟩:=e;exact ⟨d,f,fd,ps,⟨a,i,F.kp⟩,(n9 o).cl,t.lk F⟩
theorem MF.ini (X:K.In h) (GG:h.Ns mainGlobals mg) (b:nsIn K mainGlobals q=some (some (.ref C))) (mk:makesIn K C=true) (kc:keepIn K (.ref C)=true) (t:DT G key (some C) d "__init__" key st ps) (e:MF K C "__init__" key st):∃d f fd ps,mg q=some (.ref C)∧Mk K C f∧Lk K G key (some C) d f fd ps:=by
 obtain ⟨f,a,i,fd,F⟩:=e;exact ⟨d,f,fd,ps,mg_of X GG b,⟨mk,a,i,kc⟩,t.lk F⟩
end
section
variable {P:Program} {w:World} {K:Frag} {mg:Str->Option Value} {base:Heap} {s:Src}
theorem CY (hblt:∀x∈uN,mg x=none) (hgl:∀p∈s.gl,ER mg p.1 p.2) (hty:Dg K=true)
  (hcl:∀p∈s.qT,kitOne K (.ref p.1.1) (.ref p.1.2)=some p.2∧Isi K p.1.1) (hxc:∀p∈s.qV,kitOne K (.ref p.1.1) (.ref p.1.2)=some p.2∧jz K p.1.1) (hxv:∀p∈s.qU,kitOne K (.ref p.1) (.type "ValueError")=some p.2∧jz K p.1)
  (hfn:∀x∈s.fn,∃d f fd ps,mg x=some (.ref f)∧Lk K s.prg x none d f fd ps)
  (hini:∀p∈s.ini,∃d f fd ps,mg p.1=some (.ref p.2.1)∧Mk K p.2.1 f∧Lk K s.prg p.2.2 (some p.2.1) d f fd ps)
  (hmth:∀p∈s.mth,∃d f fd ps,Meth K p.1.1 p.1.2 f∧Cls K p.1.1∧Lk K s.prg p.2 none d f fd ps)
  (hfok:∀p∈s.fok,Cls K p.1∧b5 K p.1 p.2) (hxok:∀p∈s.xok,eC K p.1∧b5 K p.1 p.2)
  (hexc:∀p∈s.exc,Xc P w K mg base p.1 p.2.1 p.2.2) (hsub:∀p∈s.sub,mroIn K p.1.1 (.ref p.1.2)=some p.2∧nj K p.1.2):Row P w K mg base s.prg where
 blt:=fun x b h=>hblt x (AE h)
 glob:=fun X hK hmg x d h ok g ρ pos=>by
  have:=hgl _ (cH h);rw [←hmg] at this;unfold bT at ok;simp only [Bool.and_eq_true,Bool.not_eq_true'] at ok;obtain ⟨⟨o1,o2⟩,o3⟩:=ok;have o3':x≠"__name__":=fun z=>by rw [z] at o3;revert o3;decide
  cases d with
  |ty n=>exact DU g this.1 this.2 o3' o1
  |cl C=>exact DR g this o1
  |int i=>obtain ⟨t,ht⟩:=this;exact u_ g ht o1
  |_=>exact this.elim
 xh:=fun x C h=>hgl _ (cH h)
 kit:=fun t u q h=>by
  change s.kit t u=some q at h;cases t with
  |ty n=>
   cases u with
   |ty c=>
    unfold Src.kit at h;dsimp only at h;split at h
    ·rename_i hm;cases h;have:=F7.mp (F7.mp hty n hm.1) c hm.2;exact ⟨beq_iff_eq.mp this,fun _ z=>(nomatch z),fun _ z=>(nomatch z)⟩
    ·cases h
   |cl C=>cases h
   |xc C=>cases h
  |cl C=>
   cases u with
   |ty c=>cases h
   |cl E=>have:=hcl _ (cH h);exact ⟨this.1,fun _ z=>by cases z;exact this.2,fun _ z=>(nomatch z)⟩
   |xc E=>cases h
  |xc C=>
   cases u with
   |ty c=>
    unfold Src.kit at h;dsimp only at h;split at h
    ·rename_i e;subst e;have:=hxv _ (cH h);exact ⟨this.1,fun _ z=>(nomatch z),fun _ z=>by cases z;exact this.2⟩
    ·cases h
   |cl E=>have:=hxc _ (cH h);exact ⟨this.1,fun _ z=>(nomatch z),fun _ z=>by cases z;exact this.2⟩
   |xc E=>cases h
 fn:=fun x key h=>by
  change (if x∈s.fn then some x else none)=some key at h;split at h
  ·rename_i hm;cases h;exact hfn x hm
  ·cases h
 ini:=fun x C key h=>hini _ (cH h)
 mth:=fun C m key h=>hmth _ (cH h)
 fok:=fun C f h=>hfok _ (of_decide_eq_true h)
 xok:=fun C f h=>hxok _ (of_decide_eq_true h)
 exc:=fun x C fs h=>hexc _ (cH h)
 sub:=fun C E b h=>hsub _ (cH h)
end
theorem jW {K:Frag} {H:Hp} {S:CT.Ad}:∀ns:List Int,ag K H S (ns.map .int) (ns.map V.int)
 |[]=>.nil
 |n::ns=>.cons (.int n) (jW ns)
noncomputable def oj (G:Prg) (n:Nat) (ds:List D) (d:D):Prop:=prR (kal G n) "law" ds (.ok d)
theorem BL {K:Frag} {G:Prg} {n:Nat} {H:Hp} {a:Addr} {ns:List Int} (hG:kal G n "law" [.lst (ns.map .int)]=some (.ok (.bl true))) (h:SqL K H a (ns.map V.int)):spD K (oj G n) [.ref a] H (fun v _=>v=.bl true) fun _ _ _=>False:=by
 refine ⟨no,[.lst (ns.map .int)],.bl true,fun _ z=>z.elim,.cons ?_ .nil,⟨_,hG,rfl⟩,fun v H' _ r=>r.blV⟩;rcases h with h|h
 ·exact .lst h (fun z=>z) (jW ns)
 ·exact .lstK h (jW ns)
theorem Ap {K:Frag} {C:Addr} (h:j2 K C=true) (ty:typeIn K (.ref C)=some (.type "type")):nj K C:=by
 have c:=(jh h).cl;obtain ⟨cd,hc,_⟩:=any_some c.ov;exact ⟨⟨cd,hc⟩,ty,c.mro (by decide)⟩
noncomputable def gl1 (K:Frag):Str×D->Bool
 |(x,.ty n)=>nsIn K mainGlobals x==some none&&bootBuiltins x==some (.type n)
 |(x,.cl C)=>nsIn K mainGlobals x==some (some (.ref C))
 |(x,.int i)=>match nsIn K mainGlobals x with
  |some (some (.int j _))=>i==j
  |_=>false
 |_=>false
noncomputable def qN (K:Frag) (C:Addr):Bool:=j2 K C&&typeIn K (.ref C)==some (.type "type")
structure mS (K:Frag) (s:Src):Prop where
 blt:(uN.all fun x=>nsIn K mainGlobals x==some none)=true
 gl:s.gl.all (gl1 K)=true
 ty:Dg K=true
 kC:(s.qT.all fun p=>kitOne K (.ref p.1.1) (.ref p.1.2)==some p.2&&jE K p.1.1)=true
 kX:(s.qV.all fun p=>kitOne K (.ref p.1.1) (.ref p.1.2)==some p.2&&j2 K p.1.1)=true
 kV:(s.qU.all fun p=>kitOne K (.ref p.1) (.type "ValueError")==some p.2&&j2 K p.1)=true
 fo:(s.fok.all fun p=>jE K p.1&&findIn K (.ref p.1) p.2==some none)=true
 ex:(s.exc.all fun p=>(p.2.2.isEmpty&&nsIn K mainGlobals p.1==some (some (.ref p.2.1)))&&(qN K p.2.1&&(excIn K p.2.1 bmV "ValueError.__new__"&&keepIn K (.ref p.2.1))))=true
 su:(s.sub.all fun p=>mroIn K p.1.1 (.ref p.1.2)==some p.2&&qN K p.1.2)=true
 it:(s.ini.all fun p=>(jE K p.2.1&&nsIn K mainGlobals p.1==some (some (.ref p.2.1)))&&(makesIn K p.2.1&&keepIn K (.ref p.2.1)))=true
theorem mS.ini {K:Frag} {s:Src} (o:mS K s) {p:Str×(Addr×Str)} (hp:p∈s.ini):(jE K p.2.1=true∧nsIn K mainGlobals p.1=some (some (.ref p.2.1)))∧makesIn K p.2.1=true∧keepIn K (.ref p.2.1)=true:=by
 have:=F7.mp o.it p hp;simpa only [Bool.and_eq_true,beq_iff_eq] using this
theorem z_ {P:Program} {w:World} {K:Frag} {h base:Heap} {mg:Str->Option Value} {s:Src} (X:K.In h) (Y:h.Ns mainGlobals mg) (o:mS K s) (hx:s.xok=[])
  (hfn:∀x∈s.fn,∃d f fd ps,mg x=some (.ref f)∧Lk K s.prg x none d f fd ps)
  (hini:∀p∈s.ini,∃d f fd ps,mg p.1=some (.ref p.2.1)∧Mk K p.2.1 f∧Lk K s.prg p.2.2 (some p.2.1) d f fd ps)
  (hmth:∀p∈s.mth,∃d f fd ps,Meth K p.1.1 p.1.2 f∧Cls K p.1.1∧Lk K s.prg p.2 none d f fd ps):Row P w K mg base s.prg:=by
 have ist:∀{C:Addr},qN K C=true->j2 K C=true∧typeIn K (.ref C)=some (.type "type"):=fun {C} h=>by
  unfold qN at h;simpa only [Bool.and_eq_true,beq_iff_eq] using h
 refine CY (s:=s) (fun x hx=>mg_none_of X Y (beq_iff_eq.mp (F7.mp o.blt x hx))) (fun p hp=>?_) o.ty (fun p hp=>?_) (fun p hp=>?_) (fun p hp=>?_) hfn hini hmth (fun p hp=>?_) (fun p hp=>by rw [hx] at hp;cases hp) (fun p hp=>?_) fun p hp=>?_
 ·have h:=F7.mp o.gl p hp;obtain ⟨x,d⟩:=p;cases d with
  |ty n=>
   have h':(nsIn K mainGlobals x==some none&&bootBuiltins x==some (.type n))=true:=h;simp only [Bool.and_eq_true,beq_iff_eq] at h';exact ⟨mg_none_of X Y h'.1,h'.2⟩
  |cl C=>exact mg_of X Y (beq_iff_eq.mp (show (nsIn K mainGlobals x==some (some (.ref C)))=true from h))
  |int i=>
   have h':(match nsIn K mainGlobals x with
    |some (some (.int j _))=>i==j
    |_=>false)=true:=h
   split at h'
   ·rename_i hq;have e:=beq_iff_eq.mp h';subst e;exact ⟨_,mg_of X Y hq⟩
   ·cases h'
  |_=>cases h
 ·have h:=F7.mp o.kC p hp;simp only [Bool.and_eq_true,beq_iff_eq] at h;exact ⟨h.1,n9 h.2⟩
 ·have h:=F7.mp o.kX p hp;simp only [Bool.and_eq_true,beq_iff_eq] at h;exact ⟨h.1,jh h.2⟩
 ·have h:=F7.mp o.kV p hp;simp only [Bool.and_eq_true,beq_iff_eq] at h;exact ⟨h.1,jh h.2⟩
 ·have h:=F7.mp o.fo p hp;simp only [Bool.and_eq_true,beq_iff_eq] at h;exact ⟨(n9 h.1).cl,h.2⟩
 ·have h:=F7.mp o.ex p hp;simp only [Bool.and_eq_true,beq_iff_eq] at h;obtain ⟨t1,t2⟩:=ist h.2.1;exact ⟨mg_of X Y h.1.2,(jh t1).cl,t2,fun _=>h.2.2⟩
 ·have h:=F7.mp o.su p hp;simp only [Bool.and_eq_true,beq_iff_eq] at h;obtain ⟨t1,t2⟩:=ist h.2;exact ⟨h.1,Ap t1 t2⟩
theorem BJ {P:Program} {w:World} {K:Frag} {h:Heap} {mg:Str->Option Value} {G:Prg} {n:Nat} {st:Stmt} {d:Def} {x:Str} {fa:Addr} (X:K.In h) (GG:h.Ns mainGlobals mg) (hfa:mg "law"=some (.ref fa)) (R:∀base,Row P w K mg base G) (t:DT G "law" none d "law" "law" st [x]) (e:GF K "law" st):
  ∃fd:FuncData,(∀(s:Shared) (v:Value),BindsTo s fd ⟨[v],[]⟩ [(x,v)])∧∀base:Heap,K.In base->base.Ns mainGlobals mg->aG P w K mg base CX0 (3*n+3) fa fd [x] (spD K (oj G n)):=by
 obtain ⟨f,a,fd,F⟩:=e;have e1:=hfa.symm.trans (mg_of X GG a);cases e1;refine ⟨fd,?_,fun base _ _=>CT.aG.okD ((uX (R base) n).fn _ _ _ _ _ (t.lk F))⟩;intro s v;obtain ⟨oc,od,kV,doc,pm,an,cdv,ct,osl,rfl,lk,hcd⟩:=F.ex;exact .of_eq (t.bd kV doc pm an cdv ct [v] rfl)
end IN
set_option autoImplicit true
set_option relaxedAutoImplicit true
open PySem IN CT
noncomputable def P.jN:IN.Def:={slots:=1,ao:=1,body:=[
(.ret (.and (.blt .isin [(.var 0),(.gl "int")]) (.nt (.blt .isin [(.var 0),(.gl "bool")]))) [0])]}
noncomputable def P.product:IN.Def:={slots:=3,ao:=1,body:=[
(.asg (.nm 1) (.lit (.int 1)) []),
(.fgt [2]),
(.for (.nm 2) (.var 0) [0] [(.asg (.nm 1) (.bin .mul (.var 1) (.var 2)) [1,2]),(.fgt [2])]),
(.ret (.var 1) [1])]}
noncomputable def P.gz:IN.Def:={slots:=1,ao:=1,body:=[
(.ife (.nt (.blt .isin [(.var 0),(.tup [(.gl "list"),(.gl "tuple")])])) [0] [(.ret (.lit (.bl false)) [])] []),
(.ife (.nt (.blt .all [(.comp 1 [] (.nm 0) (.var 0) (.lit (.bl true)) (.emit (.and (.fn "is_whole" [(.var 0)]) (.cmp .ge (.var 0) (.gl "LEAST_ROUND")))))])) [0] [(.ret (.lit (.bl false)) [])] []),
(.ret (.cmp .le (.fn "product" [(.var 0)]) (.gl "MOST_MEMBERS")) [0])]}
noncomputable def P.eI:IN.Def:={slots:=2,ao:=2,body:=[
(.ife (.nt (.mth (.var 0) "has" [(.var 1)])) [0,1] [(.rse "NoElement" [] [])] [])]}
noncomputable def P.gx:IN.Def:={slots:=1,ao:=1,body:=[
(.ret (.blt .len [(.mth (.var 0) "members" [])]) [0])]}
noncomputable def P.fR:IN.Def:={slots:=6,ao:=3,body:=[
(.exp (.mth (.var 0) "need" [(.var 2)]) [0,2]),
(.asg (.nm 3) (.ife (.cmp .lt (.var 1) (.lit (.int 0))) (.mth (.var 0) "back_of" [(.var 2)]) (.var 2)) [1,0,2]),
(.asg (.nm 4) (.blt .abs [(.var 1)]) [1]),
(.asg (.nm 5) (.mth (.var 0) "nought" []) [0]),
(.whl (.cmp .gt (.var 4) (.lit (.int 0))) [4] [(.ife (.cmp .eq (.bin .mod (.var 4) (.lit (.int 2))) (.lit (.int 1))) [4] [(.asg (.nm 5) (.mth (.var 0) "sum_of" [(.var 5),(.var 3)]) [0,5,3])] []),(.asg (.nm 3) (.mth (.var 0) "sum_of" [(.var 3),(.var 3)]) [0,3]),(.asg (.nm 4) (.bin .fdiv (.var 4) (.lit (.int 2))) [4])]),
(.ret (.var 5) [5])]}
noncomputable def P.dy:IN.Def:={slots:=2,ao:=2,init:=true,body:=[
(.ife (.nt (.fn "are_rounds" [(.var 1)])) [1] [(.rse "NoRounds" [] [])] []),
(.gN "rounds" (.blt .tuple [(.var 1)]) [1])]}
noncomputable def P.dN:IN.Def:={slots:=3,ao:=1,body:=[
(.asg (.nm 1) (.lst [(.tup [])]) []),
(.fgt [2]),
(.for (.nm 2) (.fld (.var 0) "rounds") [0] [(.asg (.nm 1) (.comp 2 [2] (.nm 0) (.var 1) (.lit (.bl true)) (.loop (.nm 1) (.blt .range [(.var 2)]) (.lit (.bl true)) (.emit (.bin .add (.var 0) (.tup [(.var 1)]))))) [2,1]),(.fgt [2])]),
(.ret (.var 1) [1])]}
noncomputable def P.dz:IN.Def:={slots:=2,ao:=2,body:=[
(.ife (.or (.nt (.blt .isin [(.var 1),(.gl "tuple")])) (.cmp .ne (.blt .len [(.var 1)]) (.blt .len [(.fld (.var 0) "rounds")]))) [1,0] [(.ret (.lit (.bl false)) [])] []),
(.ret (.blt .all [(.comp 2 [] (.tp [(.nm 0),(.nm 1)]) (.blt .zip [(.var 1),(.fld (.var 0) "rounds")]) (.lit (.bl true)) (.emit (.and (.fn "is_whole" [(.var 0)]) (.chn (.lit (.int 0)) (.var 0) (.var 1)))))]) [1,0])]}
noncomputable def P.cU:IN.Def:={slots:=1,ao:=1,body:=[
(.ret (.bin .mul (.tup [(.lit (.int 0))]) (.blt .len [(.fld (.var 0) "rounds")])) [0])]}
noncomputable def P.dM:IN.Def:={slots:=1,ao:=1,body:=[
(.ret (.lit (.bl true)) [])]}
noncomputable def P.eA:IN.Def:={slots:=3,ao:=3,body:=[
(.ret (.blt .tuple [(.comp 3 [] (.tp [(.nm 0),(.nm 1),(.nm 2)]) (.blt .zip [(.var 1),(.var 2),(.fld (.var 0) "rounds")]) (.lit (.bl true)) (.emit (.bin .mod (.bin .add (.var 0) (.var 1)) (.var 2))))]) [1,2,0])]}
noncomputable def P.eM:IN.Def:={slots:=1,ao:=1,body:=[
(.ife (.or (.nt (.blt .isin [(.var 0),(.gl "Group")])) (.or (.nt (.mth (.var 0) "is_even" [])) (.cmp .gt (.mth (.var 0) "size" []) (.gl "MOST_LOWER")))) [0] [(.rse "NoLower" [] [])] [])]}
noncomputable def P.gX:IN.Def:={slots:=1,ao:=1,body:=[
(.ife (.or (.nt (.blt .isin [(.var 0),(.gl "Rounds")])) (.cmp .gt (.mth (.var 0) "size" []) (.gl "MOST_UPPER"))) [0] [(.rse "NoUpper" [] [])] [])]}
noncomputable def P.jV:IN.Def:={slots:=2,ao:=1,body:=[
(.asg (.nm 1) (.mth (.var 0) "members" []) [0]),
(.ret (.comp 2 [1] (.nm 0) (.var 1) (.lit (.bl true)) (.loop (.nm 1) (.var 2) (.lit (.bl true)) (.emit (.tup [(.var 0),(.var 1)])))) [1])]}
noncomputable def P.dW:IN.Def:={slots:=7,ao:=3,body:=[
(.asg (.nm 3) .jG []),
(.fgt [4,5,6]),
(.for (.tp [(.nm 4),(.nm 5)]) (.fn "pairs_of" [(.var 1)]) [1] [(.asg (.nm 6) (.mth (.var 2) "get" [(.tup [(.var 4),(.var 5)])]) [2,4,5]),(.ife (.nt (.mth (.var 0) "has" [(.var 6)])) [0,6] [(.rse "NoCarry" [(.var 4),(.var 5)] [4,5])] []),(.put 3 (.tup [(.var 4),(.var 5)]) (.var 6) [4,5,6]),(.fgt [4,5,6])]),
(.ret (.var 3) [3])]}
noncomputable def P.dO:IN.Def:={slots:=4,ao:=4,init:=true,body:=[
(.exp (.fn "need_lower" [(.var 1)]) [1]),
(.exp (.fn "need_upper" [(.var 2)]) [2]),
(.gN "lower" (.var 1) [1]),
(.gN "upper" (.var 2) [2]),
(.gN "kept" (.fn "picked_carries" [(.var 1),(.var 2),(.var 3)]) [1,2,3])]}
noncomputable def P.d5:IN.Def:={slots:=3,ao:=3,body:=[
(.exp (.mth (.fld (.var 0) "upper") "need" [(.var 1)]) [0,1]),
(.exp (.mth (.fld (.var 0) "upper") "need" [(.var 2)]) [0,2]),
(.ret (.mth (.var 0) "carry_of" [(.var 1),(.var 2)]) [0,1,2])]}
noncomputable def P.cD:IN.Def:={slots:=3,ao:=3,body:=[
(.ret (.ix (.fld (.var 0) "kept") (.tup [(.var 1),(.var 2)])) [0,1,2])]}
noncomputable def P.eB:IN.Def:={slots:=1,ao:=1,body:=[
(.ret (.blt .dict [(.fld (.var 0) "kept")]) [0])]}
noncomputable def L.whole:IN.Def:={slots:=1,ao:=1,body:=[
(.ret (.and (.blt .isin [(.var 0),(.gl "int")]) (.nt (.blt .isin [(.var 0),(.gl "bool")]))) [0])]}
noncomputable def L.element:IN.Def:={slots:=4,ao:=2,body:=[
(.asg (.nm 2) (.lst []) []),
(.fgt [3]),
(.for (.nm 3) (.var 0) [0] [(.app 2 (.bin .mod (.var 1) (.var 3)) [1,3]),(.asg (.nm 1) (.bin .fdiv (.var 1) (.var 3)) [1,3]),(.fgt [3])]),
(.ret (.blt .tuple [(.var 2)]) [2])]}
noncomputable def L.gcd:IN.Def:={slots:=2,ao:=2,body:=[
(.whl (.cmp .ne (.var 1) (.lit (.int 0))) [1] [(.par 0 1 (.var 1) (.bin .mod (.var 0) (.var 1)) [0,1])]),
(.ret (.var 0) [0])]}
set_option autoImplicit true
set_option relaxedAutoImplicit true
open PySem IN CT
noncomputable def L.sum:IN.Def:={slots:=3,ao:=3,body:=[
(.ret (.blt .tuple [(.comp 3 [] (.tp [(.nm 0),(.nm 1),(.nm 2)]) (.blt .zip [(.var 1),(.var 2),(.var 0)]) (.lit (.bl true)) (.emit (.bin .mod (.bin .add (.var 0) (.var 1)) (.var 2))))]) [1,2,0])]}
noncomputable def L.iT:IN.Def:={slots:=3,ao:=3,body:=[
(.ret (.blt .tuple [(.comp 2 [1] (.tp [(.nm 0),(.nm 1)]) (.blt .zip [(.var 2),(.var 0)]) (.lit (.bl true)) (.emit (.bin .mod (.bin .mul (.var 2) (.var 0)) (.var 1))))]) [1,2,0])]}
noncomputable def L.drawn:IN.Def:={slots:=4,ao:=2,body:=[
(.asg (.nm 2) (.lst []) []),
(.fgt [3]),
(.for (.nm 3) (.var 0) [0] [(.app 2 (.bin .mod (.var 1) (.var 3)) [1,3]),(.asg (.nm 1) (.bin .fdiv (.var 1) (.var 3)) [1,3]),(.fgt [3])]),
(.ret (.blt .tuple [(.var 2)]) [2])]}
set_option autoImplicit true
set_option relaxedAutoImplicit true
open PySem IN CT
noncomputable def P.fS:IN.Def:={slots:=4,ao:=2,body:=[
(.asg (.nm 2) (.mth (.var 0) "nought" []) [0]),
(.fgt [3]),
(.for (.nm 3) (.var 1) [1] [(.exp (.mth (.var 0) "need" [(.var 3)]) [0,3]),(.asg (.nm 2) (.mth (.var 0) "sum_of" [(.var 2),(.var 3)]) [0,2,3]),(.fgt [3])]),
(.ret (.var 2) [2])]}
noncomputable def P.eV:IN.Def:={slots:=2,ao:=1,body:=[
(.asg (.nm 1) (.blt .len [(.fld (.var 0) "rounds")]) [0]),
(.ret (.comp 1 [1] (.nm 0) (.blt .range [(.var 1)]) (.lit (.bl true)) (.emit (.blt .tuple [(.comp 1 [0] (.nm 0) (.blt .range [(.var 1)]) (.lit (.bl true)) (.emit (.ife (.cmp .eq (.var 0) (.var 1)) (.lit (.int 1)) (.lit (.int 0)))))]))) [1])]}
noncomputable def P.d4:IN.Def:={slots:=2,ao:=2,body:=[
(.ret (.and (.blt .isin [(.var 1),(.gl "Rounds")]) (.cmp .eq (.fld (.var 0) "rounds") (.fld (.var 1) "rounds"))) [0,1])]}
noncomputable def P.gU:IN.Def:={slots:=3,ao:=3,body:=[
(.ret (.and (.mth (.var 0) "has" [(.var 2)]) (.cmp .eq (.mth (.var 0) "times" [(.var 1),(.var 2)]) (.mth (.var 0) "nought" []))) [1,2,0])]}
noncomputable def P.fU:IN.Def:={slots:=5,ao:=3,body:=[
(.fgt [3,4]),
(.for (.tp [(.nm 3),(.nm 4)]) (.blt .enum [(.fld (.var 0) "rounds")]) [0] [(.ife (.or (.cmp .ge (.var 3) (.blt .len [(.var 2)])) (.nt (.fn "is_image" [(.var 1),(.var 4),(.ix (.var 2) (.var 3))]))) [1,4,2,3] [(.rse "NoMap" [(.var 3)] [3])] []),(.fgt [3,4])]),
(.ife (.cmp .gt (.blt .len [(.var 2)]) (.blt .len [(.fld (.var 0) "rounds")])) [2,0] [(.rse "NoMap" [(.blt .len [(.fld (.var 0) "rounds")])] [0])] [])]}
noncomputable def P.eU:IN.Def:={slots:=4,ao:=4,init:=true,body:=[
(.exp (.fn "need_images" [(.var 1),(.var 2),(.var 3)]) [1,2,3]),
(.gN "source" (.var 1) [1]),
(.gN "goal" (.var 2) [2]),
(.gN "images" (.blt .tuple [(.var 3)]) [3])]}
noncomputable def P.iX:IN.Def:={slots:=2,ao:=2,body:=[
(.exp (.mth (.fld (.var 0) "source") "need" [(.var 1)]) [0,1]),
(.ret (.mth (.fld (.var 0) "goal") "total" [(.comp 2 [0] (.tp [(.nm 0),(.nm 1)]) (.blt .zip [(.var 1),(.fld (.var 0) "images")]) (.lit (.bl true)) (.emit (.mth (.fld (.var 2) "goal") "times" [(.var 0),(.var 1)])))]) [1,0])]}
noncomputable def P.gy:IN.Def:={slots:=2,ao:=2,body:=[
(.exp (.fn "need_like" [(.fld (.var 1) "goal"),(.fld (.var 0) "source")]) [1,0]),
(.ret (.fn "Map" [(.fld (.var 1) "source"),(.fld (.var 0) "goal"),(.comp 1 [0] (.nm 0) (.fld (.var 1) "images") (.lit (.bl true)) (.emit (.mth (.var 1) "led" [(.var 0)])))]) [0,1])]}
noncomputable def P.eh:IN.Def:={slots:=2,ao:=2,body:=[
(.ife (.nt (.mth (.var 0) "like" [(.var 1)])) [0,1] [(.rse "NotLike" [] [])] [])]}
noncomputable def L.spread:IN.Def:={slots:=5,ao:=2,body:=[
(.asg (.nm 2) (.bin .sub (.blt .len [(.var 0)]) (.lit (.int 1))) [0]),
(.ife (.and (.cmp .gt (.var 2) (.lit (.int 0))) (.cmp .eq (.bin .mod (.ix (.var 0) (.lit (.int 0))) (.lit (.int 2))) (.lit (.int 1)))) [2,0] [(.ret (.bin .mod (.bin .shr (.ix (.var 0) (.bin .add (.lit (.int 1)) (.bin .mod (.var 1) (.var 2)))) (.bin .mul (.lit (.int 31)) (.bin .fdiv (.var 1) (.var 2)))) (.lit (.int 2147483648))) [0,1,2])] []),
(.asg (.nm 3) (.lit (.int 0)) []),
(.ife (.cmp .gt (.blt .len [(.var 0)]) (.lit (.int 0))) [0] [(.asg (.nm 3) (.ix (.var 0) (.bin .mod (.var 1) (.blt .len [(.var 0)]))) [1,0])] []),
(.asg (.nm 4) (.bin .mod (.bin .add (.bin .mul (.bin .mod (.var 3) (.lit (.int 1000000007))) (.lit (.int 48271))) (.bin .mul (.bin .mul (.bin .add (.var 1) (.lit (.int 3))) (.bin .add (.var 1) (.lit (.int 5)))) (.lit (.int 69621)))) (.lit (.int 2147483647))) [3,1]),
(.ret (.bin .mod (.bin .mul (.var 4) (.lit (.int 16807))) (.lit (.int 2147483629))) [4])]}
noncomputable def L.many:IN.Def:={slots:=3,ao:=3,body:=[
(.ret (.blt .tuple [(.comp 2 [1] (.tp [(.nm 0),(.nm 1)]) (.blt .zip [(.var 2),(.var 0)]) (.lit (.bl true)) (.emit (.bin .mod (.bin .mul (.var 2) (.var 0)) (.var 1))))]) [1,2,0])]}
noncomputable def L.pJ:IN.Def:={slots:=2,ao:=2,body:=[
(.whl (.cmp .ne (.var 1) (.lit (.int 0))) [1] [(.par 0 1 (.var 1) (.bin .mod (.var 0) (.var 1)) [0,1])]),
(.ret (.var 0) [0])]}
noncomputable def L.image:IN.Def:={slots:=5,ao:=3,body:=[
(.asg (.nm 3) (.comp 1 [0] (.nm 0) (.var 1) (.lit (.bl true)) (.emit (.bin .fdiv (.var 0) (.fn "_law_divisor" [(.var 0),(.var 1)])))) [0,1]),
(.asg (.nm 4) (.fn "_law_drawn" [(.comp 1 [0] (.nm 0) (.var 1) (.lit (.bl true)) (.emit (.fn "_law_divisor" [(.var 0),(.var 1)]))),(.var 2)]) [0,1,2]),
(.ret (.blt .tuple [(.comp 2 [] (.tp [(.nm 0),(.nm 1)]) (.blt .zip [(.var 3),(.var 4)]) (.lit (.bl true)) (.emit (.bin .mul (.var 0) (.var 1))))]) [3,4])]}
noncomputable def L.led:IN.Def:={slots:=6,ao:=3,body:=[
(.asg (.nm 3) (.blt .tuple [(.comp 1 [] (.nm 0) (.var 0) (.lit (.bl true)) (.emit (.lit (.int 0))))]) [0]),
(.fgt [4,5]),
(.for (.tp [(.nm 4),(.nm 5)]) (.blt .zip [(.var 2),(.var 1)]) [2,1] [(.asg (.nm 3) (.fn "_law_sum" [(.var 0),(.var 3),(.fn "_law_many" [(.var 0),(.var 4),(.var 5)])]) [3,0,4,5]),(.fgt [4,5])]),
(.ret (.var 3) [3])]}
noncomputable def L.is:IN.Def:={slots:=3,ao:=3,body:=[
(.ife (.or (.nt (.blt .isin [(.var 1),(.gl "tuple")])) (.cmp .ne (.blt .len [(.var 1)]) (.blt .len [(.var 0)]))) [1,0] [(.ret (.lit (.bl false)) [])] []),
(.ret (.and (.blt .all [(.comp 1 [] (.nm 0) (.var 1) (.lit (.bl true)) (.emit (.fn "_law_whole" [(.var 0)])))]) (.cmp .eq (.var 1) (.var 2))) [1,2])]}
noncomputable def L.kinds:IN.Def:={slots:=2,ao:=1,body:=[
(.asg (.nm 1) (.lst [(.blt .isin [(.var 0),(.gl "NotLike")]),(.blt .isin [(.var 0),(.gl "NoCount")]),(.blt .isin [(.var 0),(.gl "NoElement")]),(.blt .isin [(.var 0),(.gl "NoHead")])]) [0]),
(.asg (.nm 1) (.bin .add (.var 1) (.lst [(.blt .isin [(.var 0),(.gl "NoPair")]),(.blt .isin [(.var 0),(.gl "NoKind")]),(.blt .isin [(.var 0),(.gl "TooMany")]),(.blt .isin [(.var 0),(.gl "NoLower")])])) [1,0]),
(.asg (.nm 1) (.bin .add (.var 1) (.lst [(.blt .isin [(.var 0),(.gl "NoUpper")]),(.blt .isin [(.var 0),(.gl "NoMap")]),(.blt .isin [(.var 0),(.gl "NoTower")]),(.blt .isin [(.var 0),(.gl "NoCarry")])])) [1,0]),
(.ret (.bin .add (.var 1) (.lst [(.blt .isin [(.var 0),(.gl "CarryError")]),(.blt .isin [(.var 0),(.gl "ValueError")])])) [1,0])]}
noncomputable def L.class:IN.Def:={slots:=2,ao:=1,body:=[
(.asg (.nm 1) (.lst [(.lit (.str "NotLike")),(.lit (.str "NoCount")),(.lit (.str "NoElement")),(.lit (.str "NoHead")),(.lit (.str "NoPair")),(.lit (.str "NoKind")),(.lit (.str "TooMany")),(.lit (.str "NoLower")),(.lit (.str "NoUpper")),(.lit (.str "NoMap"))]) []),
(.asg (.nm 1) (.bin .add (.var 1) (.lst [(.lit (.str "NoTower")),(.lit (.str "NoCarry"))])) [1]),
(.ret (.bin .add (.comp 1 [0] (.nm 0) (.var 1) (.lit (.bl true)) (.emit (.cmp .eq (.var 1) (.var 0)))) (.lst [(.lit (.bl true)),(.lit (.bl true))])) [0,1])]}
set_option autoImplicit true
set_option relaxedAutoImplicit true
open PySem IN CT
set_option autoImplicit true
set_option relaxedAutoImplicit true
open PySem IN CT
noncomputable def P.oO:IN.Def:={slots:=4,ao:=2,body:=[
(.exp (.fn "need_like" [(.fld (.var 1) "goal"),(.fld (.var 0) "upper")]) [1,0]),
(.exp (.fn "need_upper" [(.fld (.var 1) "source")]) [1]),
(.asg (.nm 2) (.bV 1 [1] (.nm 0) (.mth (.fld (.var 1) "source") "members" []) (.var 0) (.mth (.var 1) "led" [(.var 0)])) [1]),
(.asg (.nm 3) (.bV 2 [2,0] (.tp [(.nm 0),(.nm 1)]) (.fn "pairs_of" [(.fld (.var 1) "source")]) (.tup [(.var 0),(.var 1)]) (.mth (.var 3) "carry_of" [(.ix (.var 2) (.var 0)),(.ix (.var 2) (.var 1))])) [2,0,1]),
(.ret (.fn "Table" [(.fld (.var 0) "lower"),(.fld (.var 1) "source"),(.var 3)]) [0,1,3])]}
noncomputable def L.iY:IN.Def:={slots:=5,ao:=1,body:=[
(.asg (.nm 1) (.lst [(.tup [])]) []),
(.fgt [2,3,4]),
(.for (.nm 2) (.var 0) [0] [(.asg (.nm 3) (.lst []) []),(.fgt [4]),(.for (.nm 4) (.var 1) [1] [(.ext 3 (.comp 1 [4] (.nm 0) (.blt .range [(.var 2)]) (.lit (.bl true)) (.emit (.bin .add (.var 1) (.tup [(.var 0)])))) [4,2]),(.fgt [4])]),(.mov 1 3),(.fgt [2,3,4])]),
(.ret (.var 1) [1])]}
noncomputable def L.lower:IN.Def:={slots:=2,ao:=1,body:=[
(.asg (.nm 1) (.lst [(.tup [(.lit (.int 2))]),(.tup [(.lit (.int 4))]),(.tup [(.lit (.int 2)),(.lit (.int 2))]),(.tup [(.lit (.int 3))]),(.tup [(.lit (.int 6))]),(.tup [(.lit (.int 2)),(.lit (.int 4))]),(.tup [(.lit (.int 8))]),(.tup [(.lit (.int 9))]),(.tup [(.lit (.int 4)),(.lit (.int 4))]),(.tup [(.lit (.int 16))]),(.tup [(.lit (.int 2)),(.lit (.int 2)),(.lit (.int 2))]),(.tup []),(.tup [(.lit (.int 12))]),(.tup [(.lit (.int 3)),(.lit (.int 3))]),(.tup [(.lit (.int 2)),(.lit (.int 6))])]) []),
(.ret (.ix (.var 1) (.bin .mod (.var 0) (.lit (.int 15)))) [1,0])]}
noncomputable def L.upper:IN.Def:={slots:=2,ao:=1,body:=[
(.asg (.nm 1) (.lst [(.tup [(.lit (.int 2))]),(.tup [(.lit (.int 4))]),(.tup [(.lit (.int 2)),(.lit (.int 2))]),(.tup [(.lit (.int 3))]),(.tup [(.lit (.int 6))]),(.tup [(.lit (.int 2)),(.lit (.int 3))]),(.tup [(.lit (.int 2)),(.lit (.int 2))]),(.tup [(.lit (.int 3))]),(.tup [(.lit (.int 5))]),(.tup [(.lit (.int 4))]),(.tup [(.lit (.int 2)),(.lit (.int 4))]),(.tup [(.lit (.int 3)),(.lit (.int 3))]),(.tup [(.lit (.int 8))]),(.tup []),(.tup [(.lit (.int 2)),(.lit (.int 2)),(.lit (.int 2))])]) []),
(.ret (.ix (.var 1) (.bin .mod (.var 0) (.lit (.int 15)))) [1,0])]}
noncomputable def L.small:IN.Def:={slots:=2,ao:=1,body:=[
(.asg (.nm 1) (.lst [(.tup [(.lit (.int 2))]),(.tup [(.lit (.int 4))]),(.tup [(.lit (.int 2)),(.lit (.int 2))]),(.tup [(.lit (.int 3))]),(.tup [(.lit (.int 6))]),(.tup [(.lit (.int 2)),(.lit (.int 3))]),(.tup [(.lit (.int 5))]),(.tup [(.lit (.int 2)),(.lit (.int 4))]),(.tup [(.lit (.int 3)),(.lit (.int 3))]),(.tup [(.lit (.int 8))]),(.tup []),(.tup [(.lit (.int 4)),(.lit (.int 2))]),(.tup [(.lit (.int 9))]),(.tup [(.lit (.int 2)),(.lit (.int 2)),(.lit (.int 2))])]) []),
(.ret (.ix (.var 1) (.bin .mod (.var 0) (.lit (.int 14)))) [1,0])]}
noncomputable def L.h_:IN.Def:={slots:=6,ao:=4,body:=[
(.ife (.or (.nt (.blt .isin [(.var 0),(.gl "Table")])) (.or (.cmp .ne (.fld (.fld (.var 0) "lower") "rounds") (.var 1)) (.cmp .ne (.fld (.fld (.var 0) "upper") "rounds") (.var 2)))) [1,0,2] [(.ret (.lit (.bl false)) [])] []),
(.asg (.nm 4) (.mth (.var 0) "carries" []) [0]),
(.ife (.or (.nt (.blt .isin [(.var 4),(.gl "dict")])) (.cmp .ne (.blt .len [(.var 4)]) (.blt .len [(.var 3)]))) [4,3] [(.ret (.lit (.bl false)) [])] []),
(.fgt [5]),
(.for (.nm 5) (.var 3) [3] [(.ife (.or (.cmp .nin (.var 5) (.var 4)) (.nt (.fn "_law_is" [(.var 1),(.ix (.var 4) (.var 5)),(.ix (.var 3) (.var 5))]))) [1,4,3,5] [(.ret (.lit (.bl false)) [])] []),(.ife (.cmp .ne (.mth (.var 0) "carry" [(.ix (.var 5) (.lit (.int 0))),(.ix (.var 5) (.lit (.int 1)))]) (.ix (.var 3) (.var 5))) [0,3,5] [(.ret (.lit (.bl false)) [])] []),(.fgt [5])]),
(.ret (.lit (.bl true)) [])]}
noncomputable def L.d7:IN.Def:={slots:=9,ao:=4,body:=[
(.asg (.nm 4) .jG []),
(.fgt [5,6,7,8]),
(.for (.tp [(.nm 5),(.nm 6)]) (.blt .enum [(.fn "_law_all" [(.var 3)])]) [3] [(.fgt [7,8]),(.for (.tp [(.nm 7),(.nm 8)]) (.blt .enum [(.fn "_law_all" [(.var 3)])]) [3] [(.put 4 (.tup [(.var 6),(.var 8)]) (.fn "_law_drawn" [(.var 2),(.bin .fdiv (.fn "_law_spread" [(.var 0),(.bin .add (.bin .add (.var 1) (.bin .mul (.lit (.int 9)) (.var 5))) (.var 7))]) (.bin .add (.bin .add (.lit (.int 1)) (.var 7)) (.var 5)))]) [6,8,2,0,1,7,5]),(.fgt [7,8])]),(.fgt [5,6,7,8])]),
(.ret (.var 4) [4])]}
noncomputable def L.kj:IN.Def:={slots:=4,ao:=4,body:=[
(.ret (.comp 2 [1,3,0] (.tp [(.nm 0),(.nm 1)]) (.blt .enum [(.var 2)]) (.lit (.bl true)) (.emit (.fn "_law_image" [(.var 1),(.var 3),(.fn "_law_spread" [(.var 4),(.bin .add (.var 2) (.var 0))])]))) [1,3,0,2])]}
set_option autoImplicit true
set_option relaxedAutoImplicit true
open PySem IN CT
noncomputable def P.iR:IN.Def:={slots:=2,ao:=2,body:=[
(.ret (.and (.mth (.fld (.var 0) "lower") "like" [(.fld (.var 1) "lower")]) (.mth (.fld (.var 0) "upper") "like" [(.fld (.var 1) "upper")])) [0,1])]}
noncomputable def P.alike:IN.Def:={slots:=2,ao:=2,body:=[
(.ret (.and (.fn "over_like" [(.var 0),(.var 1)]) (.cmp .eq (.mth (.var 0) "carries" []) (.mth (.var 1) "carries" []))) [0,1])]}
noncomputable def P.oP:IN.Def:={slots:=2,ao:=2,body:=[
(.exp (.fn "need_like" [(.fld (.var 1) "source"),(.fld (.var 0) "lower")]) [1,0]),
(.exp (.fn "need_lower" [(.fld (.var 1) "goal")]) [1]),
(.ret (.fn "Table" [(.fld (.var 1) "goal"),(.fld (.var 0) "upper"),(.bV 2 [0,1] (.tp [(.nm 0),(.nm 1)]) (.fn "pairs_of" [(.fld (.var 0) "upper")]) (.tup [(.var 0),(.var 1)]) (.mth (.var 3) "led" [(.mth (.var 2) "carry_of" [(.var 0),(.var 1)])]))]) [1,0])]}
noncomputable def L.d9:IN.Def:={slots:=5,ao:=3,body:=[
(.asg (.nm 3) (.lit .non) []),
(.try [(.exp (.fn "pushed" [(.var 0),(.var 1)]) [0,1])] "CarryError" 4 [(.asg (.nm 3) (.var 4) [4])]),
(.ret (.and (.oF (.var 3)) (.cmp .eq (.fn "_law_kinds" [(.var 3)]) (.fn "_law_class" [(.var 2)]))) [3,2])]}
noncomputable def L.map:IN.Def:={slots:=4,ao:=4,body:=[
(.ret (.fn "Map" [(.fn "Rounds" [(.var 2)]),(.fn "Rounds" [(.var 3)]),(.fn "_law_images" [(.var 0),(.var 1),(.var 2),(.var 3)])]) [0,1,2,3])]}
noncomputable def L.kW:IN.Def:={slots:=6,ao:=3,body:=[
(.asg (.nm 3) (.ix (.lst [(.tup [(.lit (.int 17))]),(.tup [(.lit (.int 2)),(.lit (.int 9))]),(.tup [(.lit (.int 20))]),(.tup [(.lit (.int 5)),(.lit (.int 5))])]) (.bin .mod (.fn "_law_spread" [(.var 0),(.lit (.int 3))]) (.lit (.int 4)))) [0]),
(.asg (.nm 4) (.fn "_law_lower" [(.fn "_law_spread" [(.var 0),(.lit (.int 4))])]) [0]),
(.ife (.cmp .ne (.var 4) (.var 2)) [4,2] [(.fgt [5]),(.for (.nm 5) (.tup [(.tup [(.lit (.int 2))]),(.var 3)]) [3] [(.ife (.nt (.fn "_law_refused" [(.var 1),(.fn "_law_map" [(.var 0),(.lit (.int 5)),(.var 4),(.var 5)]),(.lit (.str "NotLike"))])) [1,0,4,5] [(.ret (.lit (.bl false)) [])] []),(.fgt [5])])] []),
(.ret (.fn "_law_refused" [(.var 1),(.fn "_law_map" [(.var 0),(.lit (.int 5)),(.var 2),(.var 3)]),(.lit (.str "NoLower"))]) [1,0,2,3])]}
noncomputable def L.lz:IN.Def:={slots:=16,ao:=1,body:=[
(.asg (.nm 1) (.fn "_law_lower" [(.fn "_law_spread" [(.var 0),(.lit (.int 0))])]) [0]),
(.asg (.nm 2) (.fn "_law_upper" [(.fn "_law_spread" [(.var 0),(.lit (.int 1))])]) [0]),
(.asg (.nm 3) (.fn "_law_lower" [(.fn "_law_spread" [(.var 0),(.lit (.int 2))])]) [0]),
(.asg (.nm 4) (.fn "_law_carries" [(.var 0),(.lit (.int 10)),(.var 1),(.var 2)]) [0,1,2]),
(.asg (.nm 5) (.fn "Table" [(.fn "Rounds" [(.var 1)]),(.fn "Rounds" [(.var 2)]),(.blt .dict [(.var 4)])]) [1,2,4]),
(.ife (.nt (.fn "_law_wrongs" [(.var 0),(.var 5),(.var 1)])) [0,5,1] [(.ret (.lit (.bl false)) [])] []),
(.asg (.nm 6) (.fn "_law_images" [(.var 0),(.lit (.int 100)),(.var 1),(.var 3)]) [0,1,3]),
(.asg (.nm 7) (.fn "Map" [(.fn "Rounds" [(.var 1)]),(.fn "Rounds" [(.var 3)]),(.var 6)]) [1,3,6]),
(.asg (.nm 8) .jG []),
(.fgt [9]),
(.for (.nm 9) (.var 4) [4] [(.put 8 (.var 9) (.fn "_law_led" [(.var 3),(.var 6),(.ix (.var 4) (.var 9))]) [3,6,4,9]),(.fgt [9])]),
(.asg (.nm 10) (.fn "pushed" [(.var 5),(.var 7)]) [5,7]),
(.ife (.or (.nt (.fn "_law_table_is" [(.var 10),(.var 3),(.var 2),(.var 8)])) (.nt (.fn "_law_table_is" [(.var 5),(.var 1),(.var 2),(.var 4)]))) [10,3,8,5,1,2,4] [(.ret (.lit (.bl false)) [])] []),
(.asg (.nm 11) (.fn "_law_lower" [(.fn "_law_spread" [(.var 0),(.lit (.int 5))])]) [0]),
(.asg (.nm 12) (.fn "_law_map" [(.var 0),(.lit (.int 120)),(.var 3),(.var 11)]) [0,3,11]),
(.asg (.nm 13) (.fn "pushed" [(.var 5),(.mth (.var 12) "behind" [(.var 7)])]) [5,12,7]),
(.ife (.or (.cmp .ne (.fld (.fld (.var 13) "lower") "rounds") (.var 11)) (.nt (.fn "alike" [(.fn "pushed" [(.var 10),(.var 12)]),(.var 13)]))) [11,10,12,13] [(.ret (.lit (.bl false)) [])] []),
(.asg (.nm 14) (.fn "_law_small" [(.fn "_law_spread" [(.var 0),(.lit (.int 6))])]) [0]),
(.asg (.nm 15) (.fn "_law_map" [(.var 0),(.lit (.int 130)),(.var 14),(.var 2)]) [0,14,2]),
(.ret (.cmp .is (.fn "alike" [(.fn "pulled" [(.var 10),(.var 15)]),(.fn "pushed" [(.fn "pulled" [(.var 5),(.var 15)]),(.var 7)])]) (.lit (.bl true))) [10,5,15,7])]}
set_option autoImplicit true
set_option relaxedAutoImplicit true
namespace PL
open PySem PySem.Spec L2 CT IN
open PyProof.Rows hiding St
local macro_rules|`(tactic|simp? [$ls,*])=>do
 let m<-("aa aH List.modify_zero_cons List.modify_succ_cons aJ List.getElem?_cons_zero List.getElem?_cons_succ List.length_cons List.length_nil Nat.reduceAdd Nat.reduceLT if_true List.set_cons_succ List.set_cons_zero Rs.val Ow.D kp aq aY".splitOn " ").toArray.mapM fun s=>`(Lean.Parser.Tactic.simpLemma|$(Lean.mkIdent s.toName):ident)
 let a:=(ls.getElems.map fun x=>(.mk x.raw:Lean.TSyntax `Lean.Parser.Tactic.simpLemma))++m
 `(tactic|simp only [$a,*])
section
variable {G:Prg} {cl:Str->List D->Option Rs} {ρ ρ':Rho} {s:CS'} {r:List CS'} {o:Option Oc} {n:Nat} {k:Str} {d:Def} {ds:List D} {x:D}
theorem st (h1:IN.af G cl s ρ=some (.nx ρ')) (h2:IN.run G cl r ρ'=o):IN.run G cl (s::r) ρ=o:=by rw [IN.run,h1];exact h2
theorem aR (h1:IN.af G cl s ρ=some (.rt x)):IN.run G cl (s::r) ρ=some (.rt x):=by rw [IN.run,h1]
theorem hW (h1:IN.af G cl s ρ=some (.fr c)):IN.run G cl (s::r) ρ=some (.fr c):=by rw [IN.run,h1]
theorem xT (h1:IN.af G cl s ρ=some (.xc ρ' x)):IN.run G cl (s::r) ρ=some (.xc ρ' x):=by rw [IN.run,h1]
theorem bc:IN.run G cl [] ρ=some (.nx ρ):=by rw [IN.run]
theorem ay (hd:G.defs k=some (none,d)) (hl:ds.length=d.ao∧d.init=false) (h0:ds.map .val++List.replicate (d.slots - ds.length) .nil=ρ0) (h:IN.run G (kal G n) d.body ρ0=some (.rt x)):kal G (n+1) k ds=some (.ok x):=by
 rw [kal,hd];dsimp only;rw [dF,if_pos hl,h0,h]
theorem iG (hd:G.defs k=some (none,d)) (hl:ds.length=d.ao∧d.init=false) (h0:ds.map .val++List.replicate (d.slots - ds.length) .nil=ρ0) (h:IN.run G (kal G n) d.body ρ0=some (.nx ρ)):kal G (n+1) k ds=some (.ok .non):=by
 rw [kal,hd];dsimp only;rw [dF,if_pos hl,h0,h]
theorem fz (hd:G.defs k=some (none,d)) (hl:ds.length=d.ao∧d.init=false) (h0:ds.map .val++List.replicate (d.slots - ds.length) .nil=ρ0) (h:IN.run G (kal G n) d.body ρ0=some (.fr c)):kal G (n+1) k ds=some (.fr c):=by
 rw [kal,hd];dsimp only;rw [dF,if_pos hl,h0,h]
theorem ku (hd:G.defs k=some (none,d)) (hl:ds.length=d.ao∧d.init=false) (h0:ds.map .val++List.replicate (d.slots - ds.length) .nil=ρ0) (h:IN.run G (kal G n) d.body ρ0=some (.xc ρ x)):kal G (n+1) k ds=some (.xc x):=by
 rw [kal,hd];dsimp only;rw [dF,if_pos hl,h0,h]
theorem lu (hd:G.defs k=some (some C,d)) (hl:ds.length+1=d.ao∧d.init=true) (h0:ds.map .val++List.replicate (d.slots - (ds.length+1)) .nil=ρ0) (h:IN.run G (kal G n) d.body (.new C 0 0 []::ρ0)=some (.nx (.new C a b fs::ρ))):kal G (n+1) k ds=some (.ok (.ins C fs)):=by
 rw [kal,hd];dsimp only;rw [dF,if_pos hl,h0,h];dsimp only [List.getElem?_cons_zero];rw [if_pos rfl]
variable {α β:Type} {t:Tg} {b:List CS'} {g:α->D} {it:CE} {L:List Nat}
theorem vE (R:List α->Rho) (all:List α) (h:∀(done:List α) (a:α) (rest:List α),all=done++a::rest->∃ρ1,aq t (g a) (R done)=some ρ1∧bb ρ1=some (.nx (R (done++[a])))):
  forL t bb (all.map g) (R [])=some (.nx (R all)):=by
 have go:∀(l done:List α),all=done++l->forL t bb (l.map g) (R done)=some (.nx (R (done++l))):=by
  intro l
  induction l with
  |nil=>intro done _;rw [List.append_nil];rfl
  |cons a l ih=>
   intro done e;obtain ⟨ρ1,h1,h2⟩:=h done a l e;rw [List.map_cons,forL,h1];dsimp only;rw [h2];dsimp only;rw [ih (done++[a]) (by rw [e,F8];rfl),F8];rfl
 exact go all [] rfl
theorem cK (R:List α->Rho) (all:List α) (hi:evI G cl it (aa L ρ)=some (all.map g)) (h0:aa L ρ=R [])
  (h:∀(done:List α) (a:α) (rest:List α),all=done++a::rest->∃ρ1,aq t (g a) (R done)=some ρ1∧IN.run G cl b ρ1=some (.nx (R (done++[a])))):IN.af G cl (.for t it L b) ρ=some (.nx (R all)):=by
 rw [IN.af,hi];dsimp only;rw [h0];exact vE R all h
theorem gH:∀{l:List α},(∀a∈l,f (g a)=some (u a))->jB f (l.map g)=some (l.flatMap u)
 |[],_=>rfl
 |a::l,h=>by
  rw [List.map_cons,jB,h a Fa];dsimp only;rw [gH fun b hb=>h b (EQ _ hb)];rfl
theorem jk {u:α->D} {l:List α}:(l.flatMap fun a=>[u a])=l.map u:=by
 induction l with
 |nil=>rfl
 |cons a l ih=>rw [List.flatMap_cons,ih];rfl
theorem cj {w:Nat} {cap:List Nat} {it e:CE} {l:List α} {u:α->D} (hi:evI G cl it ρ=some (l.map g)) (hw:((tks t).all fun k=>k<w)=true) (hz:l.length<=sizeLine)
  (h:∀a∈l,∃ρ1,aq t (g a) (dA w cap ρ)=some ρ1∧ev G cl e ρ1=some (u a)):ev G cl (.comp w cap t it (.lit (.bl true)) (.emit e)) ρ=some (.lst (l.map u)):=by
 rw [ev,hi];dsimp only;rw [if_pos hw];rw [gH (g:=g) (u:=fun a=>[u a]) (l:=l),jk]
 ·dsimp only;rw [if_pos (by rw [F6];exact hz)]
 ·intro a ha;obtain ⟨ρ1,h1,h2⟩:=h a ha;rw [h1];dsimp only;rw [evT];dsimp only;rw [evB,h2]
theorem sP {w:Nat} {cap:List Nat} {it it2 e:CE} {t2:Tg} {l:List α} {m:α->List β} {g2:β->D} {u:α->β->D} (hi:evI G cl it ρ=some (l.map g)) (hw:((tks t).all fun k=>k<w)=true) (hz:(l.flatMap fun a=>(m a).map (u a)).length<=sizeLine)
  (h:∀a∈l,∃ρ1,aq t (g a) (dA w cap ρ)=some ρ1∧evI G cl it2 ρ1=some ((m a).map g2)∧((tks t2).all fun k=>k<w&&isNil ρ1[k]?)=true∧∀b∈m a,∃ρ2,aq t2 (g2 b) ρ1=some ρ2∧ev G cl e ρ2=some (u a b)):
  ev G cl (.comp w cap t it (.lit (.bl true)) (.loop t2 it2 (.lit (.bl true)) (.emit e))) ρ=some (.lst (l.flatMap fun a=>(m a).map (u a))):=by
 rw [ev,hi];dsimp only;rw [if_pos hw];rw [gH (g:=g) (u:=fun a=>(m a).map (u a)) (l:=l)]
 ·dsimp only;rw [if_pos hz]
 ·intro a ha;obtain ⟨ρ1,h1,h2,h3,h4⟩:=h a ha;rw [h1];dsimp only;rw [evT];dsimp only;rw [evB,h2];dsimp only;rw [if_pos h3,gH (g:=g2) (u:=fun b=>[u a b]) (l:=m a),jk];intro b hb;obtain ⟨ρ2,z1,z2⟩:=h4 b hb;rw [z1];dsimp only;rw [evT];dsimp only;rw [evB,z2]
end
theorem xn:bR G (.int i) (.ty c)=G.kit (.ty "int") (.ty c):=rfl
theorem xj:bR G (.bl i) (.ty c)=G.kit (.ty "bool") (.ty c):=rfl
theorem xq:bR G .non (.ty c)=G.kit (.ty "NoneType") (.ty c):=rfl
theorem xt:bR G (.str x) (.ty c)=G.kit (.ty "str") (.ty c):=rfl
theorem qP:bR G (.tup xs) (.ty c)=G.kit (.ty "tuple") (.ty c):=rfl
theorem xo:bR G (.lst xs) (.ty c)=G.kit (.ty "list") (.ty c):=rfl
theorem xr:bR G (.pdc xs) (.ty c)=G.kit (.ty "dict") (.ty c):=rfl
theorem xl:bR G (.ins C fs) (.cl E)=G.kit (.cl C) (.cl E):=rfl
theorem xu:bR G (.exc C fs) (.cl E)=G.kit (.xc C) (.cl E):=rfl
theorem tE:bR G (.exc C fs) (.ty c)=G.kit (.xc C) (.ty c):=rfl
theorem tx:bR G (.ins C fs) (.ty c)=G.kit (.cl C) (.ty c):=rfl
theorem CW (h: -(2^62)<=j∧j<2^62):hU j=true:=by unfold hU;rw [Ge (by omega),Ge (by omega)];rfl
theorem rN (h: -(2^62)<=j∧j<2^62):cN .range [.int j]=some ((bo j).map D.int):=if_pos (CW h)
theorem j8 (h1:ba x=some xs) (h2:ba y=some ys):cN .zip [x,y]=some (bE xs ys):=by show (match ba x,ba y with|some xs,some ys=>some (bE xs ys)|_,_=>none)=_;rw [h1,h2]
theorem hV:ba (.lst xs)=some xs:=rfl
theorem m_:ba (.tup xs)=some xs:=rfl
theorem lr:itD (.lst xs)=some xs:=rfl
theorem qR:itD (.tup xs)=some xs:=rfl
theorem qQ:itD (.pdc es)=some (es.map fun p=>PK.d p.1):=rfl
theorem xx:ixD (.lst xs) (.int i)=atI xs i:=rfl
theorem xB:ixD (.tup xs) (.int i)=atI xs i:=rfl
theorem xy (h:bU kd=some (.t l)) (hd:(PK.t l).dp<=8):ixD (.pdc es) kd=look es (.t l):=by
 cases kd<;>first|(cases h;done)|(show (match bU _ with|some (PK.t l)=>_|_=>none)=_;rw [h];show (if (PK.t l).dp<=8 then look es (.t l) else none)=_;rw [if_pos hd])
theorem eQ (h:j.natAbs<2^64):bO i j=true:=by unfold bO;rw [Ge h];simp
theorem lE (h:i.natAbs<2^64):bO i j=true:=by unfold bO;rw [Ge h];simp
theorem d6:∀ns:List Bool,boolsOf (ns.map .bl)=some ns
 |[]=>rfl
 |n::ns=>by rw [List.map_cons,boolsOf,d6 ns]
theorem g_:∀ns:List Int,g0 (ns.map .int)=some (ns.map .i)
 |[]=>rfl
 |n::ns=>by rw [List.map_cons,g0,bU];dsimp only;rw [g_ ns];rfl
noncomputable def prod:List Int->Int:=List.foldl (·*·) 1
theorem t_ (l:List Int) (a:Int):prod (l++[a])=prod l*a:=by
 show List.foldl (·*·) 1 (l++[a])=_;rw [List.foldl_append];rfl
noncomputable def Sm (ns:List Int):Prop:=∀n∈ns, -(2^64)<n∧n<2^64
noncomputable def Big (ns:List Int):Prop:=∀n∈ns,2<=n∧n<2^64
theorem Big.sm (b:Big ns):Sm ns:=fun n h=>⟨by have:=(b n h).1;omega,(b n h).2⟩
noncomputable abbrev rf (ns:List Int):List (Str×D):=[(("rounds":Str),tupI ns)]
noncomputable def grp (C:Addr) (ns:List Int):D:=.ins C (rf ns)
structure Good (ns:List Int):Prop where
 ge:∀n∈ns,2<=n
 le:prod ns<=144
 lt:∀n∈ns,n<=144
 len:ns.length<=7
theorem Good.big (g:Good ns):Big ns:=fun n h=>⟨g.ge n h,by have:=g.lt n h;omega⟩
theorem Good.cW (g:Good ns):ns.length<=1000:=Gb g.len (by decide)
noncomputable def hasB (ns ks:List Int):Bool:=(ks.zip ns).all fun p=>decide (0<=p.1)&&decide (p.1<p.2)
noncomputable def at0 (ns:List Int) (k:Int):Int:=ns.getD (k%(ns.length:Int)).toNat 0
theorem Az (h:0<ns.length):atI (ja ns) (k%(ns.length:Int))=some (.int (at0 ns k)):=by
 have h1:0<=k%(ns.length:Int):=Gj _ (by omega);have h2:k%(ns.length:Int)<ns.length:=Gk _ (by omega);have e:k%(ns.length:Int)=(((k%(ns.length:Int)).toNat:Nat):Int):=by omega
 rw [e];refine pw ?_;have h3:(k%(ns.length:Int)).toNat<ns.length:=by omega
 simp [ja,at0,h3]
theorem jl:∀ks:List Int,cz (ks.map .int)=true
 |[]=>rfl
 |k::ks=>by show (true&&cz (ks.map .int))=true;rw [jl ks];rfl
theorem gS (ks:List Int):bu (tupI ks)=true:=jl ks
theorem j_:∀ks:List Int,PyData.depthAll (eO (ks.map .int))=0
 |[]=>rfl
 |k::ks=>by
  show max (PyData.depth (.int k)) (PyData.depthAll (eO (ks.map .int)))=0;rw [j_ ks];rfl
theorem gI (ks:List Int):(toPy (tupI ks)).depth=1:=by
 show PyData.depthAll (eO (ks.map .int))+1=1;rw [j_]
noncomputable def step (found:List (List Int)) (n:Int):List (List Int):=found.flatMap fun b=>(bo n).map fun k=>b++[k]
noncomputable def mem (ns:List Int):List (List Int):=ns.foldl step [[]]
theorem gV (l:List Int) (a:Int):mem (l++[a])=step (mem l) a:=by
 show List.foldl step [[]] (l++[a])=_;rw [List.foldl_append];rfl
theorem pX:∀{b:List Int},b∈mem l->b.length=l.length:=by
 have go:∀(l:List Int) (acc:List (List Int)) (n:Nat),(∀b∈acc,b.length=n)->∀b∈l.foldl step acc,b.length=n+l.length:=by
  intro l
  induction l with
  |nil=>intro acc n h b hb;exact h b hb
  |cons a l ih=>
   intro acc n h b hb;rw [List.length_cons,←Nat.add_assoc,Nat.add_right_comm];refine ih (step acc a) (n+1) (fun c hc=>?_) b hb;obtain ⟨b',hb',hc'⟩:=List.mem_flatMap.mp hc;obtain ⟨k,_,rfl⟩:=FB.mp hc';rw [F5,h b' hb'];rfl
 intro b hb;have:=go l [[]] 0 (fun b hb=>by rw [FM.mp hb];rfl) b hb;omega
theorem mE (b:List Int) (k:Int):D.tup (ja b++[.int k])=tupI (b++[k]):=by simp [tupI,ja]
noncomputable def Fit (ns:List Int):Prop:=∀l,l<+:ns->(mem l).length<=1000
noncomputable def aB (ns x y:List Int):List Int:=(x.zip (y.zip ns)).map fun p=>(p.1+p.2.1)%p.2.2
noncomputable def aK (ns:List Int) (m:Int) (x:List Int):List Int:=(x.zip ns).map fun p=>m*p.1%p.2
structure El (ns ks:List Int):Prop where
 len:ks.length=ns.length
 has:hasB ns ks=true
theorem mm:hasB (n::ns) (k::ks)=((decide (0<=k)&&decide (k<n))&&hasB ns ks):=by simp [hasB]
theorem El.nil:El [] []:=⟨rfl,rfl⟩
theorem El.cons (h1:0<=k) (h2:k<n) (e:El ns ks):El (n::ns) (k::ks):=⟨by simp [e.len],by rw [mm,e.has];simp [h1,h2]⟩
theorem El.inv (e:El (n::ns) ks):∃k r,ks=k::r∧0<=k∧k<n∧El ns r:=by
 cases ks with
 |nil=>have:=e.len;simp at this
 |cons k r=>
  have h:=e.has;rw [mm] at h;simp only [Bool.and_eq_true,decide_eq_true_eq] at h;exact ⟨k,r,rfl,h.1.1,h.1.2,⟨by have:=e.len;simpa using this,h.2⟩⟩
noncomputable def Ge2 (ns:List Int):Prop:=∀n∈ns,2<=n
theorem Ge2.tail (g:Ge2 (n::ns)):Ge2 ns:=fun k hk=>g k (EQ _ hk)
theorem Ge2.head (g:Ge2 (n::ns)):2<=n:=g n Fa
theorem aM:aB (n::ns) (a::x) (b::y)=(a+b)%n::aB ns x y:=rfl
theorem aQ:aK (n::ns) m (a::x)=m*a%n::aK ns m x:=rfl
theorem gh {a n:Int} (h:2<=n):0<=a%n∧a%n<n:=⟨Gj _ (by omega),Gk _ (by omega)⟩
theorem El.add:∀{ns x y:List Int},Ge2 ns->El ns x->El ns y->El ns (aB ns x y)
 |[],x,y,_,h1,h2=>by
  have e:x=[]:=F2.mp h1.len;subst e;exact El.nil
 |n::ns,x,y,g,h1,h2=>by
  obtain ⟨a,x',rfl,_,_,hx⟩:=h1.inv;obtain ⟨b,y',rfl,_,_,hy⟩:=h2.inv;rw [aM];exact El.cons (gh g.head).1 (gh g.head).2 (El.add g.tail hx hy)
theorem El.mul {m:Int}:∀{ns x:List Int},Ge2 ns->El ns x->El ns (aK ns m x)
 |[],x,_,h1=>by
  have e:x=[]:=F2.mp h1.len;subst e;exact El.nil
 |n::ns,x,g,h1=>by
  obtain ⟨a,x',rfl,_,_,hx⟩:=h1.inv;rw [aQ];exact El.cons (gh g.head).1 (gh g.head).2 (El.mul g.tail hx)
theorem iM:∀{ns x:List Int},El ns x->aK ns 0 x=List.replicate ns.length 0
 |[],x,h1=>by
  have e:x=[]:=F2.mp h1.len;subst e;rfl
 |n::ns,x,h1=>by
  obtain ⟨a,x',rfl,h2,h3,hx⟩:=h1.inv;rw [aQ,iM hx,Int.zero_mul,Int.zero_emod];rfl
theorem add_mul:∀{ns x:List Int},El ns x->aB ns (aK ns a x) (aK ns b x)=aK ns (a+b) x
 |[],x,h1=>by
  have e:x=[]:=F2.mp h1.len;subst e;rfl
 |n::ns,x,h1=>by
  obtain ⟨k,x',rfl,h2,h3,hx⟩:=h1.inv;rw [aQ,aQ,aQ,aM,add_mul hx,Int.add_mul,←Int.add_emod]
theorem El.zero:∀{ns:List Int},Ge2 ns->El ns (List.replicate ns.length 0)
 |[],_=>El.nil
 |n::ns,g=>by
  show El (n::ns) (0::List.replicate ns.length 0);exact El.cons (Int.le_refl 0) (by have:=g.head;omega) (El.zero g.tail)
theorem iW:∀{x y ns:List Int},bq (x.map .int) (y.map .int) (ns.map .int)=(x.zip (y.zip ns)).map fun p=>D.tup [.int p.1,.int p.2.1,.int p.2.2]
 |[],_,_=>by simp [bq]
 |_::_,[],_=>by simp [bq]
 |_::_,_::_,[]=>by simp [bq]
 |a::x,b::y,n::ns=>by simp [bq,iW]
theorem oz {x y ns:List Int} {p:Int×Int×Int} (h:p∈x.zip (y.zip ns)):p.2.2∈ns:=(List.of_mem_zip (List.of_mem_zip h).2).2
theorem Good.g2 (g:Good ns):Ge2 ns:=g.ge
noncomputable def gd (l:List Int) (k:Int):Int:=l.getD k.toNat 0
theorem xb {l:List Int} {k:Int} (h:0<=k) (h2:k<(l.length:Int)):atI (l.map D.int) k=some (.int (gd l k)):=by
 obtain ⟨j,rfl⟩:=Int.eq_ofNat_of_zero_le h;have h3:j<l.length:=by omega
 refine pw ?_;simp [gd,h3]
theorem El.small (g:Good ns):El ns x->∀k∈x, -(2^64)<k∧k<2^64:=by
 have go:∀{ns x:List Int},(∀n∈ns,n<=144)->El ns x->∀k∈x, -(2^64)<k∧k<2^64:=by
  intro ns
  induction ns with
  |nil=>intro x _ h k hk;rw [F2.mp h.len] at hk;cases hk
  |cons n ns ih=>
   intro x hn h k hk;obtain ⟨a,r,rfl,h2,h3,hr⟩:=h.inv;rcases Fr.mp hk with e|hk
   ·rw [e];have:=hn n Fa;omega
   ·exact ih (fun m hm=>hn m (EQ _ hm)) hr k hk
 exact go g.lt
noncomputable def est (s:Int×List Int) (n:Int):Int×List Int:=(s.1 / n,s.2++[s.1%n])
noncomputable def cu (c:Int) (ns:List Int):Int×List Int:=ns.foldl est (c,[])
noncomputable def elI (ns:List Int) (c:Int):List Int:=(cu c ns).2
theorem mh (c:Int) (ns:List Int) (n:Int):cu c (ns++[n])=est (cu c ns) n:=by
 show List.foldl _ _ (ns++[n])=_;rw [List.foldl_append];rfl
theorem Bj:∀{ns:List Int} {c:Int},Ge2 ns->El ns (elI ns c):=by
 have go:∀(ns:List Int) (c:Int) (f:List Int),(ns.foldl est (c,f)).2=f++(ns.foldl est (c,[])).2:=by
  intro ns
  induction ns with
  |nil=>intro c f;simp
  |cons n ns ih=>
   intro c f;show (ns.foldl est (c / n,f++[c%n])).2=f++(ns.foldl est (c / n,[]++[c%n])).2;rw [ih,ih (c / n) ([]++[c%n]),F8];rfl
 intro ns
 induction ns with
 |nil=>intro c _;exact El.nil
 |cons n ns ih=>
  intro c g;have e:elI (n::ns) c=c%n::elI ns (c / n):=by
   show (ns.foldl est (c / n,[]++[c%n])).2=_;rw [go];rfl
  rw [e];exact El.cons (gh g.head).1 (gh g.head).2 (ih g.tail)
theorem nY (c:Int) (ns:List Int):(cu c ns).2.length=ns.length:=by
 have go:∀(ns:List Int) (s:Int×List Int),(ns.foldl est s).2.length=s.2.length+ns.length:=by
  intro ns
  induction ns with
  |nil=>intro s;rfl
  |cons n ns ih=>intro s;rw [List.foldl_cons,ih];simp [est];omega
 rw [cu,go];simp
theorem jZ (l:List (List Int)) (a:Int):(step l a).length=l.length*(bo a).length:=by
 induction l with
 |nil=>simp [step]
 |cons x l ih=>
  have e:step (x::l) a=((bo a).map fun k=>x++[k])++step l a:=by simp [step]
  rw [e,F5,ih,F6,List.length_cons,Nat.succ_mul,Nat.add_comm]
theorem mC {α:Type} (c:Nat):∀l:List α,(l.map fun _=>c).sum=l.length*c
 |[]=>by simp
 |_::l=>by rw [List.map_cons,List.sum_cons,mC c l,List.length_cons,Nat.succ_mul,Nat.add_comm]
noncomputable def prs (l:List (List Int)):List (List Int×List Int):=l.flatMap fun x=>l.map fun y=>(x,y)
noncomputable def prD (p:List Int×List Int):D:=.tup [tupI p.1,tupI p.2]
noncomputable def pkT (x:List Int):PK:=.t (x.map .i)
noncomputable def pkP (p:List Int×List Int):PK:=.t [pkT p.1,pkT p.2]
noncomputable def ups:List (List Int):=[[],[2],[3],[4],[5],[6],[7],[8],[9],[2,2],[2,3],[2,4],[3,2],[3,3],[4,2],[2,2,2]]
theorem prod_cons (n:Int) (ns:List Int):prod (n::ns)=n*prod ns:=by
 have go:∀(ns:List Int) (a:Int),List.foldl (·*·) a ns=a*List.foldl (·*·) 1 ns:=by
  intro ns
  induction ns with
  |nil=>intro a;simp
  |cons m ns ih=>intro a;rw [List.foldl_cons,ih,List.foldl_cons,ih (1*m),Int.one_mul,Int.mul_assoc]
 show List.foldl (·*·) (1*n) ns=_;rw [go,Int.one_mul];rfl
theorem fD:∀{ns:List Int},(∀n∈ns,2<=n)->1<=prod ns
 |[],_=>by show (1:Int)<=1;decide
 |n::ns,h=>by
  rw [prod_cons];have h1:=h n Fa;have h2:=fD (ns:=ns) fun m hm=>h m (EQ _ hm);have:=Int.mul_le_mul h1 h2 (by decide) (by omega);omega
theorem o8 (g:∀n∈ns,2<=n) (h:prod ns<=9):ns∈ups:=by
 match ns,g,h with
 |[],_,_=>decide
 |[a],g,h=>
  have ha:=g a (by simp);rw [prod_cons,show prod []=1 from rfl] at h;have:a=2∨a=3∨a=4∨a=5∨a=6∨a=7∨a=8∨a=9:=by omega
  rcases this with rfl|rfl|rfl|rfl|rfl|rfl|rfl|rfl<;>decide
 |[a,b],g,h=>
  have ha:=g a (by simp);have hb:=g b (by simp);rw [prod_cons,prod_cons,show prod []=1 from rfl,Int.mul_one] at h;have h1:a*2<=a*b:=Int.mul_le_mul_of_nonneg_left hb (by omega);have h2:2*b<=a*b:=Int.mul_le_mul_of_nonneg_right ha (by omega);have a4:a=2∨a=3∨a=4:=by omega
  have b4:b=2∨b=3∨b=4:=by omega
  rcases a4 with rfl|rfl|rfl<;>rcases b4 with rfl|rfl|rfl<;>first|decide|(exfalso;omega)
 |a::b::c::r,g,h=>
  have ha:=g a (by simp);have hb:=g b (by simp);have hc:=g c (by simp);have hr:=fD (ns:=r) fun m hm=>g m (by simp [hm]);rw [prod_cons,prod_cons,prod_cons] at h;have e1:c*1<=c*prod r:=Int.mul_le_mul_of_nonneg_left hr (by omega);have e2:2*prod r<=c*prod r:=Int.mul_le_mul_of_nonneg_right hc (by omega);have f1:b*(c*prod r)≥2*(c*prod r):=Int.mul_le_mul_of_nonneg_right hb (by omega);have f2:b*2<=b*(c*prod r):=Int.mul_le_mul_of_nonneg_left (by omega) (by omega);have g1:a*(b*(c*prod r))≥2*(b*(c*prod r)):=Int.mul_le_mul_of_nonneg_right ha (by omega);have g2:a*4<=a*(b*(c*prod r)):=Int.mul_le_mul_of_nonneg_left (by omega) (by omega);have ha2:a=2:=by omega
  have hb2:b=2:=by omega
  have hc2:c=2:=by omega
  have hr1:prod r=1:=by omega
  cases r with
  |nil=>subst ha2 hb2 hc2;decide
  |cons m r=>
   exfalso;have hm:=g m (by simp);have hr2:=fD (ns:=r) fun z hz=>g z (by simp [hz]);rw [prod_cons] at hr1;have:m*1<=m*prod r:=Int.mul_le_mul_of_nonneg_left hr2 (by omega);omega
noncomputable def hashesOf (ns:List Int):List Int:=(prs (mem ns)).map fun p=>(pkP p).hs
theorem mG:ups.all (fun ns=>IN.apart (hashesOf ns))=true:=by decide+kernel
noncomputable def ae (t:List Int×List Int->List Int) (l:List (List Int×List Int)):List (PK×D):=l.map fun p=>(pkP p,tupI (t p))
theorem jd (h:pkT x=pkT y):x=y:=by
 unfold pkT at h;have h':x.map PK.i=y.map PK.i:=PK.t.inj h;have go:∀(x y:List Int),x.map PK.i=y.map PK.i->x=y:=by
  intro x
  induction x with
  |nil=>intro y e;cases y with
   |nil=>rfl
   |cons _ _=>cases e
  |cons a x ih=>intro y e;cases y with
   |nil=>cases e
   |cons b y=>
    rw [List.map_cons,List.map_cons] at e;injection e with e1 e2;rw [PK.i.inj e1,ih y e2]
 exact go x y h'
theorem qg (h:pkP p=pkP q):p=q:=by
 unfold pkP at h;have h':=PK.t.inj h;injection h' with h1 h2;injection h2 with h2 _;exact Prod.ext (jd h1) (jd h2)
theorem vQ (h:p∈l):a8 (ae t l) (pkP p)=some (tupI (t p)):=by
 induction l with
 |nil=>cases h
 |cons q l ih=>
  unfold a8 ae at ih ⊢;rw [List.map_cons,List.find?_cons]
  by_cases e:pkP q=pkP p
  ·rw [Ge e,qg e];rfl
  ·rw [Gf e];rcases Fr.mp h with z|z
   ·exact absurd (by rw [z]) e
   ·exact ih z
theorem tF (h:p∉l):a8 (ae t l) (pkP p)=none:=by
 induction l with
 |nil=>rfl
 |cons q l ih=>
  unfold a8 ae at ih ⊢;rw [List.map_cons,List.find?_cons];have e:¬pkP q=pkP p:=fun z=>h (by rw [qg z];exact Fa);rw [Gf e];exact ih fun z=>h (EQ _ z)
theorem hX (h:p∉l):dG (ae t l) (pkP p) (tupI (t p))=ae t (l++[p]):=by
 unfold dG;rw [tF h];simp [ae]
theorem xP (p:List Int×List Int):PK.d (pkP p)=prD p:=by
 have go:∀x:List Int,PK.d (pkT x)=tupI x:=by
  intro x;show D.tup (PK.dL (x.map PK.i))=.tup (ja x)
  congr 1
  induction x with
  |nil=>rfl
  |cons a x ih=>show D.int a::PK.dL (x.map PK.i)=D.int a::ja x;rw [ih]
 show D.tup [PK.d (pkT p.1),PK.d (pkT p.2)]=_;rw [go,go];rfl
local macro_rules|`(tactic|walk_at "s")=>do
 let m<-("IN.run af.eq_1 af.eq_2 af.eq_3 af.eq_4 af.eq_5 af.eq_6 af.eq_7 af.eq_8 af.eq_9 af.eq_10 af.eq_11 af.eq_12 af.eq_13 af.eq_16 af.eq_18 af.eq_19 evV ev.eq_1 ev.eq_2 ev.eq_3 ev.eq_4 ev.eq_5 ev.eq_6 ev.eq_7 ev.eq_8 ev.eq_9 ev.eq_10 ev.eq_11 ev.eq_12 ev.eq_13 ev.eq_14 ev.eq_15 ev.eq_16 ev.eq_17 ev.eq_18 ev.eq_19 ev.eq_20 ev.eq_21 ev.eq_23 evA evT evI evB aJ aa aH List.modify_zero_cons List.modify_succ_cons List.modify_nil kp ak aW gj aq aY jL List.set_cons_zero List.set_cons_succ List.set_nil List.getElem?_cons_zero List.getElem?_cons_succ List.length_cons List.length_nil Nat.reduceAdd Nat.reduceLT Nat.reduceSub Nat.reduceLeDiff Nat.zero_add Nat.zero_lt_succ if_true if_false Bool.not_true Bool.not_false Bool.true_and Bool.false_and Bool.and_true Bool.and_false Bool.true_or Bool.false_or Bool.or_true Bool.or_false and_self true_and and_true Bool.false_eq_true gC nL hV m_ lr qR qQ xx xB b8 dD bx fnR aV Rs.val Ow.D dA cq List.replicate List.cons_append List.nil_append List.map_cons List.map_nil slD asI xn xj xq xt qP xo xr xl xu tE tx Option.map_some decide_true decide_false List.all_cons List.all_nil tks fG oS List.append_nil reduceCtorEq ite_self".splitOn " ").toArray.mapM fun s=>`(Lean.Parser.Tactic.simpLemma|$(Lean.mkIdent s.toName):ident)
 `(tactic|simp only [*,$m,*])
local macro_rules|`(tactic|walk_at "r")=>`(tactic|(walk_at "s";try rfl))
noncomputable def eL (n c:String):Bool:=n==c||(n=="bool"&&c=="int")
noncomputable def kL:List String:=["NoneType","bool","int","str","tuple","list","dict"]
noncomputable def kK:List String:=["int","bool","list","tuple","str","dict"]
structure GA (G:Prg) (C:Addr):Prop where
 isw:G.defs "is_whole"=some (none,P.jN)
 Bt:G.fn "is_whole"=some ("is_whole":Str)
 prd:G.defs "product"=some (none,P.product)
 E8:G.fn "product"=some ("product":Str)
 are:G.defs "are_rounds"=some (none,P.gz)
 EZ:G.fn "are_rounds"=some ("are_rounds":Str)
 least:G.glob "LEAST_ROUND"=some (.int 2)
 most:G.glob "MOST_MEMBERS"=some (.int 144)
 Dd:G.glob "int"=some (.ty "int")
 xV:G.glob "bool"=some (.ty "bool")
 EL:G.glob "list"=some (.ty "list")
 wF:G.glob "tuple"=some (.ty "tuple")
 kit:∀n∈kL,∀c∈kK,G.kit (.ty n) (.ty c)=some (eL n c)
 ini:G.defs "Rounds.__init__"=some (some C,P.dy)
 fi:G.fn "Rounds"=none∧G.ini "Rounds"=some (C,("Rounds.__init__":Str))
 fok:G.fok C "rounds"=true
section
variable {G:Prg} {C:Addr} {n:Nat}
theorem wO (A:GA G C):kal G (n+1) "is_whole" [.int i]=some (.ok (.bl true)):=by
 refine ay A.isw ⟨rfl,rfl⟩ rfl (aR ?_);have h1:=A.kit "int" (by decide) "int" (by decide);have h2:=A.kit "int" (by decide) "bool" (by decide);have e1:eL "int" "int"=true:=by decide
 have e2:eL "int" "bool"=false:=by decide
 have:=A.Dd;have:=A.xV
 walk_at "s"
theorem rW (A:GA G C) (hs:itD t=some (ns.map .int)) (sm:Sm ns):kal G (n+1) "product" [t]=some (.ok (.int (prod ns))):=by
 refine ay A.prd ⟨rfl,rfl⟩ (ρ0:=[.val t,.nil,.nil]) rfl ?_;refine st (by walk_at "r") ?_;refine st (by walk_at "r") ?_;refine st (cK (g:=D.int) (fun done=>[.val t,.val (.int (prod done)),.any]) ns (by walk_at "s") rfl fun done a rest e=>?_) ?_
 ·refine ⟨_,by walk_at "r",?_⟩;have h:=eQ (i:=prod done) (j:=a) (by have:=sm a (by rw [e];simp);omega);refine st (by walk_at "r") (st (by walk_at "r") ?_);rw [bc,t_]
 ·exact aR (by walk_at "s")
theorem Sq.it (q:ba t=some xs):itD t=some xs:=by
 cases t<;>first|(cases q;done)|exact q
theorem BC (q:ba t=some xs):bR G t (.tup [.ty "list",.ty "tuple"])=some true:=by
 cases t<;>first|(cases q;done)|rfl
theorem Dx (A:GA G C) (q:ba t=some (ns.map .int)) (hl:ns.length<=1000) (b:Big ns):kal G (n+2) "are_rounds" [t]=some (.ok (.bl (decide (prod ns<=144)))):=by
 refine ay A.are ⟨rfl,rfl⟩ (ρ0:=[.val t]) rfl ?_;have h1:=BC (G:=G) q;have h2:=A.EL;have h3:=A.wF;have h4:=A.E8;have h5:=A.most;have h6:=rW (n:=n) A (Sq.it q) b.sm;have hz:(2:Nat)<=sizeLine:=by decide
 refine st (ρ':=[.val t]) (by walk_at "s") ?_;have h7:ev G (kal G (n+1)) (.comp 1 [] (.nm 0) (.var 0) (.lit (.bl true)) (.emit (.and (.fn "is_whole" [(.var 0)]) (.cmp .ge (.var 0) (.gl "LEAST_ROUND"))))) [.val t]=some (.lst ((ns.map fun _=>true).map .bl)):=by
  rw [List.map_map];refine cj (g:=D.int) (by simp only [evI,aJ,List.getElem?_cons_zero];exact Sq.it q) rfl (Gb hl (by decide)) fun a ha=>⟨_,rfl,?_⟩
  have e1:=A.Bt;have e2:=wO (i:=a) (n:=n) A;have e3:=A.least;have e4:decide (2<=a)=true:=Ge (b a ha).1
  walk_at "s"
  rfl
 have h8:((ns.map fun _=>true).all id)=true:=by simp
 refine st (ρ':=[.val t]) (by
  have:=d6 (ns.map fun _=>true)
  walk_at "s") ?_
 exact aR (by walk_at "s")
theorem ir (A:GA G C) (q:ba t=some (ns.map .int)) (g:Good ns):kal G (n+3) "Rounds.__init__" [t]=some (.ok (grp C ns)):=by
 refine lu A.ini ⟨rfl,rfl⟩ (ρ0:=[.val t]) rfl (fs:=rf ns) (a:=0) (b:=0) (ρ:=[.val t]) ?_;have h1:=A.EZ;have h2:=Dx (n:=n) A q g.cW g.big;rw [Ge g.le] at h2;refine st (ρ':=[.new C 0 0 [],.val t]) (by walk_at "s") ?_;have h3:=A.fok;have h4:aW (ns.map .int)=true:=cJ ns;have h5:(0:Nat)<1000:=by decide
 refine st (by walk_at "r") bc
structure GB (G:Prg) (C:Addr):Prop where
 A:GA G C
 mem:G.defs "Rounds.members"=some (none,P.dN)
 Fx:G.mth C "members"=some ("Rounds.members":Str)
 has:G.defs "Rounds.has"=some (none,P.dz)
 vW:G.mth C "has"=some ("Rounds.has":Str)
 evn:G.defs "Rounds.is_even"=some (none,P.dM)
 Fu:G.mth C "is_even"=some ("Rounds.is_even":Str)
 siz:G.defs "Group.size"=some (none,P.gx)
 Fz:G.mth C "size"=some ("Group.size":Str)
theorem vP:(rf ns).lookup ("rounds":Str)=some (tupI ns):=rfl
theorem AG (B:GB G C):kal G (n+1) "Rounds.is_even" [grp C ns]=some (.ok (.bl true)):=ay B.evn ⟨rfl,rfl⟩ rfl (aR rfl)
theorem rV (B:GB G C) (g:Good ns) (ft:Fit ns):kal G (n+1) "Rounds.members" [grp C ns]=some (.fr (.l ((PL.mem ns).map tupI))):=by
 refine fz B.mem ⟨rfl,rfl⟩ (ρ0:=[.val (grp C ns),.nil,.nil]) rfl ?_;have hz:(0:Nat)<=sizeLine:=by decide
 have hz1:(1:Nat)<=sizeLine:=by decide
 refine st (ρ':=[.val (grp C ns),.owx (.l [.tup []]),.nil]) (by walk_at "r") (st (by walk_at "r") ?_);have h1:=B.A.fok;refine st (cK (g:=D.int) (fun done=>[.val (grp C ns),.owx (.l ((PL.mem done).map tupI)),.any]) ns (by unfold grp;simp only [evI,ev.eq_1,aJ,aa,List.modify_zero_cons,aH,List.getElem?_cons_zero,bx,h1,if_true,vP,qR]) rfl fun done a rest e=>?_) ?_
 ·refine ⟨[.val (grp C ns),.owx (.l ((PL.mem done).map tupI)),.val (.int a)],rfl,?_⟩;have ha:a∈ns:=by rw [e];simp
  have hp:(done++[a])<+:ns:=⟨rest,by rw [e,F8];rfl⟩
  have h144:=g.lt a ha;have h2:=g.ge a ha;have key:ev G (kal G n) (.comp 2 [2] (.nm 0) (.var 1) (.lit (.bl true)) (.loop (.nm 1) (.blt .range [(.var 2)]) (.lit (.bl true)) (.emit (.bin .add (.var 0) (.tup [(.var 1)]))))) [.val (grp C ns),.val (.lst ((PL.mem done).map tupI)),.val (.int a)]=some (.lst ((PL.mem (done++[a])).map tupI)):=by
   rw [gV];have e2:((PL.step (PL.mem done) a).map tupI)=(PL.mem done).flatMap fun b=>(bo a).map fun k=>tupI (b++[k]):=by simp only [PL.step,List.map_flatMap,List.map_map];rfl
   rw [e2];have hr:=rN (j:=a) (by omega);refine sP (g:=tupI) (g2:=D.int) (u:=fun b k=>tupI (b++[k])) (m:=fun _=>bo a) (by simp only [evI,aJ,List.getElem?_cons_succ,List.getElem?_cons_zero,lr]) rfl ?_ fun b hb=>⟨_,rfl,?_,rfl,fun k hk=>⟨_,rfl,?_⟩⟩
   ·rw [←e2,F6,←gV];exact Gb (ft _ hp) (by decide)
   ·simp only [evI,evA,ev.eq_1,aJ,dA,cq,List.replicate,List.cons_append,List.nil_append,List.map_cons,List.map_nil,List.set_cons_zero,List.getElem?_cons_succ,List.getElem?_cons_zero,hr]
   ·have hl:=PL.pX hb;have h2':done.length<=ns.length:=by rw [e];simp
    have h7:=g.len;have hz':b.length+1<=sizeLine:=Gb (show b.length+1<=1000 by omega) (by decide);have e3:=mE b k;simp only [ev.eq_1,ev.eq_4,ev.eq_14,evA,aJ,dA,cq,List.replicate,List.cons_append,List.nil_append,List.map_cons,List.map_nil,List.set_cons_zero,List.set_cons_succ,List.getElem?_cons_succ,List.getElem?_cons_zero,List.length_cons,List.length_nil,Nat.zero_add,hz1,if_true,gC,List.length_map,hz',e3]
  refine st (ρ':=[.val (grp C ns),.owx (.l ((PL.mem (done++[a])).map tupI)),.val (.int a)]) ?_ (st rfl bc);have e5:aa [2,1] [.val (grp C ns),.owx (.l ((PL.mem done).map tupI)),.val (.int a)]=[.val (grp C ns),.val (.lst ((PL.mem done).map tupI)),.val (.int a)]:=rfl;simp only [af.eq_1,e5,evV,key];simp only [List.length_cons,List.length_nil,Nat.reduceAdd,Nat.reduceLT,if_true];cases bN (.l ((PL.mem (done++[a])).map tupI))<;>rfl
 ·exact hW (by walk_at "s")
theorem lD (B:GB G C) (g:Good ns) (ft:Fit ns):aV G (kal G (n+1)) (grp C ns) "members" []=some (.fr (.l ((PL.mem ns).map tupI))):=by
 have h1:=B.Fx;have h2:=rV (n:=n) B g ft;have h3:(rf ns).lookup ("members":Str)=none:=rfl;unfold grp at h2 ⊢;simp only [aV,h3,h1,h2]
theorem AI (B:GB G C) (g:Good ns) (ft:Fit ns):kal G (n+2) "Group.size" [grp C ns]=some (.ok (.int (PL.mem ns).length)):=by
 refine ay B.siz ⟨rfl,rfl⟩ (ρ0:=[.val (grp C ns)]) rfl (aR ?_);have h:=lD (n:=n) B g ft;simp only [af.eq_11,evV,ev.eq_19,ev.eq_21,ev.eq_1,evA,aJ,aa,aH,List.modify_zero_cons,List.getElem?_cons_zero,h,Rs.val,Ow.D,b8,hV,List.length_map]
theorem j3 (ks ns:List Int):bE (ks.map .int) (ns.map .int)=(ks.zip ns).map fun p=>.tup [.int p.1,.int p.2]:=mK
theorem wN (A:GA G C) (hd:G.defs "Rounds.has"=some (none,P.dz)) (g:Good ns) (hl:ks.length=ns.length):kal G (n+2) "Rounds.has" [grp C ns,tupI ks]=some (.ok (.bl (hasB ns ks))):=by
 refine ay hd ⟨rfl,rfl⟩ (ρ0:=[.val (grp C ns),.val (tupI ks)]) rfl ?_;have h1:=A.fok;have h2:=A.wF;have h3:=A.kit "tuple" (by decide) "tuple" (by decide);have e3:eL "tuple" "tuple"=true:=by decide
 have h4:=@vP ns;have h5:decide ((ks.length:Int)=(ns.length:Int))=true:=by rw [hl];simp
 have hf:bx G (grp C ns) "rounds"=some (tupI ns):=by unfold grp;simp only [bx,h1,if_true,h4]
 refine st (ρ':=[.val (grp C ns),.val (tupI ks)]) (by
  simp only [af.eq_13,evT,evA,ev.eq_1,ev.eq_3,ev.eq_18,ev.eq_19,aa,aH,List.modify_zero_cons,List.modify_succ_cons,aJ,List.getElem?_cons_zero,List.getElem?_cons_succ,hf,h2,qP,h3,e3,b8,m_,Bool.not_true,nL,List.length_map,h5]
  rfl) ?_
 have e:hasB ns ks=((ks.zip ns).map fun p=>true&&(decide (0<=p.1)&&decide (p.1<p.2))).all id:=by simp [hasB,List.all_map,Function.comp_def]
 have key:ev G (kal G (n+1)) (.comp 2 [] (.tp [(.nm 0),(.nm 1)]) (.blt .zip [(.var 1),(.fld (.var 0) "rounds")]) (.lit (.bl true)) (.emit (.and (.fn "is_whole" [(.var 0)]) (.chn (.lit (.int 0)) (.var 0) (.var 1))))) [.val (grp C ns),.val (tupI ks)]=some (.lst (((ks.zip ns).map fun p=>true&&(decide (0<=p.1)&&decide (p.1<p.2))).map .bl)):=by
  rw [List.map_map];refine cj (g:=fun p:Int×Int=>.tup [.int p.1,.int p.2]) (by simp only [evI,evA,ev.eq_1,ev.eq_18,aJ,List.getElem?_cons_zero,List.getElem?_cons_succ,hf,cN,m_,j3]) rfl ?_ fun p hp=>⟨[.val (.int p.1),.val (.int p.2)],rfl,?_⟩
  ·rw [List.length_zip];have:=g.len;exact Gb (show _<=1000 by omega) (by decide)
  ·have e1:=A.Bt;have e2:=wO (i:=p.1) (n:=n) A
   walk_at "r"
 have hb:=d6 ((ks.zip ns).map fun p=>true&&(decide (0<=p.1)&&decide (p.1<p.2)));refine aR ?_;have e5:aa [1,0] [.val (grp C ns),.val (tupI ks)]=[.val (grp C ns),.val (tupI ks)]:=rfl;simp only [af.eq_11,evV,ev.eq_19,evA,e5,key,b8,hV,hb,e]
end
structure TB (G:Prg) (C CG CTb:Addr):Prop where
 B:GB G C
 cG:G.glob "Group"=some (.cl CG)
 cR:G.glob "Rounds"=some (.cl C)
 kG:G.kit (.cl C) (.cl CG)=some true
 kR:G.kit (.cl C) (.cl C)=some true
 ml:G.glob "MOST_LOWER"=some (.int 16)
 mu:G.glob "MOST_UPPER"=some (.int 9)
 nl:G.defs "need_lower"=some (none,P.eM)
 fnl:G.fn "need_lower"=some ("need_lower":Str)
 nu:G.defs "need_upper"=some (none,P.gX)
 fnu:G.fn "need_upper"=some ("need_upper":Str)
 pr:G.defs "pairs_of"=some (none,P.jV)
 fpr:G.fn "pairs_of"=some ("pairs_of":Str)
 pk:G.defs "picked_carries"=some (none,P.dW)
 fpk:G.fn "picked_carries"=some ("picked_carries":Str)
 ini:G.defs "Table.__init__"=some (some CTb,P.dO)
 fi:G.fn "Table"=none∧G.ini "Table"=some (CTb,("Table.__init__":Str))
 flo:G.fok CTb "lower"=true
 fup:G.fok CTb "upper"=true
 fke:G.fok CTb "kept"=true
section
variable {G:Prg} {C CG CTb:Addr} {n:Nat}
theorem jQ (B:GB G C) (g:Good ns) (ft:Fit ns):aV G (kal G (n+2)) (grp C ns) "size" []=some (.ok (.int (PL.mem ns).length)):=by
 have h1:=B.Fz;have h2:=AI (n:=n) B g ft;have h3:(rf ns).lookup ("size":Str)=none:=rfl;unfold grp at h2 ⊢;simp only [aV,h3,h1,h2]
theorem oA (B:GB G C):aV G (kal G (n+1)) (grp C ns) "is_even" []=some (.ok (.bl true)):=by
 have h1:=B.Fu;have h2:=AG (n:=n) (ns:=ns) B;have h3:(rf ns).lookup ("is_even":Str)=none:=rfl;unfold grp at h2 ⊢;simp only [aV,h3,h1,h2]
theorem zh (B:GB G C) (g:Good ns) (hl:ks.length=ns.length):aV G (kal G (n+2)) (grp C ns) "has" [tupI ks]=some (.ok (.bl (hasB ns ks))):=by
 have h1:=B.vW;have h2:=wN (n:=n) B.A B.has g hl;have h3:(rf ns).lookup ("has":Str)=none:=rfl;unfold grp at h2 ⊢;simp only [aV,h3,h1,h2]
theorem xm:bR G (grp C ns) (.cl E)=G.kit (.cl C) (.cl E):=rfl
theorem pB (T:TB G C CG CTb) (g:Good ns) (ft:Fit ns) (h16:(PL.mem ns).length<=16):kal G (n+3) "need_lower" [grp C ns]=some (.ok .non):=by
 refine iG T.nl ⟨rfl,rfl⟩ (ρ0:=[.val (grp C ns)]) rfl (ρ:=[.val (grp C ns)]) ?_;have h1:=T.cG;have h2:=T.kG;have h3:=oA (n:=n+1) (ns:=ns) T.B;have h4:=jQ (n:=n) T.B g ft;have h5:=T.ml;have h6:decide ((16:Int)<((PL.mem ns).length:Int))=false:=Gf (by omega);refine st (ρ':=[.val (grp C ns)]) ?_ bc;simp only [af.eq_13,evT,evA,ev.eq_1,ev.eq_3,ev.eq_21,aa,aH,List.modify_zero_cons,aJ,List.getElem?_cons_zero,h1,xm,h2,b8,Bool.not_true,h3,h4,h5,Rs.val,nL,h6,IN.run]
theorem pC (T:TB G C CG CTb) (g:Good ns) (ft:Fit ns) (h9:(PL.mem ns).length<=9):kal G (n+3) "need_upper" [grp C ns]=some (.ok .non):=by
 refine iG T.nu ⟨rfl,rfl⟩ (ρ0:=[.val (grp C ns)]) rfl (ρ:=[.val (grp C ns)]) ?_;have h1:=T.cR;have h2:=T.kR;have h4:=jQ (n:=n) T.B g ft;have h5:=T.mu;have h6:decide ((9:Int)<((PL.mem ns).length:Int))=false:=Gf (by omega);refine st (ρ':=[.val (grp C ns)]) ?_ bc;simp only [af.eq_13,evT,evA,ev.eq_1,ev.eq_3,ev.eq_21,aa,aH,List.modify_zero_cons,aJ,List.getElem?_cons_zero,h1,xm,h2,b8,Bool.not_true,h4,h5,Rs.val,nL,h6,IN.run]
theorem eR:(prs l).length=l.length*l.length:=by unfold prs;rw [List.length_flatMap];simp only [List.length_map];exact mC _ _
theorem k9 (T:TB G C CG CTb) (g:Good ns) (ft:Fit ns) (h9:(PL.mem ns).length<=9):kal G (n+2) "pairs_of" [grp C ns]=some (.fr (.l ((prs (PL.mem ns)).map prD))):=by
 refine fz T.pr ⟨rfl,rfl⟩ (ρ0:=[.val (grp C ns),.nil]) rfl ?_;have h1:=lD (n:=n) T.B g ft;have h2:bN (.l ((PL.mem ns).map tupI))=true:=by
  show aW ((PL.mem ns).map tupI)=true;generalize PL.mem ns=l
  induction l with
  |nil=>rfl
  |cons x l ih=>show (aW (x.map .int)&&aW (l.map tupI))=true;rw [cJ,ih];rfl
 refine st (ρ':=[.val (grp C ns),.owx (.l ((PL.mem ns).map tupI))]) (by
  simp? [af.eq_1,evV,evA,ev.eq_1,h1,h2]) ?_
 have hz2:(2:Nat)<=sizeLine:=by decide
 have key:ev G (kal G (n+1)) (.comp 2 [1] (.nm 0) (.var 1) (.lit (.bl true)) (.loop (.nm 1) (.var 2) (.lit (.bl true)) (.emit (.tup [(.var 0),(.var 1)])))) [.val (grp C ns),.val (.lst ((PL.mem ns).map tupI))]=some (.lst ((prs (PL.mem ns)).map prD)):=by
  have e2:(prs (PL.mem ns)).map prD=(PL.mem ns).flatMap fun x=>(PL.mem ns).map fun y=>prD (x,y):=by simp only [prs,List.map_flatMap,List.map_map];rfl
  rw [e2];refine sP (g:=tupI) (g2:=tupI) (u:=fun x y=>prD (x,y)) (m:=fun _=>PL.mem ns) (by simp only [evI,aJ,List.getElem?_cons_succ,List.getElem?_cons_zero,lr]) rfl ?_ fun b hb=>⟨[.val (tupI b),.nil,.val (.lst ((PL.mem ns).map tupI))],rfl,?_,rfl,fun k hk=>⟨[.val (tupI b),.val (tupI k),.val (.lst ((PL.mem ns).map tupI))],rfl,?_⟩⟩
  ·rw [←e2,F6,eR];have:=Nat.mul_le_mul h9 h9;exact Gb this (by decide)
  ·simp only [evI,aJ,List.getElem?_cons_succ,List.getElem?_cons_zero,lr]
  ·simp only [ev.eq_14,evA,ev.eq_1,aJ,List.getElem?_cons_succ,List.getElem?_cons_zero,List.length_cons,List.length_nil,Nat.reduceAdd,hz2,if_true];rfl
 refine hW ?_;have e5:aa [1] [.val (grp C ns),.owx (.l ((PL.mem ns).map tupI))]=[.val (grp C ns),.val (.lst ((PL.mem ns).map tupI))]:=rfl;simp only [af.eq_11,evV,e5,key]
noncomputable abbrev Pr:=List Int×List Int
theorem fO (p:Pr):bU (prD p)=some (.t [pkT p.1,pkT p.2]):=by
 unfold prD pkT;simp only [bU,g0,g_]
theorem fN (p:Pr):(pkP p).dp<=8:=by
 have go:∀x:List Int,_root_.CT.PK.dpL (x.map _root_.CT.PK.i)=0:=by
  intro x
  induction x with
  |nil=>rfl
  |cons a x ih=>show max (_root_.CT.PK.dp (.i a)) (_root_.CT.PK.dpL (x.map .i))=0;rw [ih];rfl
 show _root_.CT.PK.dpL [pkT p.1,pkT p.2]+1<=8;show max (_root_.CT.PK.dp (pkT p.1)) (max (_root_.CT.PK.dp (pkT p.2)) 0)+1<=8;have e:∀x,_root_.CT.PK.dp (pkT x)=1:=fun x=>by show _root_.CT.PK.dpL (x.map .i)+1=1;rw [go]
 rw [e,e];decide
theorem kq:ixD (.pdc es) (prD p)=look es (pkP p):=xy (fO p) (fN p)
theorem yX:aV G cl (.pdc es) "get" [prD p]=some (.ok ((look es (pkP p)).getD .non)):=by
 have h:=fN p;unfold pkP at h ⊢;simp only [aV,if_true,fO,h]
noncomputable abbrev tf (C:Addr) (lo up:List Int) (t:Pr->List Int):List (Str×D):=[(("lower":Str),grp C lo),(("upper":Str),grp C up),(("kept":Str),.pdc (ae t (prs (PL.mem up))))]
noncomputable def tabI (CTb C:Addr) (lo up:List Int) (t:Pr->List Int):D:=.ins CTb (tf C lo up t)
theorem ek (h:l.Nodup):(prs l).Nodup:=by
 unfold prs;have:∀l':List (List Int),l'.Nodup->(l'.flatMap fun x=>l.map fun y=>(x,y)).Nodup:=by
  intro l'
  induction l' with
  |nil=>intro _;exact List.nodup_nil
  |cons a l' ih=>
   intro hn;rw [List.nodup_cons] at hn;rw [List.flatMap_cons];rw [List.nodup_append];refine ⟨?_,ih hn.2,?_⟩
   ·exact List.Pairwise.map _ (fun x y hxy=>fun z=>hxy (by injection z)) h
   ·intro x hx y hy e;obtain ⟨b,_,rfl⟩:=FB.mp hx;obtain ⟨c,hc,hy⟩:=List.mem_flatMap.mp hy;obtain ⟨d,_,rfl⟩:=FB.mp hy;have:a=c:=by injection e
    exact hn.1 (this▸hc)
 exact this l h
theorem BU {lo up:List Int} {t:Pr->List Int}:(tf C lo up t).lookup ("lower":Str)=some (grp C lo):=rfl
theorem D' {lo up:List Int} {t:Pr->List Int}:(tf C lo up t).lookup ("upper":Str)=some (grp C up):=rfl
theorem xE {lo up:List Int} {t:Pr->List Int}:(tf C lo up t).lookup ("kept":Str)=some (.pdc (ae t (prs (PL.mem up)))):=rfl
theorem bY (ks:List Int):ak (tupI ks)=true:=cJ ks
theorem iU (x y:List Int):D.tup [tupI x,tupI y]=prD (x,y):=rfl
structure LU (lo up:List Int):Prop where
 gl:Good lo
 gu:Good up
 fl:Fit lo
 fu:Fit up
 l16:(PL.mem lo).length<=16
 u9:(PL.mem up).length<=9
 nd:(PL.mem up).Nodup
 p9:prod up<=9
theorem uS {lo up:List Int} {es:List (_root_.CT.PK×D)} {t:Pr->List Int} (T:TB G C CG CTb) (U:LU lo up) (hes:∀p∈prs (PL.mem up),look es (pkP p)=some (tupI (t p))) (het:∀p∈prs (PL.mem up),El lo (t p)):
  kal G (n+3) "picked_carries" [grp C lo,grp C up,.pdc es]=some (.fr (.d (ae t (prs (PL.mem up))))):=by
 refine fz T.pk ⟨rfl,rfl⟩ (ρ0:=[.val (grp C lo),.val (grp C up),.val (.pdc es),.nil,.nil,.nil,.nil]) rfl ?_;have hz2:(2:Nat)<=sizeLine:=by decide
 refine st (ρ':=[.val (grp C lo),.val (grp C up),.val (.pdc es),.owx (.d []),.nil,.nil,.nil]) rfl ?_;refine st (ρ':=[.val (grp C lo),.val (grp C up),.val (.pdc es),.owx (.d []),.any,.any,.any]) rfl ?_;have h1:=T.fpr;have h2:=k9 (n:=n) T U.gu U.fu U.u9;refine st (cK (g:=prD) (fun done=>[.val (grp C lo),.val (grp C up),.val (.pdc es),.owx (.d (ae t done)),.any,.any,.any]) (prs (PL.mem up)) (by simp only [evI,evA,ev.eq_1,aa,aH,List.modify_zero_cons,List.modify_succ_cons,aJ,List.getElem?_cons_zero,List.getElem?_cons_succ,fnR,h1,h2,Rs.val,Ow.D,lr]) rfl fun done p rest e=>?_) ?_
 ·have hp:p∈prs (PL.mem up):=by rw [e];simp
  have hnd:=ek U.nd;have hn:p∉done:=by
   rw [e] at hnd;intro z;exact (List.nodup_append.mp hnd).2.2 p z p Fa rfl
  have g1:=yX (G:=G) (cl:=kal G (n+2)) (es:=es) (p:=p);rw [hes p hp] at g1;have g2:=zh (n:=n) (ks:=t p) T.B U.gl (het p hp).len;rw [(het p hp).has] at g2;have g3:dZ (ae t done) (pkP p) (tupI (t p))=ae t (done++[p]):=by rw [eS];exact hX hn
  have g4:=fO p;have g5:=fN p;have g6:(ae t done).length<sizeLine:=by
   unfold ae;rw [F6];have l1:done.length<=(prs (PL.mem up)).length:=by rw [e];simp
   rw [eR] at l1;have:=Nat.mul_le_mul U.u9 U.u9;exact Ga (Gb l1 this) (by decide)
  have g7:=bY (t p);obtain ⟨x,y⟩:=p;refine ⟨[.val (grp C lo),.val (grp C up),.val (.pdc es),.owx (.d (ae t done)),.val (tupI x),.val (tupI y),.any],rfl,?_⟩;refine st (ρ':=[.val (grp C lo),.val (grp C up),.val (.pdc es),.owx (.d (ae t done)),.val (tupI x),.val (tupI y),.val (tupI (t (x,y)))]) (by
   simp? [af.eq_1,evV,evA,ev.eq_1,ev.eq_14,hz2,iU,g1,Option.getD_some,g7]) ?_
  refine st (ρ':=[.val (grp C lo),.val (grp C up),.val (.pdc es),.owx (.d (ae t done)),.val (tupI x),.val (tupI y),.val (tupI (t (x,y)))]) (by
   simp only [af.eq_13,evT,evA,ev.eq_1,aa,aH,List.modify_zero_cons,List.modify_succ_cons,aJ,List.getElem?_cons_zero,List.getElem?_cons_succ,g2,Bool.not_true,IN.run]) ?_
  have g8:(PK.t [pkT x,pkT y]).dp<=8:=g5;have g9:dZ (ae t done) (PK.t [pkT x,pkT y]) (tupI (t (x,y)))=ae t (done++[(x,y)]):=g3;refine st (ρ':=[.val (grp C lo),.val (grp C up),.val (.pdc es),.owx (.d (ae t (done++[(x,y)]))),.val (tupI x),.val (tupI y),.val (tupI (t (x,y)))]) (by
   simp? [af.eq_5,evA,ev.eq_1,ev.eq_14,hz2,iU,g7,g4,g8,g6,and_self,g9]) ?_
  exact st (by rfl) bc
 ·exact hW (by rfl)
theorem k_ {lo up:List Int} {es:List (_root_.CT.PK×D)} {t:Pr->List Int} (T:TB G C CG CTb) (U:LU lo up) (hes:∀p∈prs (PL.mem up),look es (pkP p)=some (tupI (t p))) (het:∀p∈prs (PL.mem up),El lo (t p)):
  kal G (n+4) "Table.__init__" [grp C lo,grp C up,.pdc es]=some (.ok (tabI CTb C lo up t)):=by
 refine lu T.ini ⟨rfl,rfl⟩ (ρ0:=[.val (grp C lo),.val (grp C up),.val (.pdc es)]) rfl (fs:=tf C lo up t) (a:=0) (b:=0) (ρ:=[.val (grp C lo),.val (grp C up),.val (.pdc es)]) ?_;have h1:=T.fnl;have h2:=pB (n:=n) T U.gl U.fl U.l16;have h3:=T.fnu;have h4:=pC (n:=n) T U.gu U.fu U.u9;have h5:=T.fpk;have h6:=uS (n:=n) T U hes het;have f1:=T.flo;have f2:=T.fup;have f3:=T.fke;have z0:(0:Nat)<1000:=by decide
 have z1:(1:Nat)<1000:=by decide
 have z2:(2:Nat)<1000:=by decide
 refine st (by walk_at "r") (st (by walk_at "r") (st (by walk_at "r") (st (by walk_at "r") (st (by walk_at "r") bc))))
end
theorem vD:eqD (tupI (a::x)) (tupI (b::y))=((a==b)&&eqD (tupI x) (tupI y)):=rfl
theorem gL:∀(a b:List Int),eqD (tupI a) (tupI b)=decide (a=b)
 |[],[]=>rfl
 |a::x,[]=>rfl
 |[],b::y=>rfl
 |a::x,b::y=>by
  rw [vD,gL x y]
  by_cases h:a=b
  ·subst h;simp
  ·simp [h]
theorem me (a b:List Int):fb (tupI a) (tupI b)=true:=by
 unfold fb;rw [gS,gS,gI,gI];rfl
theorem lb (a b:List Int):bf .eq (tupI a) (tupI b)=some (decide (a=b)):=by
 show (if fb (tupI a) (tupI b) then some (eqD (tupI a) (tupI b)) else none)=_;rw [me,gL];rfl
theorem i4 (a b:List Int):bf .ne (tupI a) (tupI b)=some (!decide (a=b)):=by
 show (if fb (tupI a) (tupI b) then some (!eqD (tupI a) (tupI b)) else none)=_;rw [me,gL];rfl
section
variable {G:Prg} {C CG CTb:Addr} {n:Nat}
theorem ye (A:GA G C) (hd:G.defs "_law_whole"=some (none,L.whole)):kal G (n+1) "_law_whole" [.int i]=some (.ok (.bl true)):=by
 refine ay hd ⟨rfl,rfl⟩ rfl (aR ?_);have h1:=A.kit "int" (by decide) "int" (by decide);have h2:=A.kit "int" (by decide) "bool" (by decide);have e1:eL "int" "int"=true:=by decide
 have e2:eL "int" "bool"=false:=by decide
 have:=A.Dd;have:=A.xV
 walk_at "s"
theorem rS (hd:G.defs key=some (none,L.element)) (g:Good ns):kal G (n+1) key [tupI ns,.int c]=some (.ok (tupI (elI ns c))):=by
 refine ay hd ⟨rfl,rfl⟩ (ρ0:=[.val (tupI ns),.val (.int c),.nil,.nil]) rfl ?_;refine st (ρ':=[.val (tupI ns),.val (.int c),.owx (.l []),.nil]) rfl ?_;refine st (ρ':=[.val (tupI ns),.val (.int c),.owx (.l []),.any]) rfl ?_;refine st (cK (g:=D.int) (fun done=>[.val (tupI ns),.val (.int (cu c done).1),.owx (.l ((cu c done).2.map D.int)),.any]) ns rfl rfl fun done a rest e=>?_) ?_
 ·refine ⟨[.val (tupI ns),.val (.int (cu c done).1),.owx (.l ((cu c done).2.map D.int)),.val (.int a)],rfl,?_⟩;rw [mh];have hl:=nY c done;generalize cu c done=s at hl ⊢;have ha:a∈ns:=by rw [e];simp
  have h2:=g.ge a ha;have h3:=g.lt a ha;have p1:0<a:=by omega
  have p2:0<a∧a.toNat<1073741824:=by omega
  have e6:(s.2.map D.int).length<sizeLine:=by
   rw [F6,hl];have:=g.len;have:done.length<=ns.length:=by rw [e];simp
   exact Ga (show done.length<=7 by omega) (by decide)
  have e7:s.2.map D.int++[D.int (s.1%a)]=(s.2++[s.1%a]).map D.int:=by simp
  have em:est s a=(s.1 / a,s.2++[s.1%a]):=rfl;rw [em];exact st (by walk_at "r") (st (by walk_at "r") (st (by walk_at "r") bc))
 ·exact aR (by walk_at "r")
end
section
variable {G:Prg} {cl:Str->List D->Option Rs} {ρ ρ':Rho} {α β:Type} {t:Tg} {b:List CS'} {g:α->D} {it:CE} {L:List Nat}
theorem Bv (I:List α->Rho->Prop) (all:List α) (ρ0:Rho) (h0:I [] ρ0) (h:∀(done:List α) (a:α) (rest:List α) (ρ:Rho),all=done++a::rest->I done ρ->∃ρ1 ρ2,aq t (g a) ρ=some ρ1∧bb ρ1=some (.nx ρ2)∧I (done++[a]) ρ2):
  ∃ρ',forL t bb (all.map g) ρ0=some (.nx ρ')∧I all ρ':=by
 have go:∀(l done:List α) (ρ:Rho),all=done++l->I done ρ->∃ρ',forL t bb (l.map g) ρ=some (.nx ρ')∧I (done++l) ρ':=by
  intro l
  induction l with
  |nil=>intro done ρ _ hi;rw [List.append_nil];exact ⟨ρ,rfl,hi⟩
  |cons a l ih=>
   intro done ρ e hi;obtain ⟨ρ1,ρ2,h1,h2,h3⟩:=h done a l ρ e hi;obtain ⟨ρ',z1,z2⟩:=ih (done++[a]) ρ2 (by rw [e,F8];rfl) h3;refine ⟨ρ',?_,by rw [F8] at z2;exact z2⟩;rw [List.map_cons,forL,h1];dsimp only;rw [h2];exact z1
 exact go all [] ρ0 rfl h0
theorem uh (I:List α->Rho->Prop) (all:List α) (hi:evI G cl it (aa L ρ)=some (all.map g)) (hr:aa L ρ=ρ0) (h0:I [] ρ0)
  (h:∀(done:List α) (a:α) (rest:List α) (ρ:Rho),all=done++a::rest->I done ρ->∃ρ1 ρ2,aq t (g a) ρ=some ρ1∧IN.run G cl b ρ1=some (.nx ρ2)∧I (done++[a]) ρ2):∃ρ',IN.af G cl (.for t it L b) ρ=some (.nx ρ')∧I all ρ':=by
 rw [IN.af,hi];dsimp only;rw [hr];exact Bv I all ρ0 h0 h
end
section
variable {G:Prg} {C CG CTb:Addr} {n:Nat}
noncomputable def aL (a b:Int):Int:=Int.gcd a b
theorem An:∀(f:Nat) (a b:Int),0<=a->0<=b->b.toNat<f->ie (fun ρ=>evT G cl (.cmp .ne (.var 1) (.lit (.int 0))) (aa [1] ρ)) (IN.run G cl [(.par 0 1 (.var 1) (.bin .mod (.var 0) (.var 1)) [0,1])]) f [.val (.int a),.val (.int b)]=some (.nx [.val (.int (aL a b)),.val (.int 0)]):=by
 intro f
 induction f with
 |zero=>intro a b _ _ h;omega
 |succ f ih=>
  intro a b ha hb h;rw [ie]
  by_cases hz:b=0
  ·subst hz;have e:aL a 0=a:=by unfold aL;rw [Int.gcd_zero_right];omega
   rw [e];rfl
  ·have h1:evT G cl (.cmp .ne (.var 1) (.lit (.int 0))) (aa [1] [.val (.int a),.val (.int b)])=some true:=by
    have:decide (b=0)=false:=Gf hz;simp only [evT,ev.eq_1,ev.eq_2,aa,aH,List.modify_zero_cons,List.modify_succ_cons,aJ,List.getElem?_cons_succ,List.getElem?_cons_zero,nL,this,Bool.not_false]
   rw [h1];dsimp only;have hp:0<b:=by omega
   have h2:IN.run G cl [(.par 0 1 (.var 1) (.bin .mod (.var 0) (.var 1)) [0,1])] [.val (.int a),.val (.int b)]=some (.nx [.val (.int b),.val (.int (a%b))]):=by
    refine st (ρ':=[.val (.int b),.val (.int (a%b))]) ?_ bc;simp only [af.eq_4,ev.eq_1,ev.eq_4,aa,aH,List.modify_zero_cons,List.modify_succ_cons,aJ,List.getElem?_cons_succ,List.getElem?_cons_zero,gC,hp,if_true];rfl
   rw [h2];dsimp only;have m1:0<=a%b:=Gj _ (by omega);have m2:a%b<b:=Gk _ hp;rw [ih b (a%b) hb m1 (by omega)];have e:aL b (a%b)=aL a b:=by
    obtain ⟨m,rfl⟩:=Int.eq_ofNat_of_zero_le ha;obtain ⟨l,rfl⟩:=Int.eq_ofNat_of_zero_le hb;show ((Nat.gcd l (m%l):Nat):Int)=(Nat.gcd m l:Nat)
    rw [Nat.gcd_comm l,←Nat.gcd_rec,Nat.gcd_comm]
   rw [e]
theorem wM (hd:G.defs key=some (none,L.gcd)) (ha:0<=a) (hb:0<=b):kal G (n+1) key [.int a,.int b]=some (.ok (.int (aL a b))):=by
 refine ay hd ⟨rfl,rfl⟩ (ρ0:=[.val (.int a),.val (.int b)]) rfl ?_;refine st (ρ':=[.val (.int (aL a b)),.val (.int 0)]) ?_ (aR (by rfl));rw [af.eq_15];refine An _ a b ha hb ?_;show b.toNat<(a.natAbs+(b.natAbs+0))+1000000;omega
end
section
variable {G:Prg} {cl:Str->List D->Option Rs} {ρ ρ':Rho} {s:CS'} {r b:List CS'} {α:Type} {t:Tg} {g:α->D} {it:CE} {L:List Nat}
theorem zm:ak (.int i)=true:=rfl
theorem zl:ak (.bl i)=true:=rfl
theorem zo:ak .non=true:=rfl
theorem zp:ak (.str i)=true:=rfl
theorem ej:ak (grp C ns)=true:=by
 show (ak (tupI ns)&&true)=true;rw [show ak (tupI ns)=true from cJ ns];rfl
theorem DP:bf .lt (.int i) (.int j)=some (decide (i<j)):=rfl
theorem DN:bf .le (.int i) (.int j)=some (decide (i<=j)):=rfl
theorem DL:bf .gt (.int i) (.int j)=some (decide (j<i)):=rfl
theorem DK:bf .ge (.int i) (.int j)=some (decide (j<=i)):=rfl
theorem DJ:bf .eq (.int i) (.int j)=some (decide (i=j)):=rfl
theorem DQ:bf .ne (.int i) (.int j)=some (!decide (i=j)):=rfl
noncomputable def nxt:Option Oc->(Rho->Option Oc)->Option Oc
 |some (.nx ρ),k=>k ρ
 |o,_=>o
theorem Et:IN.run G cl (s::r) ρ=nxt (IN.af G cl s ρ) (IN.run G cl r):=by
 rw [IN.run];cases IN.af G cl s ρ with
 |none=>rfl
 |some o=>cases o<;>rfl
theorem B6:nxt (some (.nx ρ)) k=k ρ:=rfl
theorem B7:nxt (some (.rt d)) k=some (.rt d):=rfl
theorem B5:nxt (some (.fr c)) k=some (.fr c):=rfl
theorem B8:nxt (some (.xc ρ d)) k=some (.xc ρ d):=rfl
theorem nR:∀(l done:List (List Int×List Int)),(done++l).Nodup->(done++l).length<=1000->(∀p∈l,f (prD p)=some (pkP p,tupI (u p)))->iA f (l.map prD) (ae u done)=some (ae u (done++l))
 |[],done,_,_,_=>by rw [List.append_nil];rfl
 |p::l,done,hn,hl,h=>by
  have hp:p∉done:=fun z=>(List.nodup_append.mp hn).2.2 _ z _ Fa rfl;rw [List.map_cons,iA,h p Fa];dsimp only;have hz:(ae u done).length<sizeLine:=by
   unfold ae;rw [F6];rw [F5] at hl;exact Ga (show done.length<=1000 by omega) (by decide)
  rw [if_pos hz,eS,hX hp,nR l (done++[p]) (by rw [F8];exact hn) (by rw [F8];exact hl) fun q hq=>h q (EQ _ hq),F8];rfl
theorem sO (hi:evI G cl it ρ=some (l.map prD)) (hw:((tks t).all fun k=>k<w)=true) (hnd:l.Nodup) (hz:l.length<=1000)
  (hb:∀p∈l,∃ρ1,aq t (prD p) (dA w cap ρ)=some ρ1∧ev G cl kx ρ1=some (prD p)∧ev G cl vx ρ1=some (tupI (u p))) (pk:∀p:List Int×List Int,bU (prD p)=some (pkP p)) (dp:∀p:List Int×List Int,(pkP p).dp<=8):ev G cl (.bV w cap t it kx vx) ρ=some (.pdc (ae u l)):=by
 rw [ev,hi];dsimp only;rw [if_pos hw];have e0:ae u []=[]:=rfl;rw [←e0];rw [nR (u:=u) l [] hnd hz fun p hp=>?_]
 ·rfl
 ·obtain ⟨ρ1,h1,h2,h3⟩:=hb p hp;rw [h1];dsimp only;rw [h2,h3];unfold ll;have e:bU (prD p)=some (.t [pkT p.1,pkT p.2]):=pk p;have e2:(PK.t [pkT p.1,pkT p.2]).dp<=8:=dp p;simp only [e,e2,if_true];rfl
end
local macro_rules|`(tactic|dsimp? [$ls,*])=>do
 let m<-("Et bc B6 B7 B5 B8 af.eq_1 af.eq_2 af.eq_3 af.eq_4 af.eq_5 af.eq_6 af.eq_7 af.eq_8 af.eq_9 af.eq_10 af.eq_11 af.eq_12 af.eq_13 af.eq_16 af.eq_18 af.eq_19 evV ev.eq_1 ev.eq_2 ev.eq_3 ev.eq_4 ev.eq_5 ev.eq_6 ev.eq_7 ev.eq_8 ev.eq_9 ev.eq_10 ev.eq_11 ev.eq_12 ev.eq_13 ev.eq_14 ev.eq_15 ev.eq_16 ev.eq_17 ev.eq_18 ev.eq_19 ev.eq_20 ev.eq_21 ev.eq_23 evA evT evI evB aJ aa aH List.modify_zero_cons List.modify_succ_cons List.modify_nil kp zm zl zo zp bY ej aq aY jL List.set_cons_zero List.set_cons_succ List.set_nil List.getElem?_cons_zero List.getElem?_cons_succ List.length_cons List.length_nil Nat.reduceAdd Nat.reduceLT Nat.reduceSub Nat.reduceLeDiff Nat.zero_add Nat.zero_lt_succ if_true if_false Bool.not_true Bool.not_false Bool.true_and Bool.false_and Bool.and_true Bool.and_false Bool.true_or Bool.false_or Bool.or_true Bool.or_false and_self true_and and_true Bool.false_eq_true gC DP DN DL DK DJ DQ hV m_ lr qR qQ xx xB b8 fnR Rs.val Ow.D dA cq List.replicate List.cons_append List.nil_append List.map_cons List.map_nil slD asI xn xj xq xt qP xo xr xl xu tE tx Option.map_some decide_true decide_false List.all_cons List.all_nil tks fG oS List.append_nil reduceCtorEq ite_self".splitOn " ").toArray.mapM fun s=>`(Lean.Parser.Tactic.simpLemma|$(Lean.mkIdent s.toName):ident)
 let a:=(ls.getElems.map fun x=>(.mk x.raw:Lean.TSyntax `Lean.Parser.Tactic.simpLemma))++m
 `(tactic|simp only [$a,*])
section
variable {G:Prg} {C:Addr} {n:Nat}
theorem i5 (h:2<=a):0<aL a b:=by
 unfold aL;have:0<Int.gcd a b:=Int.gcd_pos_of_ne_zero_left b (by omega);omega
end
section
variable {G:Prg} {C:Addr} {n:Nat}
theorem rO (h1:ba x=some xs) (h2:ba y=some ys) (h3:ba z=some zs):cN .zip [x,y,z]=some (bq xs ys zs):=by
 show (match ba x,ba y,ba z with|some xs,some ys,some zs=>some (bq xs ys zs)|_,_,_=>none)=_;rw [h1,h2,h3]
theorem AL (hd:G.defs key=some (none,L.sum)) (g:Good ns):kal G (n+1) key [tupI ns,tupI x,tupI y]=some (.ok (tupI (aB ns x y))):=by
 refine ay hd ⟨rfl,rfl⟩ (ρ0:=[.val (tupI ns),.val (tupI x),.val (tupI y)]) rfl (aR ?_);have hz:cN .zip [tupI x,tupI y,tupI ns]=some ((x.zip (y.zip ns)).map fun p=>D.tup [.int p.1,.int p.2.1,.int p.2.2]):=by rw [←iW];exact rO rfl rfl rfl
 have key:ev G (kal G n) (.comp 3 [] (.tp [(.nm 0),(.nm 1),(.nm 2)]) (.blt .zip [(.var 1),(.var 2),(.var 0)]) (.lit (.bl true)) (.emit (.bin .mod (.bin .add (.var 0) (.var 1)) (.var 2)))) [.val (tupI ns),.val (tupI x),.val (tupI y)]=some (.lst ((x.zip (y.zip ns)).map fun p=>D.int ((p.1+p.2.1)%p.2.2))):=by
  refine cj (g:=fun p:Int×Int×Int=>D.tup [.int p.1,.int p.2.1,.int p.2.2]) (by simp only [evI,evA,ev.eq_1,aJ,List.getElem?_cons_zero,List.getElem?_cons_succ,hz]) rfl ?_ fun p hp=>⟨[.val (.int p.1),.val (.int p.2.1),.val (.int p.2.2)],rfl,?_⟩
  ·have:=g.cW;rw [List.length_zip,List.length_zip];exact Gb (show min x.length (min y.length ns.length)<=1000 by omega) (by decide)
  ·have hp2:0<p.2.2:=by have:=g.ge _ (oz hp);omega
   simp only [ev.eq_4,ev.eq_1,aJ,List.getElem?_cons_zero,List.getElem?_cons_succ,gC,hp2,if_true]
 simp only [af.eq_11,evV,ev.eq_19,evA,aa,aH,List.modify_zero_cons,List.modify_succ_cons,key,b8,hV];unfold aB tupI;rw [List.map_map];rfl
theorem uU (hd:G.defs key=some (none,L.iT)) (g:Good ns) (hx:El ns x):kal G (n+1) key [tupI ns,.int m,tupI x]=some (.ok (tupI (aK ns m x))):=by
 refine ay hd ⟨rfl,rfl⟩ (ρ0:=[.val (tupI ns),.val (.int m),.val (tupI x)]) rfl (aR ?_);have hz:cN .zip [tupI x,tupI ns]=some ((x.zip ns).map fun p=>D.tup [.int p.1,.int p.2]):=by rw [←j3];exact j8 rfl rfl
 have key:ev G (kal G n) (.comp 2 [1] (.tp [(.nm 0),(.nm 1)]) (.blt .zip [(.var 2),(.var 0)]) (.lit (.bl true)) (.emit (.bin .mod (.bin .mul (.var 2) (.var 0)) (.var 1)))) [.val (tupI ns),.val (.int m),.val (tupI x)]=some (.lst ((x.zip ns).map fun p=>D.int (m*p.1%p.2))):=by
  refine cj (g:=fun p:Int×Int=>D.tup [.int p.1,.int p.2]) (by simp only [evI,evA,ev.eq_1,aJ,List.getElem?_cons_zero,List.getElem?_cons_succ,hz]) rfl ?_ fun p hp=>⟨[.val (.int p.1),.val (.int p.2),.val (.int m)],rfl,?_⟩
  ·have:=g.cW;rw [List.length_zip];exact Gb (show min x.length ns.length<=1000 by omega) (by decide)
  ·have hp2:0<p.2:=by have:=g.ge _ (List.of_mem_zip hp).2;omega
   have hm:bO m p.1=true:=eQ (by have:=El.small g hx _ (List.of_mem_zip hp).1;omega);simp only [ev.eq_4,ev.eq_1,aJ,List.getElem?_cons_zero,List.getElem?_cons_succ,gC,hp2,hm,if_true]
 simp only [af.eq_11,evV,ev.eq_19,evA,aa,aH,List.modify_zero_cons,List.modify_succ_cons,key,b8,hV];unfold aK tupI;rw [List.map_map];rfl
end
section
variable {G:Prg} {C:Addr} {n:Nat}
theorem fL (a b m:Int):a*(b%m)%m=a*b%m:=by rw [Int.mul_emod,Int.emod_emod,←Int.mul_emod]
theorem AR:∀{ns w s:List Int} {l:Int},El ns w->El ns s->l%2=1->aB ns (aB ns w s) (aK ns (l / 2) (aB ns s s))=aB ns w (aK ns l s)
 |[],w,s,l,h1,h2,_=>by
  have e:w=[]:=F2.mp h1.len;have e2:s=[]:=F2.mp h2.len;subst e e2;rfl
 |m::ns,w,s,l,h1,h2,hl=>by
  obtain ⟨a,w',rfl,_,_,hw⟩:=h1.inv;obtain ⟨b,s',rfl,_,_,hs⟩:=h2.inv;rw [aM,aM,aQ,aQ,aM,aM,AR hw hs hl]
  congr 1
  rw [fL,Int.emod_add_emod,Int.add_emod_emod,Int.add_emod_emod]
  congr 1
  have:l=2*(l / 2)+1:=by omega
  generalize l / 2=q at this;subst this;simp only [Int.mul_add,Int.add_mul,Int.mul_assoc,Int.one_mul];omega
theorem AQ:∀{ns w s:List Int} {l:Int},El ns w->El ns s->l%2=0->aB ns w (aK ns (l / 2) (aB ns s s))=aB ns w (aK ns l s)
 |[],w,s,l,h1,h2,_=>by
  have e:w=[]:=F2.mp h1.len;have e2:s=[]:=F2.mp h2.len;subst e e2;rfl
 |m::ns,w,s,l,h1,h2,hl=>by
  obtain ⟨a,w',rfl,_,_,hw⟩:=h1.inv;obtain ⟨b,s',rfl,_,_,hs⟩:=h2.inv;rw [aM,aQ,aQ,aM,aM,AQ hw hs hl]
  congr 1
  rw [fL,Int.add_emod_emod,Int.add_emod_emod]
  congr 1
  have:l=2*(l / 2):=by omega
  generalize l / 2=q at this;subst this;simp only [Int.mul_add,Int.mul_assoc];omega
theorem mT:∀{ns x:List Int},El ns x->aB ns x (List.replicate ns.length 0)=x
 |[],x,h1=>by
  have e:x=[]:=F2.mp h1.len;subst e;rfl
 |m::ns,x,h1=>by
  obtain ⟨a,x',rfl,h2,h3,hx⟩:=h1.inv;show (a+0)%m::aB ns x' (List.replicate ns.length 0)=_;rw [mT hx,Int.add_zero,Int.emod_eq_of_lt h2 h3]
theorem ng:∀{ns x:List Int},El ns x->aB ns (List.replicate ns.length 0) x=x
 |[],x,h1=>by
  have e:x=[]:=F2.mp h1.len;subst e;rfl
 |m::ns,x,h1=>by
  obtain ⟨a,x',rfl,h2,h3,hx⟩:=h1.inv;show (0+a)%m::aB ns (List.replicate ns.length 0) x'=_;rw [ng hx,Int.zero_add,Int.emod_eq_of_lt h2 h3]
structure GM (G:Prg) (C:Addr):Prop where
 A:GA G C
 has:G.defs "Rounds.has"=some (none,P.dz)
 vW:G.mth C "has"=some ("Rounds.has":Str)
 need:G.defs "Group.need"=some (none,P.eI)
 Ec:G.mth C "need"=some ("Group.need":Str)
 nou:G.defs "Rounds.nought"=some (none,P.cU)
 Fy:G.mth C "nought"=some ("Rounds.nought":Str)
 sum:G.defs "Rounds.sum_of"=some (none,P.eA)
 FA:G.mth C "sum_of"=some ("Rounds.sum_of":Str)
 tim:G.defs "Group.times"=some (none,P.fR)
 FC:G.mth C "times"=some ("Group.times":Str)
 tot:G.defs "Group.total"=some (none,P.fS)
 FD:G.mth C "total"=some ("Group.total":Str)
 lik:G.defs "Rounds.like"=some (none,P.d4)
 Fw:G.mth C "like"=some ("Rounds.like":Str)
 hds:G.defs "Rounds.heads"=some (none,P.eV)
 F1:G.mth C "heads"=some ("Rounds.heads":Str)
 gR:G.glob "Rounds"=some (.cl C)
 kR:G.kit (.cl C) (.cl C)=some true
theorem gW (hl:(rf ns).lookup m=none) (hm:G.mth C m=some k) (h:cl k (grp C ns::ds)=r):aV G cl (grp C ns) m ds=r:=by
 unfold grp at h ⊢;simp only [aV,hl,hm,h]
theorem fK (A:GA G C):bx G (grp C ns) "rounds"=some (tupI ns):=by
 have h:=A.fok;unfold grp;simp only [bx,h,if_true,vP]
theorem uR (M:GM G C) (g:Good ns):kal G (n+1) "Rounds.nought" [grp C ns]=some (.ok (tupI (List.replicate ns.length 0))):=by
 refine ay M.nou ⟨rfl,rfl⟩ (ρ0:=[.val (grp C ns)]) rfl ?_;have hf:=fK (ns:=ns) M.A;have hl:(ns.map D.int).length=ns.length:=by simp
 have hs:ba (tupI ns)=some (ns.map .int):=rfl;have h1:(0:Int)<=(ns.length:Int)∧(ns.length:Int).toNat<2^20:=by have:=g.cW;omega
 have h2:(ns.length:Int).toNat=ns.length:=by omega
 have h3:1<=sizeLine:=by decide
 dsimp? [P.cU,hf,hs,hl,h1,h3];unfold tupI;simp [h2]
theorem jP (M:GM G C) (g:Good ns):aV G (kal G (n+1)) (grp C ns) "nought" []=some (.ok (tupI (List.replicate ns.length 0))):=gW rfl M.Fy (uR M g)
theorem AJ (M:GM G C) (g:Good ns):kal G (n+1) "Rounds.sum_of" [grp C ns,tupI x,tupI y]=some (.ok (tupI (aB ns x y))):=by
 refine ay M.sum ⟨rfl,rfl⟩ (ρ0:=[.val (grp C ns),.val (tupI x),.val (tupI y)]) rfl (aR ?_);have hf:=fK (ns:=ns) M.A;have hz:cN .zip [tupI x,tupI y,tupI ns]=some ((x.zip (y.zip ns)).map fun p=>D.tup [.int p.1,.int p.2.1,.int p.2.2]):=by rw [←iW];exact rO rfl rfl rfl
 have key:ev G (kal G n) (.comp 3 [] (.tp [(.nm 0),(.nm 1),(.nm 2)]) (.blt .zip [(.var 1),(.var 2),(.fld (.var 0) "rounds")]) (.lit (.bl true)) (.emit (.bin .mod (.bin .add (.var 0) (.var 1)) (.var 2)))) [.val (grp C ns),.val (tupI x),.val (tupI y)]=some (.lst ((x.zip (y.zip ns)).map fun p=>D.int ((p.1+p.2.1)%p.2.2))):=by
  refine cj (g:=fun p:Int×Int×Int=>D.tup [.int p.1,.int p.2.1,.int p.2.2]) (by simp only [evI,evA,ev.eq_1,ev.eq_18,aJ,List.getElem?_cons_zero,List.getElem?_cons_succ,hf,hz]) rfl ?_ fun p hp=>⟨[.val (.int p.1),.val (.int p.2.1),.val (.int p.2.2)],rfl,?_⟩
  ·have:=g.cW;rw [List.length_zip,List.length_zip];exact Gb (show min x.length (min y.length ns.length)<=1000 by omega) (by decide)
  ·have hp2:0<p.2.2:=by have:=g.ge _ (oz hp);omega
   simp only [ev.eq_4,ev.eq_1,aJ,List.getElem?_cons_zero,List.getElem?_cons_succ,gC,hp2,if_true]
 simp only [af.eq_11,evV,ev.eq_19,evA,aa,aH,List.modify_zero_cons,List.modify_succ_cons,key,b8,hV];unfold aB tupI;rw [List.map_map];rfl
theorem qZ (M:GM G C) (g:Good ns):aV G (kal G (n+1)) (grp C ns) "sum_of" [tupI x,tupI y]=some (.ok (tupI (aB ns x y))):=gW rfl M.FA (AJ M g)
theorem xG (M:GM G C) (g:Good ns) (hx:El ns x):aV G (kal G (n+2)) (grp C ns) "has" [tupI x]=some (.ok (.bl true)):=gW rfl M.vW (by rw [wN M.A M.has g hx.len,hx.has])
theorem iJ (M:GM G C) (g:Good ns) (hx:El ns x):aV G (kal G (n+3)) (grp C ns) "need" [tupI x]=some (.ok .non):=by
 refine gW rfl M.Ec (iG M.need ⟨rfl,rfl⟩ (ρ0:=[.val (grp C ns),.val (tupI x)]) rfl (ρ:=[.val (grp C ns),.val (tupI x)]) ?_);have hm:=xG (n:=n) M g hx;unfold P.eI;dsimp? [hm]
theorem uE (M:GM G C) (g:Good ns):∀(f:Nat) (s w:List Int) (l:Int),El ns s->El ns w->0<=l->l.toNat<f->
  ∃s',ie (fun ρ=>evT G (kal G (n+1)) (.cmp .gt (.var 4) (.lit (.int 0))) (aa [4] ρ)) (IN.run G (kal G (n+1)) [(.ife (.cmp .eq (.bin .mod (.var 4) (.lit (.int 2))) (.lit (.int 1))) [4] [(.asg (.nm 5) (.mth (.var 0) "sum_of" [(.var 5),(.var 3)]) [0,5,3])] []),(.asg (.nm 3) (.mth (.var 0) "sum_of" [(.var 3),(.var 3)]) [0,3]),(.asg (.nm 4) (.bin .fdiv (.var 4) (.lit (.int 2))) [4])]) f
   [.val (grp C ns),.val d1,.val d2,.val (tupI s),.val (.int l),.val (tupI w)]=some (.nx [.val (grp C ns),.val d1,.val d2,.val s',.val (.int 0),.val (tupI (aB ns w (aK ns l s)))]):=by
 intro f
 induction f with
 |zero=>intro s w l _ _ _ h;omega
 |succ f ih=>
  intro s w l hs hw hl h;rw [ie]
  by_cases hz:l=0
  ·subst hz;rw [iM hs,mT hw];exact ⟨tupI s,rfl⟩
  ·have hp:0<l:=by omega
   have h1:evT G (kal G (n+1)) (.cmp .gt (.var 4) (.lit (.int 0))) (aa [4] [.val (grp C ns),.val d1,.val d2,.val (tupI s),.val (.int l),.val (tupI w)])=some true:=by
    have:decide (0<l)=true:=Ge hp;dsimp? [this]
   rw [h1];dsimp only;have e1:=qZ (n:=n) (x:=w) (y:=s) M g;have e2:=qZ (n:=n) (x:=s) (y:=s) M g;have t2:(0:Int)<2:=by decide
   have t3:(0:Int)<2∧Int.toNat 2<1073741824:=by decide
   rcases (by omega:l%2=1∨l%2=0) with hc|hc
   ·have h2:IN.run G (kal G (n+1)) [(.ife (.cmp .eq (.bin .mod (.var 4) (.lit (.int 2))) (.lit (.int 1))) [4] [(.asg (.nm 5) (.mth (.var 0) "sum_of" [(.var 5),(.var 3)]) [0,5,3])] []),(.asg (.nm 3) (.mth (.var 0) "sum_of" [(.var 3),(.var 3)]) [0,3]),(.asg (.nm 4) (.bin .fdiv (.var 4) (.lit (.int 2))) [4])] [.val (grp C ns),.val d1,.val d2,.val (tupI s),.val (.int l),.val (tupI w)]=some (.nx [.val (grp C ns),.val d1,.val d2,.val (tupI (aB ns s s)),.val (.int (l / 2)),.val (tupI (aB ns w s))]):=by
     dsimp? [hc,e1,e2,t2,t3]
    rw [h2];dsimp only;obtain ⟨s',e⟩:=ih (aB ns s s) (aB ns w s) (l / 2) (hs.add g.g2 hs) (hw.add g.g2 hs) (by omega) (by omega);exact ⟨s',by rw [e,AR hw hs hc]⟩
   ·have hc':decide (l%2=1)=false:=Gf (by omega);have h2:IN.run G (kal G (n+1)) [(.ife (.cmp .eq (.bin .mod (.var 4) (.lit (.int 2))) (.lit (.int 1))) [4] [(.asg (.nm 5) (.mth (.var 0) "sum_of" [(.var 5),(.var 3)]) [0,5,3])] []),(.asg (.nm 3) (.mth (.var 0) "sum_of" [(.var 3),(.var 3)]) [0,3]),(.asg (.nm 4) (.bin .fdiv (.var 4) (.lit (.int 2))) [4])] [.val (grp C ns),.val d1,.val d2,.val (tupI s),.val (.int l),.val (tupI w)]=some (.nx [.val (grp C ns),.val d1,.val d2,.val (tupI (aB ns s s)),.val (.int (l / 2)),.val (tupI w)]):=by
     dsimp? [hc',e1,e2,t2,t3]
    rw [h2];dsimp only;obtain ⟨s',e⟩:=ih (aB ns s s) w (l / 2) (hs.add g.g2 hs) hw (by omega) (by omega);exact ⟨s',by rw [e,AQ hw hs hc]⟩
theorem uT (M:GM G C) (g:Good ns) (hx:El ns x) (hm:0<=m):kal G (n+4) "Group.times" [grp C ns,.int m,tupI x]=some (.ok (tupI (aK ns m x))):=by
 refine ay M.tim ⟨rfl,rfl⟩ (ρ0:=[.val (grp C ns),.val (.int m),.val (tupI x),.nil,.nil,.nil]) rfl ?_;have h1:=iJ (n:=n) M g hx;have h2:=jP (n:=n+2) M g;have h3:decide (m<0)=false:=Gf (by omega);have h4:(if m<0 then -m else m)=m:=if_neg (by omega);obtain ⟨s',h5⟩:=uE (n:=n+2) (d1:=.int m) (d2:=tupI x) M g (turns [.val (grp C ns),.val (.int m),.val (tupI x),.val (tupI x),.val (.int m),.val (tupI (List.replicate ns.length 0))]) x (List.replicate ns.length 0) m hx (El.zero g.g2) hm (by unfold turns;simp only [List.map_cons,List.sum_cons,oV];omega);rw [ng (hx.mul g.g2)] at h5;refine st (ρ':=[.val (grp C ns),.val (.int m),.val (tupI x),.nil,.nil,.nil]) (by dsimp? [h1]) ?_;refine st (ρ':=[.val (grp C ns),.val (.int m),.val (tupI x),.val (tupI x),.nil,.nil]) (by dsimp? [h3]) ?_;refine st (ρ':=[.val (grp C ns),.val (.int m),.val (tupI x),.val (tupI x),.val (.int m),.nil]) (by dsimp? [h4]) ?_;refine st (ρ':=[.val (grp C ns),.val (.int m),.val (tupI x),.val (tupI x),.val (.int m),.val (tupI (List.replicate ns.length 0))]) (by dsimp? [h2]) ?_;refine st (by rw [af.eq_15];exact h5) (aR ?_);dsimp? [h1]
theorem pW (M:GM G C) (g:Good ns) (hx:El ns x) (hm:0<=m):aV G (kal G (n+4)) (grp C ns) "times" [.int m,tupI x]=some (.ok (tupI (aK ns m x))):=gW rfl M.FC (uT M g hx hm)
end
section
variable {G:Prg} {C CM:Addr} {n:Nat}
noncomputable def c_ (ns:List Int) (l:List (List Int)):List Int:=l.foldl (aB ns) (List.replicate ns.length 0)
theorem mD:c_ ns (l++[x])=aB ns (c_ ns l) x:=by unfold c_;rw [List.foldl_append];rfl
theorem yc (M:GM G C) (g:Good ns) (hl:∀x∈l,El ns x):kal G (n+4) "Group.total" [grp C ns,.lst (l.map tupI)]=some (.ok (tupI (c_ ns l))):=by
 refine ay M.tot ⟨rfl,rfl⟩ (ρ0:=[.val (grp C ns),.val (.lst (l.map tupI)),.nil,.nil]) rfl ?_;have h2:=jP (n:=n+2) M g;refine st (ρ':=[.val (grp C ns),.val (.lst (l.map tupI)),.val (tupI (List.replicate ns.length 0)),.nil]) (by dsimp? [h2]) ?_;refine st (ρ':=[.val (grp C ns),.val (.lst (l.map tupI)),.val (tupI (List.replicate ns.length 0)),.any]) (by rfl) ?_;refine st (cK (g:=tupI) (fun done=>[.val (grp C ns),.val (.lst (l.map tupI)),.val (tupI (c_ ns done)),.any]) l (by rfl) rfl fun done a rest e=>?_) (aR ?_)
 ·have h3:=iJ (n:=n) M g (hl a (by rw [e];simp));have h4:=qZ (n:=n+2) (x:=c_ ns done) (y:=a) M g;refine ⟨[.val (grp C ns),.val (.lst (l.map tupI)),.val (tupI (c_ ns done)),.val (tupI a)],rfl,?_⟩;dsimp? [h3,h4,mD]
 ·dsimp? [h2]
theorem zg (M:GM G C) (g:Good ns) (hl:∀x∈l,El ns x):aV G (kal G (n+4)) (grp C ns) "total" [.lst (l.map tupI)]=some (.ok (tupI (c_ ns l))):=gW rfl M.FD (yc M g hl)
theorem kB (M:GM G C):aV G (kal G (n+1)) (grp C a) "like" [grp C b]=some (.ok (.bl (decide (a=b)))):=by
 refine gW rfl M.Fw (ay M.lik ⟨rfl,rfl⟩ (ρ0:=[.val (grp C a),.val (grp C b)]) rfl ?_);have h1:=M.gR;have h2:bR G (grp C b) (.cl C)=some true:=M.kR;have h3:=fK (ns:=a) M.A;have h4:=fK (ns:=b) M.A;have h5:=lb a b;dsimp? [P.d4,h1,h2,h3,h4,h5]
structure GP (G:Prg) (C CM:Addr):Prop extends GM G C where
 isi:G.defs "is_image"=some (none,P.gU)
 E2:G.fn "is_image"=some ("is_image":Str)
 ni:G.defs "need_images"=some (none,P.fU)
 fni:G.fn "need_images"=some ("need_images":Str)
 mi:G.defs "Map.__init__"=some (some CM,P.eU)
 fmi:G.fn "Map"=none∧G.ini "Map"=some (CM,("Map.__init__":Str))
 Bw:G.fok CM "source"=true
 Br:G.fok CM "goal"=true
 qJ:G.fok CM "images"=true
 led:G.defs "Map.led"=some (none,P.iX)
 Fv:G.mth CM "led"=some ("Map.led":Str)
theorem rT (M:GP G C CM) (g:Good ns) (hx:El ns x) (hm:0<=m):kal G (n+5) "is_image" [grp C ns,.int m,tupI x]=some (.ok (.bl (decide (aK ns m x=List.replicate ns.length 0)))):=by
 refine ay M.isi ⟨rfl,rfl⟩ (ρ0:=[.val (grp C ns),.val (.int m),.val (tupI x)]) rfl ?_;have h1:=xG (n:=n+2) M.toGM g hx;have h2:=pW (n:=n) M.toGM g hx hm;have h3:=jP (n:=n+3) M.toGM g;have h4:=lb (aK ns m x) (List.replicate ns.length 0);dsimp? [P.gU,h1,h2,h3,h4]
structure Im (s g:List Int) (is:List (List Int)):Prop where
 len:is.length=s.length
 el:∀x∈is,El g x
 ann:∀p∈s.zip is,aK g p.1 p.2=List.replicate g.length 0
theorem md (s:List Int):a9 0 (s.map .int)=(s.zipIdx).map fun p=>D.tup [.int (p.2:Int),.int p.1]:=by
 have:∀(s:List Int) (k:Nat),a9 k (s.map .int)=(s.zipIdx k).map fun p=>D.tup [.int (p.2:Int),.int p.1]:=by
  intro s
  induction s with
  |nil=>intro k;rfl
  |cons a s ih=>intro k;rw [List.zipIdx_cons,List.map_cons,List.map_cons,a9,ih]
 exact this s 0
theorem nB (M:GP G C CM) (gs:Good s) (gg:Good g) (im:Im s g is):kal G (n+6) "need_images" [grp C s,grp C g,.lst (is.map tupI)]=some (.ok .non):=by
 refine iG M.ni ⟨rfl,rfl⟩ (ρ0:=[.val (grp C s),.val (grp C g),.val (.lst (is.map tupI)),.nil,.nil]) rfl (ρ:=[.val (grp C s),.val (grp C g),.val (.lst (is.map tupI)),.any,.any]) ?_;have hf:=fK (ns:=s) M.A;have ln:(is.map tupI).length=is.length:=by simp
 have ln2:(s.map D.int).length=s.length:=by simp
 have sq:ba (tupI s)=some (s.map .int):=rfl;have hb:cN .enum [tupI s]=some (s.zipIdx.map fun p=>D.tup [.int (p.2:Int),.int p.1]):=by rw [←md];rfl
 refine st (ρ':=[.val (grp C s),.val (grp C g),.val (.lst (is.map tupI)),.any,.any]) (by rfl) ?_;refine st (cK (g:=fun p:Int×Nat=>D.tup [.int (p.2:Int),.int p.1]) (fun _=>[.val (grp C s),.val (grp C g),.val (.lst (is.map tupI)),.any,.any]) s.zipIdx (by simp only [evI,evA,ev.eq_1,ev.eq_18,aJ,aa,aH,List.modify_zero_cons,List.getElem?_cons_zero,hf,hb]) rfl fun done p rest e=>?_) ?_
 ·have hp:p∈s.zipIdx:=by rw [e];simp
  obtain ⟨m,i⟩:=p;have hi:s[i]?=some m:=List.mk_mem_zipIdx_iff_getElem?.mp hp;obtain ⟨hi1,hi2⟩:=FS.mp hi;have hi3:i<is.length:=by rw [im.len];exact hi1
  have hx:is[i]∈is:=List.getElem_mem hi3;have hz:(m,is[i])∈s.zip is:=by
   refine List.mem_iff_getElem?.mpr ⟨i,?_⟩;rw [List.getElem?_zip_eq_some];exact ⟨hi,List.getElem?_eq_getElem hi3⟩
  have hm:2<=m:=gs.ge m (hi2▸List.getElem_mem hi1);have e1:=rT (n:=n) M gg (im.el _ hx) (m:=m) (by omega);rw [im.ann _ hz,Ge rfl] at e1;have e2:=M.E2;have e3:decide ((is.length:Int)<=(i:Int))=false:=Gf (by omega);have e4:atI (is.map tupI) (i:Int)=some (tupI is[i]):=by
   unfold atI ixN;simp [hi3]
  refine ⟨[.val (grp C s),.val (grp C g),.val (.lst (is.map tupI)),.val (.int (i:Int)),.val (.int m)],rfl,?_⟩;dsimp? [e1,e2,e3,e4,ln]
 ·have e3:decide ((s.length:Int)<(is.length:Int))=false:=Gf (by have:=im.len;omega);dsimp? [hf,ln,ln2,sq,e3]
noncomputable abbrev mf (C:Addr) (s g:List Int) (is:List (List Int)):List (Str×D):=[(("source":Str),grp C s),(("goal":Str),grp C g),(("images":Str),.tup (is.map tupI))]
noncomputable def ar (CM C:Addr) (s g:List Int) (is:List (List Int)):D:=.ins CM (mf C s g is)
theorem fB:∀is:List (List Int),aW (is.map tupI)=true
 |[]=>rfl
 |x::is=>by show (ak (tupI x)&&aW (is.map tupI))=true;rw [fB is,bY];rfl
theorem k8 (M:GP G C CM) (gs:Good s) (gg:Good g) (im:Im s g is):kal G (n+7) "Map.__init__" [grp C s,grp C g,.lst (is.map tupI)]=some (.ok (ar CM C s g is)):=by
 refine lu M.mi ⟨rfl,rfl⟩ (ρ0:=[.val (grp C s),.val (grp C g),.val (.lst (is.map tupI))]) rfl (fs:=mf C s g is) (a:=0) (b:=0) (ρ:=[.val (grp C s),.val (grp C g),.val (.lst (is.map tupI))]) ?_;have h1:=nB (n:=n) M gs gg im;have h2:=M.fni;have h3:=M.Bw;have h4:=M.Br;have h5:=M.qJ;have k0:(0:Nat)<1000:=by decide
 have k1:(1:Nat)<1000:=by decide
 have k2:(2:Nat)<1000:=by decide
 have h6:ak (.tup (is.map tupI))=true:=fB is;refine st (ρ':=[.new CM 0 0 [],.val (grp C s),.val (grp C g),.val (.lst (is.map tupI))]) (by dsimp? [h1,h2]) ?_;refine st (ρ':=[.new CM 0 0 [(("source":Str),grp C s)],.val (grp C s),.val (grp C g),.val (.lst (is.map tupI))]) (by dsimp? [h3,k0,putD]) ?_;refine st (ρ':=[.new CM 0 0 [(("source":Str),grp C s),(("goal":Str),grp C g)],.val (grp C s),.val (grp C g),.val (.lst (is.map tupI))]) (by dsimp? [h4,k1];rfl) ?_;exact st (by dsimp? [h5,k2,h6];rfl) bc
theorem DD (M:GP G C CM) (gs:Good s) (gg:Good g) (im:Im s g is):fnR G (kal G (n+7)) "Map" [grp C s,grp C g,.lst (is.map tupI)]=some (.ok (ar CM C s g is)):=by
 have h1:=M.fmi.1;have h2:=M.fmi.2;have h3:=k8 (n:=n) M gs gg im;simp only [fnR,h1,h2,h3]
theorem fh (M:GP G C CM):bx G (ar CM C s g is) "source"=some (grp C s):=by
 have h:=M.Bw;have k:(mf C s g is).lookup ("source":Str)=some (grp C s):=rfl;unfold ar;simp only [bx,h,if_true,k]
theorem eP (M:GP G C CM):bx G (ar CM C s g is) "goal"=some (grp C g):=by
 have h:=M.Br;have k:(mf C s g is).lookup ("goal":Str)=some (grp C g):=rfl;unfold ar;simp only [bx,h,if_true,k]
theorem sU (M:GP G C CM):bx G (ar CM C s g is) "images"=some (.tup (is.map tupI)):=by
 have h:=M.qJ;have k:(mf C s g is).lookup ("images":Str)=some (.tup (is.map tupI)):=rfl;unfold ar;simp only [bx,h,if_true,k]
noncomputable def aw (g:List Int) (is:List (List Int)) (x:List Int):List Int:=c_ g ((x.zip is).map fun p=>aK g p.1 p.2)
theorem pb:∀(x:List Int) (is:List (List Int)),bE (x.map .int) (is.map tupI)=(x.zip is).map fun p=>D.tup [.int p.1,tupI p.2]
 |[],_=>by simp [bE]
 |_::_,[]=>by simp [bE]
 |a::x,b::is=>by
  have:=pb x is;simp only [List.map_cons,List.zip_cons_cons,bE,this]
theorem wY:∀{ns x:List Int},El ns x->∀k∈x,0<=k
 |[],x,h,k,hk=>by
  have e:x=[]:=F2.mp h.len;subst e;cases hk
 |m::ns,x,h,k,hk=>by
  obtain ⟨a,x',rfl,h2,_,hx⟩:=h.inv;rcases Fr.mp hk with rfl|hk
  ·exact h2
  ·exact wY hx k hk
theorem xH (hl:(mf C s g is).lookup m=none) (hm:G.mth CM m=some k) (h:cl k (ar CM C s g is::ds)=r):aV G cl (ar CM C s g is) m ds=r:=by
 unfold ar at h ⊢;simp only [aV,hl,hm,h]
theorem qY (M:GP G C CM) (gs:Good s) (gg:Good g) (im:Im s g is) (hx:El s x):aV G (kal G (n+6)) (ar CM C s g is) "led" [tupI x]=some (.ok (tupI (aw g is x))):=by
 refine xH rfl M.Fv (ay M.led ⟨rfl,rfl⟩ (ρ0:=[.val (ar CM C s g is),.val (tupI x)]) rfl ?_);have h1:=fh (s:=s) (g:=g) (is:=is) M;have h2:=eP (s:=s) (g:=g) (is:=is) M;have h3:=sU (s:=s) (g:=g) (is:=is) M;have h4:=iJ (n:=n+2) M.toGM gs hx;have hz:cN .zip [tupI x,.tup (is.map tupI)]=some ((x.zip is).map fun p=>D.tup [.int p.1,tupI p.2]):=by rw [←pb];exact j8 rfl rfl
 have key:ev G (kal G (n+5)) (.comp 2 [0] (.tp [(.nm 0),(.nm 1)]) (.blt .zip [(.var 1),(.fld (.var 0) "images")]) (.lit (.bl true)) (.emit (.mth (.fld (.var 2) "goal") "times" [(.var 0),(.var 1)]))) [.val (ar CM C s g is),.val (tupI x)]=some (.lst (((x.zip is).map fun p=>aK g p.1 p.2).map tupI)):=by
  rw [List.map_map];refine cj (g:=fun p:Int×List Int=>D.tup [.int p.1,tupI p.2]) (by simp only [evI,evA,ev.eq_1,ev.eq_18,aJ,List.getElem?_cons_zero,List.getElem?_cons_succ,h3,hz]) rfl ?_ fun p hp=>⟨[.val (.int p.1),.val (tupI p.2),.val (ar CM C s g is)],rfl,?_⟩
  ·have a:=gs.cW;have b:=hx.len;rw [List.length_zip];exact Gb (show min x.length is.length<=1000 by omega) (by decide)
  ·have e1:=pW (n:=n+1) M.toGM gg (im.el _ (List.of_mem_zip hp).2) (m:=p.1) (wY hx _ (List.of_mem_zip hp).1);dsimp? [h2,e1];rfl
 have h5:=zg (n:=n+1) (l:=(x.zip is).map fun p=>aK g p.1 p.2) M.toGM gg (fun y hy=>by
  obtain ⟨p,hp,rfl⟩:=FB.mp hy;exact (im.el _ (List.of_mem_zip hp).2).mul gg.g2)
 dsimp? [P.iX,h1,h2,h4,key,h5];rfl
end
theorem El.nil_eq (h:El [] x):x=[]:=F2.mp h.len
theorem lT:∀{ns x y:List Int},El ns x->El ns y->aB ns x y=aB ns y x
 |[],x,y,h1,h2=>by have:=h1.nil_eq;have:=h2.nil_eq;subst_vars;rfl
 |m::ns,x,y,h1,h2=>by
  obtain ⟨a,x',rfl,_,_,hx⟩:=h1.inv;obtain ⟨b,y',rfl,_,_,hy⟩:=h2.inv;rw [aM,aM,lT hx hy,Int.add_comm]
theorem cF:∀{ns x y z:List Int},El ns x->El ns y->El ns z->aB ns (aB ns x y) z=aB ns x (aB ns y z)
 |[],x,y,z,h1,h2,h3=>by have:=h1.nil_eq;have:=h2.nil_eq;have:=h3.nil_eq;subst_vars;rfl
 |m::ns,x,y,z,h1,h2,h3=>by
  obtain ⟨a,x',rfl,_,_,hx⟩:=h1.inv;obtain ⟨b,y',rfl,_,_,hy⟩:=h2.inv;obtain ⟨c,z',rfl,_,_,hz⟩:=h3.inv;rw [aM,aM,aM,aM,cF hx hy hz,Int.emod_add_emod,Int.add_emod_emod,Int.add_assoc]
theorem Au (g:Ge2 ns) (hx:El ns x) (hy:El ns y) (hz:El ns z) (hw:El ns w):aB ns (aB ns x y) (aB ns z w)=aB ns (aB ns x z) (aB ns y w):=by
 rw [cF hx hy (hz.add g hw),←cF hy hz hw,lT hy hz,cF hz hy hw,←cF hx hz (hy.add g hw)]
theorem oC:∀{ns x y:List Int},El ns x->El ns y->aK ns k (aB ns x y)=aB ns (aK ns k x) (aK ns k y)
 |[],x,y,h1,h2=>by have:=h1.nil_eq;have:=h2.nil_eq;subst_vars;rfl
 |m::ns,x,y,h1,h2=>by
  obtain ⟨a,x',rfl,_,_,hx⟩:=h1.inv;obtain ⟨b,y',rfl,_,_,hy⟩:=h2.inv;rw [aM,aQ,aQ,aQ,aM,oC hx hy,fL,Int.emod_add_emod,Int.add_emod_emod,Int.mul_add]
theorem jR:∀{ns x:List Int},El ns x->aK ns j (aK ns k x)=aK ns (j*k) x
 |[],x,h1=>by have:=h1.nil_eq;subst_vars;rfl
 |m::ns,x,h1=>by
  obtain ⟨a,x',rfl,_,_,hx⟩:=h1.inv;rw [aQ,aQ,aQ,jR hx,fL,Int.mul_assoc]
theorem fM (k:Int):∀(ns:List Int),aK ns k (List.replicate ns.length 0)=List.replicate ns.length 0
 |[]=>rfl
 |m::ns=>by
  show k*0%m::aK ns k (List.replicate ns.length 0)=0::List.replicate ns.length 0;rw [fM k ns,Int.mul_zero,Int.zero_emod]
theorem mx (g:Ge2 ns) (hx:El ns x) (h:aK ns m x=List.replicate ns.length 0):aK ns (a%m) x=aK ns a x:=by
 have e:a=a / m*m+a%m:=by rw [Int.mul_comm];exact (Int.mul_ediv_add_emod a m).symm
 conv=>rhs;rw [e]
 rw [←add_mul hx,←jR hx,h,fM,ng (hx.mul g)]
theorem fold_add (g:Ge2 ns):∀(l:List (List Int)) (w x:List Int),El ns w->El ns x->(∀y∈l,El ns y)->l.foldl (aB ns) (aB ns w x)=aB ns w (l.foldl (aB ns) x)
 |[],w,x,_,_,_=>rfl
 |y::l,w,x,hw,hx,h=>by
  have hy:=h y Fa;rw [List.foldl_cons,List.foldl_cons,cF hw hx hy];exact fold_add g l w (aB ns x y) hw (hx.add g hy) fun z hz=>h z (EQ _ hz)
theorem pP (g:Ge2 ns):∀(l:List (List Int)) (w:List Int),El ns w->(∀y∈l,El ns y)->El ns (l.foldl (aB ns) w)
 |[],w,hw,_=>hw
 |y::l,w,hw,h=>pP g l _ (hw.add g (h y Fa)) fun z hz=>h z (EQ _ hz)
theorem uw (g:Ge2 ns) (hx:El ns x) (h:∀y∈l,El ns y):c_ ns (x::l)=aB ns x (c_ ns l):=by
 unfold c_;rw [List.foldl_cons,ng hx,←fold_add g l x _ hx (El.zero g) h,mT hx]
noncomputable def Els (g:List Int) (is:List (List Int)):Prop:=∀x∈is,El g x
theorem Els.B0 (e:Els g is) (gg:Ge2 g) (x:List Int):∀y∈(x.zip is).map fun p=>aK g p.1 p.2,El g y:=fun y hy=>by
 obtain ⟨p,hp,rfl⟩:=FB.mp hy;exact (e _ (List.of_mem_zip hp).2).mul gg
theorem pV:aw g is []=List.replicate g.length 0:=rfl
theorem om:aw g [] x=List.replicate g.length 0:=by unfold aw;rw [List.zip_nil_right];rfl
theorem c8 (gg:Ge2 g) (hi:El g i) (e:Els g is):aw g (i::is) (a::x)=aB g (aK g a i) (aw g is x):=by
 unfold aw;rw [List.zip_cons_cons,List.map_cons];exact uw gg (hi.mul gg) (e.B0 gg x)
theorem bS (gg:Ge2 g) (e:Els g is) (x:List Int):El g (aw g is x):=pP gg _ _ (El.zero gg) (e.B0 gg x)
theorem Im.nil:Im [] g []:=⟨rfl,(fun x h=>by cases h),(fun p h=>by cases h)⟩
theorem Im.cons (h1:El g i) (h2:aK g a i=List.replicate g.length 0) (h:Im s g is):Im (a::s) g (i::is):=
 ⟨by simp [h.len],fun x hx=>(Fr.mp hx).elim (fun e=>e▸h1) (h.el x),fun p hp=>(Fr.mp (List.zip_cons_cons▸hp)).elim (fun e=>by subst e;exact h2) (h.ann p)⟩
theorem Im.inv (h:Im (a::s) g is):∃i r,is=i::r∧El g i∧aK g a i=List.replicate g.length 0∧Im s g r:=by
 cases is with
 |nil=>cases h.len
 |cons i r=>exact ⟨i,r,rfl,h.el i Fa,h.ann (a,i) (by simp),⟨by simpa using h.len,fun x hx=>h.el x (EQ _ hx),fun p hp=>h.ann p (by rw [List.zip_cons_cons];exact EQ _ hp)⟩⟩
theorem Im.nil_eq (h:Im [] g is):is=[]:=F2.mp h.len
theorem pT (gg:Ge2 g):∀{m x y:List Int} {js:List (List Int)},Im m g js->El m x->El m y->aw g js (aB m x y)=aB g (aw g js x) (aw g js y)
 |[],x,y,js,im,h1,h2=>by
  have:=h1.nil_eq;have:=h2.nil_eq;subst_vars;show List.replicate g.length 0=_;exact (mT (El.zero gg)).symm
 |n::m,x,y,js,im,h1,h2=>by
  obtain ⟨a,x',rfl,_,_,hx⟩:=h1.inv;obtain ⟨b,y',rfl,_,_,hy⟩:=h2.inv;obtain ⟨j,r,rfl,hj,ha,im'⟩:=im.inv;rw [aM,c8 gg hj im'.el,c8 gg hj im'.el,c8 gg hj im'.el,pT gg im' hx hy,mx gg hj ha,←add_mul hj];exact Au gg (hj.mul gg) (hj.mul gg) (bS gg im'.el _) (bS gg im'.el _)
theorem jb (gg:Ge2 g):∀{m x:List Int} {js:List (List Int)},Im m g js->El m x->aw g js (aK m k x)=aK g k (aw g js x)
 |[],x,js,im,h1=>by
  have:=h1.nil_eq;subst_vars;show List.replicate g.length 0=_;exact (fM k g).symm
 |n::m,x,js,im,h1=>by
  obtain ⟨a,x',rfl,_,_,hx⟩:=h1.inv;obtain ⟨j,r,rfl,hj,ha,im'⟩:=im.inv;rw [aQ,c8 gg hj im'.el,c8 gg hj im'.el,jb gg im' hx,mx gg hj ha,←jR hj,oC (hj.mul gg) (bS gg im'.el _)]
theorem jO (gg:Ge2 g) (gm:Ge2 m) (im:Im m g js):aw g js (List.replicate m.length 0)=List.replicate g.length 0:=by
 have:=jb (k:=0) gg im (El.zero gm);rw [fM,iM (bS gg im.el _)] at this;exact this
theorem pU (gg:Ge2 g) (gm:Ge2 m) (im:Im m g js):∀{is:List (List Int)} (x:List Int),Els m is->aw g (is.map (aw g js)) x=aw g js (aw m is x)
 |is,[],_=>by rw [pV,pV,jO gg gm im]
 |[],a::x,_=>by rw [List.map_nil,om,om,jO gg gm im]
 |i::is,a::x,e=>by
  have hi:=e i Fa;have e':Els m is:=fun z hz=>e z (EQ _ hz);have e2:Els g (is.map (aw g js)):=fun z hz=>by
   obtain ⟨w,_,rfl⟩:=FB.mp hz;exact bS gg im.el w
  rw [List.map_cons,c8 gg (bS gg im.el i) e2,c8 gm hi e',pU gg gm im x e',pT gg im (hi.mul gm) (bS gm e' x),jb gg im hi]
theorem Im.comp (gg:Ge2 g) (gm:Ge2 m) (im:Im m g js):∀{s:List Int} {is:List (List Int)},Im s m is->Im s g (is.map (aw g js))
 |[],is,h=>by rw [h.nil_eq];exact Im.nil
 |a::s,is,h=>by
  obtain ⟨i,r,rfl,hi,ha,h'⟩:=h.inv;rw [List.map_cons];refine Im.cons (bS gg im.el i) ?_ (Im.comp gg gm im h');rw [←jb gg im hi,ha,jO gg gm im]
section
variable {G:Prg} {C CM NL:Addr} {n:Nat}
structure GQ (G:Prg) (CM:Addr):Prop where
 beh:G.defs "Map.behind"=some (none,P.gy)
 Fq:G.mth CM "behind"=some ("Map.behind":Str)
 nl:G.defs "need_like"=some (none,P.eh)
 fnl:G.fn "need_like"=some ("need_like":Str)
theorem qA (M:GP G C CM) (B:GQ G CM):kal G (n+2) "need_like" [grp C a,grp C a]=some (.ok .non):=by
 refine iG B.nl ⟨rfl,rfl⟩ (ρ0:=[.val (grp C a),.val (grp C a)]) rfl (ρ:=[.val (grp C a),.val (grp C a)]) ?_;have h:=kB (n:=n) (a:=a) (b:=a) M.toGM;rw [Ge rfl] at h;unfold P.eh;dsimp? [h]
theorem DH (M:GP G C CM) (B:GQ G CM) (hx:G.exc "NotLike"=some (NL,[])) (hab:a≠b):kal G (n+2) "need_like" [grp C a,grp C b]=some (.xc (.exc NL [])):=by
 refine ku B.nl ⟨rfl,rfl⟩ (ρ0:=[.val (grp C a),.val (grp C b)]) rfl (ρ:=[.val (grp C a),.val (grp C b)]) ?_;have h:=kB (n:=n) (a:=a) (b:=b) M.toGM;rw [Gf hab] at h;have k0:(0:Nat)<=1000:=by decide
 unfold P.eh;dsimp? [h,hx,k0]
 try rfl
theorem vT (M:GP G C CM) (B:GQ G CM) (gs:Good s) (gm:Good m) (gg:Good g) (im:Im s m is) (jm:Im m g js):aV G (kal G (n+9)) (ar CM C m g js) "behind" [ar CM C s m is]=some (.ok (ar CM C s g (is.map (aw g js)))):=by
 refine xH rfl B.Fq (ay B.beh ⟨rfl,rfl⟩ (ρ0:=[.val (ar CM C m g js),.val (ar CM C s m is)]) rfl ?_);have h1:=fh (s:=s) (g:=m) (is:=is) M;have h2:=eP (s:=s) (g:=m) (is:=is) M;have h3:=sU (s:=s) (g:=m) (is:=is) M;have h4:=fh (s:=m) (g:=g) (is:=js) M;have h5:=eP (s:=m) (g:=g) (is:=js) M;have h6:=B.fnl;have h7:=qA (n:=n+6) (a:=m) M B;refine st (ρ':=[.val (ar CM C m g js),.val (ar CM C s m is)]) (by dsimp? [h2,h4,h6,h7]) (aR ?_);have h8:=DD (n:=n+1) M gs gg (jm.comp gg.g2 gm.g2 im);have key:ev G (kal G (n+8)) (.comp 1 [0] (.nm 0) (.fld (.var 1) "images") (.lit (.bl true)) (.emit (.mth (.var 1) "led" [(.var 0)]))) [.val (ar CM C m g js),.val (ar CM C s m is)]=some (.lst ((is.map (aw g js)).map tupI)):=by
  rw [List.map_map];refine cj (g:=tupI) (by simp only [evI,evA,ev.eq_1,ev.eq_18,aJ,List.getElem?_cons_zero,List.getElem?_cons_succ,h3,qR]) rfl (by rw [im.len];exact Gb gs.cW (by decide)) fun x hx=>⟨[.val (tupI x),.val (ar CM C m g js)],rfl,?_⟩
  have e1:=qY (n:=n+2) M gm gg jm (im.el x hx);dsimp? [e1];rfl
 simp only [af.eq_11,evV,evA,ev.eq_18,ev.eq_1,aa,aH,List.modify_zero_cons,List.modify_succ_cons,aJ,List.getElem?_cons_zero,List.getElem?_cons_succ,h1,h5,key,h8]
end
section
variable {G:Prg} {C CM NL:Addr} {n:Nat}
theorem nD {key:Str} {sc:List Int} {k:Int} (hd:G.defs key=some (none,L.spread)) (hl:sc.length<=63) (hk:0<=k∧k<=1000):∃c,kal G (n+1) key [.lst (sc.map .int),.int k]=some (.ok (.int c)):=by
 have ln:(sc.map D.int).length=sc.length:=by simp
 have m1:∀i:Int,bO i 48271=true:=fun i=>eQ (by decide);have m3:∀i:Int,bO i 69621=true:=fun i=>eQ (by decide);have m6:∀i:Int,bO i 16807=true:=fun i=>eQ (by decide);have m7:∀i:Int,bO 31 i=true:=fun i=>lE (by decide);have m8:bO (k+3) (k+5)=true:=lE (by omega);have p1:(0:Int)<1000000007:=by decide
 have p2:(0:Int)<2147483647:=by decide
 have p3:(0:Int)<2147483629:=by decide
 have p4:(0:Int)<2147483648:=by decide
 have p5:(0:Int)<2:=by decide
 have tail:∀c:Int,IN.run G (kal G n) (L.spread.body.drop 4) [.val (.lst (sc.map .int)),.val (.int k),.val (.int ((sc.length:Int) - 1)),.val (.int c),.nil]=some (.rt (.int ((c%1000000007*48271+(k+3)*(k+5)*69621)%2147483647*16807%2147483629))):=fun c=>by
  unfold L.spread;simp only [List.drop];dsimp? [p1,p2,p3,m1,m3,m6,m8]
 have t1:IN.af G (kal G n) (.asg (.nm 2) (.bin .sub (.blt .len [(.var 0)]) (.lit (.int 1))) [0]) [.val (.lst (sc.map .int)),.val (.int k),.nil,.nil,.nil]=some (.nx [.val (.lst (sc.map .int)),.val (.int k),.val (.int ((sc.length:Int) - 1)),.nil,.nil]):=by dsimp? [ln]
 have mid:IN.af G (kal G n) (L.spread.body.getD 1 .pass) [.val (.lst (sc.map .int)),.val (.int k),.val (.int ((sc.length:Int) - 1)),.nil,.nil]=some (.nx [.val (.lst (sc.map .int)),.val (.int k),.val (.int ((sc.length:Int) - 1)),.nil,.nil])->∃c,IN.run G (kal G n) L.spread.body [.val (.lst (sc.map .int)),.val (.int k),.nil,.nil,.nil]=some (.rt (.int c)):=fun t2=>by
  have t3:IN.af G (kal G n) (.asg (.nm 3) (.lit (.int 0)) []) [.val (.lst (sc.map .int)),.val (.int k),.val (.int ((sc.length:Int) - 1)),.nil,.nil]=some (.nx [.val (.lst (sc.map .int)),.val (.int k),.val (.int ((sc.length:Int) - 1)),.val (.int 0),.nil]):=rfl
  by_cases b:(0:Int)<(sc.length:Int)
  ·have b3:decide ((0:Int)<(sc.length:Int))=true:=Ge b;have i2:atI (sc.map D.int) (k%(sc.length:Int))=some (D.int (at0 sc k)):=Az (by omega);exact ⟨_,st t1 (st t2 (st t3 (st (ρ':=[.val (.lst (sc.map .int)),.val (.int k),.val (.int ((sc.length:Int) - 1)),.val (.int (at0 sc k)),.nil]) (by dsimp? [ln,b,b3,i2]) (tail (at0 sc k)))))⟩
  ·have b3:decide ((0:Int)<(sc.length:Int))=false:=Gf b;exact ⟨_,st t1 (st t2 (st t3 (st (ρ':=[.val (.lst (sc.map .int)),.val (.int k),.val (.int ((sc.length:Int) - 1)),.val (.int 0),.nil]) (by dsimp? [ln,b3]) (tail 0))))⟩
 have go:∃c,IN.run G (kal G n) L.spread.body [.val (.lst (sc.map .int)),.val (.int k),.nil,.nil,.nil]=some (.rt (.int c)):=by
  by_cases hb:(0:Int)<(sc.length:Int) - 1
  ·have b1:decide ((0:Int)<(sc.length:Int) - 1)=true:=Ge hb;have i0:=xb (l:=sc) (k:=0) (by decide) (by omega)
   by_cases ho:gd sc 0%2=1
   ·have b2:decide (gd sc 0%2=1)=true:=Ge ho;have q0:0<=k%((sc.length:Int) - 1):=Gj _ (by omega);have q1:k%((sc.length:Int) - 1)<(sc.length:Int) - 1:=Gk _ hb;have i1:=xb (l:=sc) (k:=1+k%((sc.length:Int) - 1)) (by omega) (by omega);have d1:(0:Int)<(sc.length:Int) - 1∧((sc.length:Int) - 1).toNat<1073741824:=by omega
    have d2:0<=31*(k / ((sc.length:Int) - 1)):=by
     have:=Int.ediv_nonneg hk.1 (show 0<=(sc.length:Int) - 1 by omega);omega
    exact ⟨gd sc (1+k%((sc.length:Int) - 1)) / 2^(31*(k / ((sc.length:Int) - 1))).toNat%2147483648,st t1 (aR (by dsimp? [b1,b2,i0,i1,d1,d2,hb,p5,p4,m7]))⟩
   ·have b2:decide (gd sc 0%2=1)=false:=Gf ho;refine mid ?_;unfold L.spread;simp only [List.getD_cons_succ,List.getD_cons_zero];dsimp? [b1,b2,i0,p5]
  ·have b1:decide ((0:Int)<(sc.length:Int) - 1)=false:=Gf hb;refine mid ?_;unfold L.spread;simp only [List.getD_cons_succ,List.getD_cons_zero];dsimp? [b1]
 obtain ⟨c,e⟩:=go;exact ⟨c,ay hd ⟨rfl,rfl⟩ (ρ0:=[.val (.lst (sc.map .int)),.val (.int k),.nil,.nil,.nil]) rfl e⟩
end
section
variable {G:Prg} {C CM NL:Addr} {n:Nat}
theorem vB:elI (m::ns) c=c%m::elI ns (c / m):=by
 have go:∀(ns:List Int) (c:Int) (f:List Int),(ns.foldl est (c,f)).2=f++(ns.foldl est (c,[])).2:=by
  intro ns
  induction ns with
  |nil=>intro c f;simp
  |cons n ns ih=>
   intro c f;show (ns.foldl est (c / n,f++[c%n])).2=f++(ns.foldl est (c / n,[]++[c%n])).2;rw [ih,ih (c / n) ([]++[c%n]),F8];rfl
 show (ns.foldl est (c / m,[]++[c%m])).2=_;rw [go];rfl
theorem uP (hd:G.defs key=some (none,L.element)) (h1:∀m∈ns,1<=m∧m<1000000) (hl:ns.length<=1000):kal G (n+1) key [.lst (ns.map .int),.int c]=some (.ok (tupI (elI ns c))):=by
 refine ay hd ⟨rfl,rfl⟩ (ρ0:=[.val (.lst (ns.map .int)),.val (.int c),.nil,.nil]) rfl ?_;refine st (ρ':=[.val (.lst (ns.map .int)),.val (.int c),.owx (.l []),.nil]) rfl ?_;refine st (ρ':=[.val (.lst (ns.map .int)),.val (.int c),.owx (.l []),.any]) rfl ?_;refine st (cK (g:=D.int) (fun done=>[.val (.lst (ns.map .int)),.val (.int (cu c done).1),.owx (.l ((cu c done).2.map D.int)),.any]) ns rfl rfl fun done a rest e=>?_) ?_
 ·refine ⟨[.val (.lst (ns.map .int)),.val (.int (cu c done).1),.owx (.l ((cu c done).2.map D.int)),.val (.int a)],rfl,?_⟩;rw [mh];have hl2:=nY c done;generalize cu c done=s at hl2 ⊢;have h2:=h1 a (by rw [e];simp);have p1:0<a:=by omega
  have p2:0<a∧a.toNat<1073741824:=by omega
  have e6:(s.2.map D.int).length<sizeLine:=by
   rw [F6,hl2];have:done.length<=ns.length:=by rw [e];simp
   exact Ga (show done.length<=1000 by omega) (by decide)
  have e7:s.2.map D.int++[D.int (s.1%a)]=(s.2++[s.1%a]).map D.int:=by simp
  have em:est s a=(s.1 / a,s.2++[s.1%a]):=rfl;rw [em];dsimp? [p1,p2,e6,e7]
 ·refine aR ?_;have e8:ba (.lst ((cu c ns).2.map D.int))=some ((cu c ns).2.map D.int):=rfl;dsimp? [e8];rfl
noncomputable def gP (m:Int) (g:List Int) (c:Int):List Int:=((g.map fun k=>k / aL k m).zip (elI (g.map fun k=>aL k m) c)).map fun p=>p.1*p.2
theorem vL:gP m (k::g) c=k / aL k m*(c%aL k m)::gP m g (c / aL k m):=by
 unfold gP;rw [List.map_cons,List.map_cons,vB,List.zip_cons_cons,List.map_cons]
theorem qL (k m:Int):aL k m∣k:=Int.gcd_dvd_left ..
theorem D3 (k m:Int):aL k m∣m:=Int.gcd_dvd_right ..
theorem n5:∀{g:List Int} {c:Int},Ge2 g->El g (gP m g c)∧aK g m (gP m g c)=List.replicate g.length 0
 |[],c,_=>⟨El.nil,rfl⟩
 |k::g,c,h=>by
  have hk:=h.head;have hp:=i5 (b:=m) hk;obtain ⟨i1,i2⟩:=n5 (m:=m) (g:=g) (c:=c / aL k m) h.tail;obtain ⟨q,hq⟩:=qL k m;obtain ⟨r,hr⟩:=D3 k m;have e:k / aL k m=q:=by
   conv=>lhs;arg 1;rw [hq]
   exact Int.mul_ediv_cancel_left _ (by omega)
  have d0:0<=c%aL k m:=Gj _ (by omega);have d1:c%aL k m<aL k m:=Gk _ hp;have q0:0<q:=by
   rcases (by omega:0<q∨q<=0) with h|h
   ·exact h
   ·have:=Int.mul_nonneg (Int.le_of_lt hp) (show 0<= -q by omega);rw [Int.mul_neg] at this;omega
  rw [vL,e];generalize hd:c%aL k m=d at d0 d1;refine ⟨El.cons (Int.mul_nonneg (by omega) d0) ?_ i1,?_⟩
  ·have:=Int.mul_lt_mul_of_pos_left d1 q0;rw [Int.mul_comm q (aL k m),←hq] at this;exact this
  ·rw [aQ,i2];have:m*(q*d)%k=0:=by
    have e2:m*(q*d)=k*(r*d):=by
     conv=>lhs;rw [hr]
     conv=>rhs;rw [hq]
     simp only [Int.mul_assoc,Int.mul_left_comm]
    rw [e2,Int.mul_emod_right]
   rw [this];rfl
theorem x_ (hd:G.defs key=some (none,L.image)) (h1:G.defs "_law_divisor"=some (none,L.gcd)) (f1:G.fn "_law_divisor"=some ("_law_divisor":Str)) (h2:G.defs "_law_drawn"=some (none,L.element)) (f2:G.fn "_law_drawn"=some ("_law_drawn":Str)) (gg:Good g) (hm:0<=m) (hm2:m<1000):
  kal G (n+2) key [.int m,tupI g,.int c]=some (.ok (tupI (gP m g c))):=by
 refine ay hd ⟨rfl,rfl⟩ (ρ0:=[.val (.int m),.val (tupI g),.val (.int c),.nil,.nil]) rfl ?_;have hz:g.length<=sizeLine:=Gb gg.cW (by decide);have k1:ev G (kal G (n+1)) (.comp 1 [0] (.nm 0) (.var 1) (.lit (.bl true)) (.emit (.bin .fdiv (.var 0) (.fn "_law_divisor" [(.var 0),(.var 1)])))) [.val (.int m),.val (tupI g),.val (.int c),.nil,.nil]=some (.lst (g.map fun k=>D.int (k / aL k m))):=by
  refine cj (g:=D.int) rfl rfl hz fun k hk=>⟨[.val (.int k),.val (.int m)],rfl,?_⟩
  have hk2:=gg.ge k hk;have hk3:=gg.lt k hk;have e1:=wM (G:=G) (n:=n) (a:=k) (b:=m) h1 (by omega) hm;have gp:=i5 (b:=m) hk2;have gl:=Int.le_of_dvd (by omega) (qL k m);have p2:0<aL k m∧(aL k m).toNat<1073741824:=by omega
  dsimp? [f1,e1,p2]
 have k2:∀s3:Sl,ev G (kal G (n+1)) (.comp 1 [0] (.nm 0) (.var 1) (.lit (.bl true)) (.emit (.fn "_law_divisor" [(.var 0),(.var 1)]))) [.val (.int m),.val (tupI g),.val (.int c),s3,.nil]=some (.lst ((g.map fun k=>aL k m).map D.int)):=fun s3=>by
  rw [List.map_map];refine cj (g:=D.int) rfl rfl hz fun k hk=>⟨[.val (.int k),.val (.int m)],rfl,?_⟩
  have hk2:=gg.ge k hk;have e1:=wM (G:=G) (n:=n) (a:=k) (b:=m) h1 (by omega) hm;dsimp? [f1,e1];rfl
 have e3:=uP (n:=n) (c:=c) (ns:=g.map fun k=>aL k m) h2 (fun x hx=>by
  obtain ⟨k,hk,rfl⟩:=FB.mp hx;have hk2:=gg.ge k hk;have hk3:=gg.lt k hk;have gp:=i5 (b:=m) hk2;have gl:=Int.le_of_dvd (by omega) (qL k m)
  omega) (by rw [F6];exact gg.cW)
 have fr:bN (.l (g.map fun k=>D.int (k / aL k m)))=true:=by
  have:=cJ (g.map fun k=>k / aL k m);rw [List.map_map] at this;exact this
 refine st (ρ':=[.val (.int m),.val (tupI g),.val (.int c),.owx (.l (g.map fun k=>D.int (k / aL k m))),.nil]) (by dsimp? [k1,fr]) ?_;refine st (ρ':=[.val (.int m),.val (tupI g),.val (.int c),.owx (.l (g.map fun k=>D.int (k / aL k m))),.val (tupI (elI (g.map fun k=>aL k m) c))]) (by dsimp? [k2,f2,e3]) ?_;refine aR ?_;have hz2:cN .zip [.lst (g.map fun k=>D.int (k / aL k m)),tupI (elI (g.map fun k=>aL k m) c)]=some (((g.map fun k=>k / aL k m).zip (elI (g.map fun k=>aL k m) c)).map fun p=>D.tup [.int p.1,.int p.2]):=by
  rw [←j3,List.map_map];exact j8 rfl rfl
 have k3:ev G (kal G (n+1)) (.comp 2 [] (.tp [(.nm 0),(.nm 1)]) (.blt .zip [(.var 3),(.var 4)]) (.lit (.bl true)) (.emit (.bin .mul (.var 0) (.var 1)))) [.val (.int m),.val (tupI g),.val (.int c),.val (.lst (g.map fun k=>D.int (k / aL k m))),.val (tupI (elI (g.map fun k=>aL k m) c))]=some (.lst (((g.map fun k=>k / aL k m).zip (elI (g.map fun k=>aL k m) c)).map fun p=>D.int (p.1*p.2))):=by
  refine cj (g:=fun p:Int×Int=>D.tup [.int p.1,.int p.2]) (by simp only [evI,evA,ev.eq_1,aJ,List.getElem?_cons_zero,List.getElem?_cons_succ,hz2]) rfl ?_ fun p hp=>⟨[.val (.int p.1),.val (.int p.2)],rfl,?_⟩
  ·rw [List.length_zip,F6];exact Gb (Nat.min_le_left ..) hz
  ·have mo:bO p.1 p.2=true:=by
    obtain ⟨k,hk,e⟩:=FB.mp (List.of_mem_zip hp).1;have hk2:=gg.ge k hk;have hk3:=gg.lt k hk;have a:=Int.ediv_le_self (aL k m) (show 0<=k by omega);have b:=Int.ediv_nonneg (show 0<=k by omega) (Int.le_of_lt (i5 (b:=m) hk2));exact lE (by omega)
   dsimp? [mo]
 dsimp? [k3];unfold gP tupI;rw [List.map_map];rfl
end
section
variable {G:Prg} {C CM NL CE:Addr} {n:Nat}
theorem AH (hd:G.defs key=some (none,L.led)) (h1:G.defs "_law_sum"=some (none,L.sum)) (f1:G.fn "_law_sum"=some ("_law_sum":Str)) (h2:G.defs "_law_many"=some (none,L.iT)) (f2:G.fn "_law_many"=some ("_law_many":Str)) (gg:Good g) (e:Els g is):
  kal G (n+2) key [tupI g,.lst (is.map tupI),tupI x]=some (.ok (tupI (aw g is x))):=by
 refine ay hd ⟨rfl,rfl⟩ (ρ0:=[.val (tupI g),.val (.lst (is.map tupI)),.val (tupI x),.nil,.nil,.nil]) rfl ?_;have k1:ev G (kal G (n+1)) (.comp 1 [] (.nm 0) (.var 0) (.lit (.bl true)) (.emit (.lit (.int 0)))) [.val (tupI g),.val (.lst (is.map tupI)),.val (tupI x),.nil,.nil,.nil]=some (.lst (g.map fun _=>D.int 0)):=
  cj (g:=D.int) rfl rfl (Gb gg.cW (by decide)) fun k _=>⟨[.val (.int k)],rfl,rfl⟩
 have e1:D.tup (g.map fun _=>D.int 0)=tupI (List.replicate g.length 0):=by
  unfold tupI;simp;exact List.map_const' ..
 refine st (ρ':=[.val (tupI g),.val (.lst (is.map tupI)),.val (tupI x),.val (tupI (List.replicate g.length 0)),.nil,.nil]) (by dsimp? [k1,e1]) ?_;refine st (ρ':=[.val (tupI g),.val (.lst (is.map tupI)),.val (tupI x),.val (tupI (List.replicate g.length 0)),.any,.any]) (by rfl) ?_;have hz:cN .zip [tupI x,.lst (is.map tupI)]=some ((x.zip is).map fun p=>D.tup [.int p.1,tupI p.2]):=by rw [←pb];exact j8 rfl rfl
 refine st (cK (g:=fun p:Int×List Int=>D.tup [.int p.1,tupI p.2]) (fun done=>[.val (tupI g),.val (.lst (is.map tupI)),.val (tupI x),.val (tupI (c_ g (done.map fun p=>aK g p.1 p.2))),.any,.any]) (x.zip is) (by simp only [evI,evA,ev.eq_1,aJ,aa,aH,List.modify_zero_cons,List.modify_succ_cons,List.getElem?_cons_zero,List.getElem?_cons_succ,hz]) rfl fun done p rest ee=>?_) (aR ?_)
 ·have hp:p∈x.zip is:=by rw [ee];simp
  have m1:=uU (n:=n) (m:=p.1) h2 gg (e _ (List.of_mem_zip hp).2);have m2:=AL (n:=n) (x:=c_ g (done.map fun p=>aK g p.1 p.2)) (y:=aK g p.1 p.2) h1 gg;refine ⟨[.val (tupI g),.val (.lst (is.map tupI)),.val (tupI x),.val (tupI (c_ g (done.map fun p=>aK g p.1 p.2))),.val (.int p.1),.val (tupI p.2)],rfl,?_⟩;rw [List.map_append,List.map_cons,List.map_nil,mD];dsimp? [f1,f2,m1,m2]
 ·dsimp? [f1];rfl
theorem Dz (A:GA G C) (hd:G.defs key=some (none,L.is)) (hw:G.defs "_law_whole"=some (none,L.whole)) (fw:G.fn "_law_whole"=some ("_law_whole":Str)) (hl:f.length=ns.length) (hk:f.length<=1000):kal G (n+2) key [tupI ns,tupI f,tupI d]=some (.ok (.bl (decide (f=d)))):=by
 refine ay hd ⟨rfl,rfl⟩ (ρ0:=[.val (tupI ns),.val (tupI f),.val (tupI d)]) rfl ?_;have h2:=A.wF;have h3:bR G (tupI f) (.ty "tuple")=some true:=A.kit "tuple" (by decide) "tuple" (by decide);have h4:ba (tupI f)=some (f.map .int):=rfl;have h5:ba (tupI ns)=some (ns.map .int):=rfl;have l1:(f.map D.int).length=f.length:=by simp
 have l2:(ns.map D.int).length=ns.length:=by simp
 have l3:decide ((f.length:Int)=(ns.length:Int))=true:=Ge (by omega);have key:ev G (kal G (n+1)) (.comp 1 [] (.nm 0) (.var 1) (.lit (.bl true)) (.emit (.fn "_law_whole" [(.var 0)]))) [.val (tupI ns),.val (tupI f),.val (tupI d)]=some (.lst ((f.map fun _=>true).map .bl)):=by
  rw [List.map_map];refine cj (g:=D.int) rfl rfl (Gb hk (by decide)) fun p hp=>⟨[.val (.int p)],rfl,?_⟩
  have e2:=ye (i:=p) (n:=n) A hw;dsimp? [fw,e2];rfl
 have hb:=d6 (f.map fun _=>true);have ha:(f.map fun _=>true).all id=true:=by simp
 have h6:=lb f d;dsimp? [L.is,h2,h3,h4,h5,l1,l2,l3,key,hb,ha,h6]
end
section
variable {G:Prg} {C CM NL CE:Addr} {n:Nat}
structure LM0 (G:Prg):Prop where
 spr:G.defs "_law_spread"=some (none,L.spread)
 qK:G.fn "_law_spread"=some ("_law_spread":Str)
 img:G.defs "_law_image"=some (none,L.image)
 qJ:G.fn "_law_image"=some ("_law_image":Str)
 div:G.defs "_law_divisor"=some (none,L.gcd)
 fdiv:G.fn "_law_divisor"=some ("_law_divisor":Str)
 dr:G.defs "_law_drawn"=some (none,L.element)
 fdr:G.fn "_law_drawn"=some ("_law_drawn":Str)
 sum:G.defs "_law_sum"=some (none,L.sum)
 fsum:G.fn "_law_sum"=some ("_law_sum":Str)
 man:G.defs "_law_many"=some (none,L.iT)
 E5:G.fn "_law_many"=some ("_law_many":Str)
 led:G.defs "_law_led"=some (none,L.led)
 E4:G.fn "_law_led"=some ("_law_led":Str)
 isl:G.defs "_law_is"=some (none,L.is)
 E3:G.fn "_law_is"=some ("_law_is":Str)
 whole:G.defs "_law_whole"=some (none,L.whole)
 Bx:G.fn "_law_whole"=some ("_law_whole":Str)
noncomputable def fW (a b:List Int) (cf:Nat->Int):List (List Int):=a.zipIdx.map fun p=>gP p.1 b (cf p.2)
theorem kP (gb:Ge2 b) (cf:Nat->Int):Im a b (fW a b cf):=by
 have go:∀(a:List Int) (k:Nat),Im a b ((a.zipIdx k).map fun p=>gP p.1 b (cf p.2)):=by
  intro a
  induction a with
  |nil=>intro k;exact Im.nil
  |cons m a ih=>
   intro k;rw [List.zipIdx_cons,List.map_cons];exact Im.cons (n5 gb).1 (n5 gb).2 (ih (k+1))
 exact go a 0
end
section
variable {G:Prg} {C CM NL CE:Addr} {n:Nat}
theorem iO:ak (ar CM C s g is)=true:=by
 show (ak (grp C s)&&(ak (grp C g)&&(ak (.tup (is.map tupI))&&true)))=true;rw [ej,ej,show ak (.tup (is.map tupI))=true from fB is];rfl
end
noncomputable def ic (t:Pr->List Int) (p:Pr) (v:List Int):Pr->List Int:=fun q=>if q=p then v else t q
theorem Ai (h:p∉l):dZ (ae t l) (pkP p) (tupI v)=ae (ic t p v) (l++[p]):=by
 have e:ae t l=ae (ic t p v) l:=by
  unfold ae;refine List.map_congr_left fun q hq=>?_;have:q≠p:=fun z=>h (z▸hq);simp [ic,this]
 have e2:tupI v=tupI (ic t p v p):=by simp [ic]
 rw [e,e2,eS];exact hX h
theorem cI (h:p∈l):look (ae t l) (pkP p)=some (tupI (t p)):=by rw [du];exact vQ h
theorem y9 (h:(x,y)∈l):ixD (.pdc (ae t l)) (.tup [tupI x,tupI y])=some (tupI (t (x,y))):=by
 rw [iU,kq,cI h]
theorem lC (hx:x∈l) (hy:y∈l):(x,y)∈prs l:=List.mem_flatMap.mpr ⟨x,hx,FB.mpr ⟨y,hy,rfl⟩⟩
theorem gk (h:p∈prs l):p.1∈l∧p.2∈l:=by
 obtain ⟨x,hx,h⟩:=List.mem_flatMap.mp h;obtain ⟨y,hy,rfl⟩:=FB.mp h;exact ⟨hx,hy⟩
section
variable {G:Prg} {C CG CTb:Addr} {n:Nat}
structure TC0 (G:Prg) (C CG CTb:Addr):Prop where
 T:TB G C CG CTb
 car:G.defs "Table.carries"=some (none,P.eB)
 vV:G.mth CTb "carries"=some ("Table.carries":Str)
theorem iq {lo up:List Int} {t:Pr->List Int} (K:TC0 G C CG CTb) (U:LU lo up):kal G (n+1) "Table.carries" [tabI CTb C lo up t]=some (.fr (.d (ae t (prs (PL.mem up))))):=by
 refine fz K.car ⟨rfl,rfl⟩ (ρ0:=[.val (tabI CTb C lo up t)]) rfl (hW ?_);have h1:=K.T.fke;have hf:bx G (tabI CTb C lo up t) "kept"=some (.pdc (ae t (prs (PL.mem up)))):=by unfold tabI;simp only [bx,h1,if_true,xE]
 have ha:apart ((ae t (prs (PL.mem up))).map fun q=>q.1.hs)=true:=by
  have:=F7.mp mG up (o8 U.gu.ge U.p9);unfold hashesOf at this;unfold ae;rw [List.map_map];exact this
 simp only [af.eq_11,evV,ev.eq_19,evA,ev.eq_18,ev.eq_1,aa,aH,List.modify_zero_cons,aJ,List.getElem?_cons_zero,hf,ha,if_true]
end
theorem CB (x:List Int):bU (tupI x)=some (.t (x.map .i)):=by
 simp only [bU,g_]
theorem tY (x:List Int):(PK.t (x.map .i)).dp<=8:=by
 have go:∀x:List Int,_root_.CT.PK.dpL (x.map _root_.CT.PK.i)=0:=by
  intro x
  induction x with
  |nil=>rfl
  |cons a x ih=>show max (_root_.CT.PK.dp (.i a)) (_root_.CT.PK.dpL (x.map .i))=0;rw [ih];rfl
 show _root_.CT.PK.dpL (x.map .i)+1<=8;rw [go];decide
theorem xA:ixD (.pdc es) (tupI x)=look es (pkT x):=xy (CB x) (tY x)
theorem vC {l:List (List Int)}:∀(k:Nat),a9 k (l.map tupI)=(l.zipIdx k).map fun p=>D.tup [.int (p.2:Int),tupI p.1]:=fun k=>iE l k
theorem ow:∀(ns:List Int) (acc:List (List Int)) (b:List Int),b∈ns.foldl PL.step acc↔∃a∈acc,∃e,El ns e∧b=a++e
 |[],acc,b=>by
  constructor
  ·intro h;exact ⟨b,h,[],El.nil,by simp⟩
  ·rintro ⟨a,ha,e,he,rfl⟩;have:e=[]:=F2.mp he.len;subst this;simpa using ha
 |n::ns,acc,b=>by
  rw [List.foldl_cons,ow ns];constructor
  ·rintro ⟨a',ha',e,he,rfl⟩;obtain ⟨a,ha,h⟩:=List.mem_flatMap.mp ha';obtain ⟨k,hk,rfl⟩:=FB.mp h;have:=tH hk;exact ⟨a,ha,k::e,El.cons this.1 this.2 he,by simp⟩
  ·rintro ⟨a,ha,e,he,rfl⟩;obtain ⟨k,r,rfl,h1,h2,hr⟩:=he.inv;refine ⟨a++[k],List.mem_flatMap.mpr ⟨a,ha,FB.mpr ⟨k,?_,rfl⟩⟩,r,hr,by simp⟩;unfold bo;exact FB.mpr ⟨k.toNat,List.mem_range.mpr (by omega),by omega⟩
theorem mem_iff:b∈PL.mem ns↔El ns b:=by
 unfold PL.mem;rw [ow];constructor
 ·rintro ⟨a,ha,e,he,rfl⟩;rw [FM.mp ha];simpa using he
 ·intro h;exact ⟨[],by simp,b,h,by simp⟩
theorem kD:∀(ns:List Int) (acc:List (List Int)),(∀n∈ns,2<=n)->((ns.foldl PL.step acc).length:Int)=acc.length*prod ns
 |[],acc,_=>by show (acc.length:Int)=acc.length*1;omega
 |n::ns,acc,h=>by
  have hn:=h n Fa;rw [List.foldl_cons,kD ns _ fun m hm=>h m (EQ _ hm),jZ,prod_cons];have e:((bo n).length:Int)=n:=by unfold bo;rw [F6,List.length_range];omega
  rw [Int.natCast_mul,e,Int.mul_assoc]
theorem dE (h:∀n∈ns,2<=n):((PL.mem ns).length:Int)=prod ns:=by
 unfold PL.mem;rw [kD ns _ h];simp
theorem wm (a b:List Int):prod (a++b)=prod a*prod b:=by
 induction a with
 |nil=>show prod b=1*prod b;omega
 |cons x a ih=>rw [List.cons_append,prod_cons,prod_cons,ih,Int.mul_assoc]
theorem nZ (h:∀n∈ns,2<=n) (hp:prod ns<=144):Fit ns:=by
 rintro l ⟨r,e⟩;subst e;have h1:∀n∈l,2<=n:=fun n hn=>h n (Ev _ hn);have h2:1<=prod r:=fD fun n hn=>h n (Do _ hn);have h3:=dE h1;rw [wm] at hp;have h4:=fD h1;have:prod l*1<=prod l*prod r:=Int.mul_le_mul_of_nonneg_left h2 (by omega);omega
theorem Dj:ups.all (fun ns=>decide (PL.mem ns).Nodup)=true:=by decide+kernel
theorem kA {lo up:List Int} (gl:Good lo) (gu:Good up) (hl:prod lo<=16) (hu:prod up<=9):LU lo up where
 gl:=gl
 gu:=gu
 fl:=nZ gl.ge gl.le
 fu:=nZ gu.ge gu.le
 l16:=by have:=dE gl.ge;omega
 u9:=by have:=dE gu.ge;omega
 nd:=by simpa using F7.mp Dj up (o8 gu.ge hu)
 p9:=hu
theorem ua {l pre rest pre2 rest2:List (List Int)} {x y:List Int} (e1:l=pre++x::rest) (e2:l=pre2++y::rest2):∃tail,prs l=((pre.flatMap fun a=>l.map fun b=>(a,b))++pre2.map fun b=>(x,b))++(x,y)::tail:=by
 refine ⟨(rest2.map fun b=>(x,b))++rest.flatMap fun a=>l.map fun b=>(a,b),?_⟩;have:prs l=(pre++x::rest).flatMap fun a=>l.map fun b=>(a,b):=by rw [←e1];rfl
 rw [this,List.flatMap_append,List.flatMap_cons];have e3:(l.map fun b=>(x,b))=(pre2.map fun b=>(x,b))++(x,y)::rest2.map fun b=>(x,b):=by rw [e2,List.map_append,List.map_cons]
 rw [e3];simp
section
variable {G:Prg} {C CG CTb CM NL NU CE:Addr} {n:Nat}
theorem Dw (hd:G.defs key=some (none,L.iY)) (g:Good ns) (ft:Fit ns):kal G (n+1) key [tupI ns]=some (.fr (.l ((PL.mem ns).map tupI))):=by
 refine fz hd ⟨rfl,rfl⟩ (ρ0:=[.val (tupI ns),.nil,.nil,.nil,.nil]) rfl ?_;refine st (ρ':=[.val (tupI ns),.owx (.l [.tup []]),.nil,.nil,.nil]) rfl ?_;refine st (ρ':=[.val (tupI ns),.owx (.l [.tup []]),.any,.any,.any]) rfl ?_;refine st (cK (g:=D.int) (fun done=>[.val (tupI ns),.owx (.l ((PL.mem done).map tupI)),.any,.any,.any]) ns rfl rfl fun done a rest e=>?_) ?_
 ·refine ⟨[.val (tupI ns),.owx (.l ((PL.mem done).map tupI)),.val (.int a),.any,.any],rfl,?_⟩;have ha:a∈ns:=by rw [e];simp
  have hp:(done++[a])<+:ns:=⟨rest,by rw [e,F8];rfl⟩
  have hm:=ft _ hp;rw [gV] at hm;have g2:=g.ge a ha;have g3:=g.lt a ha;refine st (ρ':=[.val (tupI ns),.owx (.l ((PL.mem done).map tupI)),.val (.int a),.owx (.l []),.any]) rfl ?_;refine st (ρ':=[.val (tupI ns),.owx (.l ((PL.mem done).map tupI)),.val (.int a),.owx (.l []),.any]) rfl ?_;refine st (cK (g:=tupI) (fun pre=>[.val (tupI ns),.val (.lst ((PL.mem done).map tupI)),.val (.int a),.owx (.l ((PL.step pre a).map tupI)),.any]) (PL.mem done) rfl rfl fun pre x rest2 e2=>?_) ?_
  ·refine ⟨[.val (tupI ns),.val (.lst ((PL.mem done).map tupI)),.val (.int a),.owx (.l ((PL.step pre a).map tupI)),.val (tupI x)],rfl,?_⟩;have hr:=rN (j:=a) (by omega);have hx:x∈PL.mem done:=by rw [e2];simp
   have hxl:=PL.pX hx;have h2:done.length<=ns.length:=by rw [e];simp
   have h7:=g.len;have z1:x.length+1<=sizeLine:=Gb (show x.length+1<=1000 by omega) (by decide);have z2:(1:Nat)<=sizeLine:=by decide
   have hk:(bo a).length<=1000:=by unfold bo;rw [F6,List.length_range];omega
   have key:ev G (kal G n) (.comp 1 [4] (.nm 0) (.blt .range [(.var 2)]) (.lit (.bl true)) (.emit (.bin .add (.var 1) (.tup [(.var 0)])))) [.val (tupI ns),.val (.lst ((PL.mem done).map tupI)),.val (.int a),.owx (.l ((PL.step pre a).map tupI)),.val (tupI x)]=some (.lst (((bo a).map fun k=>x++[k]).map tupI)):=by
    rw [List.map_map];refine cj (g:=D.int) (by simp only [evI,evA,ev.eq_1,aJ,List.getElem?_cons_succ,List.getElem?_cons_zero,hr]) rfl (Gb hk (by decide)) fun k _=>⟨[.val (.int k),.val (tupI x)],rfl,?_⟩
    have e4:=mE x k;simp only [ev.eq_1,ev.eq_4,ev.eq_14,evA,aJ,List.getElem?_cons_succ,List.getElem?_cons_zero,List.length_cons,List.length_nil,Nat.zero_add,z2,if_true,gC,List.length_map,z1,e4];rfl
   have e6:((PL.step pre a).map tupI).length+(((bo a).map fun k=>x++[k]).map tupI).length<=sizeLine:=by
    have l2:(PL.mem done).length=pre.length+1+rest2.length:=by rw [e2,F5,List.length_cons];omega
    have h3:((PL.step pre a).map tupI).length+(((bo a).map fun k=>x++[k]).map tupI).length<=(PL.step (PL.mem done) a).length:=by
     rw [F6,F6,F6,jZ,jZ,l2,Nat.add_mul,Nat.add_mul];have:=Nat.zero_le (rest2.length*(bo a).length);omega
    exact Gb (Gb h3 hm) (by decide)
   have e7:(PL.step pre a).map tupI++((bo a).map fun k=>x++[k]).map tupI=(PL.step (pre++[x]) a).map tupI:=by simp [PL.step]
   have e8:aW (((bo a).map fun k=>x++[k]).map tupI)=true:=fB _;refine st (ρ':=[.val (tupI ns),.val (.lst ((PL.mem done).map tupI)),.val (.int a),.owx (.l ((PL.step (pre++[x]) a).map tupI)),.val (tupI x)]) ?_ (st (by rfl) bc);simp? [af.eq_21,evV,key,e8,e6,e7]
  ·rw [gV];exact st (by rfl) (st (by rfl) bc)
 ·exact hW (by rfl)
noncomputable def lows:List (List Int):=[[2],[4],[2,2],[3],[6],[2,4],[8],[9],[4,4],[16],[2,2,2],[],[12],[3,3],[2,6]]
noncomputable def o7:List (List Int):=[[2],[4],[2,2],[3],[6],[2,3],[2,2],[3],[5],[4],[2,4],[3,3],[8],[],[2,2,2]]
noncomputable def oW:List (List Int):=[[2],[4],[2,2],[3],[6],[2,3],[5],[2,4],[3,3],[8],[],[4,2],[9],[2,2,2]]
theorem j7 {l:List (List Int)} {j:Int} (h0:0<=j) (h1:j<(l.length:Int)):∃ns∈l,atI (l.map tupI) j=some (tupI ns):=by
 have hj:j.toNat<l.length:=by omega
 refine ⟨l[j.toNat],List.getElem_mem hj,?_⟩;have e:ixN (l.map tupI).length j=some j.toNat:=by
  unfold ixN;rw [if_pos h0,if_pos (by rw [F6];exact h1)]
 unfold atI;rw [e];show (l.map tupI)[j.toNat]?=_;rw [List.getElem?_map,List.getElem?_eq_getElem hj];rfl
theorem iZ {key:Str} {c:Int} (hd:G.defs key=some (none,L.lower)):∃ns∈lows,kal G (n+1) key [.int c]=some (.ok (tupI ns)):=by
 have p:(0:Int)<15:=by decide
 obtain ⟨ns,hm,ha⟩:=j7 (l:=lows) (j:=c%15) (Gj _ (by decide)) (Gk _ p);refine ⟨ns,hm,ay hd ⟨rfl,rfl⟩ (ρ0:=[.val (.int c),.nil]) rfl (st (ρ':=[.val (.int c),.owx (.l (lows.map tupI))]) (by rfl) (aR ?_))⟩;dsimp? [p,ha]
theorem yd {key:Str} {c:Int} (hd:G.defs key=some (none,L.upper)):∃ns∈o7,kal G (n+1) key [.int c]=some (.ok (tupI ns)):=by
 have p:(0:Int)<15:=by decide
 obtain ⟨ns,hm,ha⟩:=j7 (l:=o7) (j:=c%15) (Gj _ (by decide)) (Gk _ p);refine ⟨ns,hm,ay hd ⟨rfl,rfl⟩ (ρ0:=[.val (.int c),.nil]) rfl (st (ρ':=[.val (.int c),.owx (.l (o7.map tupI))]) (by rfl) (aR ?_))⟩;dsimp? [p,ha]
theorem yb {key:Str} {c:Int} (hd:G.defs key=some (none,L.small)):∃ns∈oW,kal G (n+1) key [.int c]=some (.ok (tupI ns)):=by
 have p:(0:Int)<14:=by decide
 obtain ⟨ns,hm,ha⟩:=j7 (l:=oW) (j:=c%14) (Gj _ (by decide)) (Gk _ p);refine ⟨ns,hm,ay hd ⟨rfl,rfl⟩ (ρ0:=[.val (.int c),.nil]) rfl (st (ρ':=[.val (.int c),.owx (.l (oW.map tupI))]) (by rfl) (aR ?_))⟩;dsimp? [p,ha]
theorem eg:∀ns∈lows,Good ns∧prod ns<=16:=by
 intro ns h;simp only [lows,List.mem_cons,List.not_mem_nil,or_false] at h;rcases h with rfl|rfl|rfl|rfl|rfl|rfl|rfl|rfl|rfl|rfl|rfl|rfl|rfl|rfl|rfl<;>exact ⟨⟨by decide,by decide,by decide,by decide⟩,by decide⟩
theorem uB:∀ns∈o7,Good ns∧prod ns<=9:=by
 intro ns h;simp only [o7,List.mem_cons,List.not_mem_nil,or_false] at h;rcases h with rfl|rfl|rfl|rfl|rfl|rfl|rfl|rfl|rfl|rfl|rfl|rfl|rfl|rfl|rfl<;>exact ⟨⟨by decide,by decide,by decide,by decide⟩,by decide⟩
theorem uq:∀ns∈oW,Good ns∧prod ns<=9:=by
 intro ns h;simp only [oW,List.mem_cons,List.not_mem_nil,or_false] at h;rcases h with rfl|rfl|rfl|rfl|rfl|rfl|rfl|rfl|rfl|rfl|rfl|rfl|rfl|rfl<;>exact ⟨⟨by decide,by decide,by decide,by decide⟩,by decide⟩
end
noncomputable def bH (u:List Int->List Int) (l:List (List Int)):List (_root_.CT.PK×D):=l.map fun x=>(pkT x,tupI (u x))
theorem kz:∀{l:List (List Int)},x∉l->look (bH u l) (pkT x)=none
 |[],_=>rfl
 |y::l,h=>by
  show (if PK.beq (pkT y) (pkT x) then some (tupI (u y)) else look (bH u l) (pkT x))=none;rw [if_neg (fun z=>h (by rw [jd (beq_iff.mp z)];exact Fa))];exact kz fun z=>h (EQ _ z)
theorem iI:∀{l:List (List Int)},x∈l->look (bH u l) (pkT x)=some (tupI (u x))
 |y::l,h=>by
  show (if PK.beq (pkT y) (pkT x) then some (tupI (u y)) else look (bH u l) (pkT x))=_
  by_cases e:y=x
  ·rw [e,if_pos (beq_refl _)]
  ·rw [if_neg (fun z=>e (jd (beq_iff.mp z)))];rcases Fr.mp h with q|q
   ·exact absurd q.symm e
   ·exact iI q
theorem uu (h:x∉l):dZ (bH u l) (pkT x) (tupI (u x))=bH u (l++[x]):=by
 unfold dZ;rw [kz h];unfold bH;rw [List.map_append];rfl
theorem l8:∀(l done:List (List Int)),(done++l).Nodup->(done++l).length<=1000->(∀x∈l,f (tupI x)=some (pkT x,tupI (u x)))->iA f (l.map tupI) (bH u done)=some (bH u (done++l))
 |[],done,_,_,_=>by rw [List.append_nil];rfl
 |p::l,done,hn,hl,h=>by
  have hp:p∉done:=fun z=>(List.nodup_append.mp hn).2.2 _ z _ Fa rfl;rw [List.map_cons,iA,h p Fa];dsimp only;have hz:(bH u done).length<sizeLine:=by
   unfold bH;rw [F6];rw [F5] at hl;exact Ga (show done.length<=1000 by omega) (by decide)
  rw [if_pos hz,uu hp,l8 l (done++[p]) (by rw [F8];exact hn) (by rw [F8];exact hl) fun q hq=>h q (EQ _ hq),F8];rfl
theorem sW (u:List Int->List Int) (l:List (List Int)):bN (.d (bH u l))=true:=by
 show (bH u l).all (fun p=>ak p.2)=true;unfold bH;rw [List.all_map];exact F7.mpr fun _ _=>bY _
theorem jM (t:Pr->List Int) (l:List Pr):bN (.d (ae t l))=true:=by
 show (ae t l).all (fun p=>ak p.2)=true;unfold ae;rw [List.all_map];exact F7.mpr fun _ _=>bY _
section
variable {G:Prg} {C CG CTb CM NL NU CE:Addr} {n:Nat}
structure TE (G:Prg) (C CG CTb CM:Addr):Prop where
 K:TC0 G C CG CTb
 M:GP G C CM
 B:GQ G CM
 cof:G.defs "Table.carry_of"=some (none,P.cD)
 Fs:G.mth CTb "carry_of"=some ("Table.carry_of":Str)
 cry:G.defs "Table.carry"=some (none,P.d5)
 Ft:G.mth CTb "carry"=some ("Table.carry":Str)
 gT:G.glob "Table"=some (.cl CTb)
 kT:G.kit (.cl CTb) (.cl CTb)=some true
 gd:G.glob "dict"=some (.ty "dict")
 pul:G.defs "pulled"=some (none,P.oO)
 E9:G.fn "pulled"=some ("pulled":Str)
theorem fF {lo up:List Int} {t:Pr->List Int} (T:TB G C CG CTb):bx G (tabI CTb C lo up t) "lower"=some (grp C lo):=by
 have h:=T.flo;unfold tabI;simp only [bx,h,if_true,BU]
theorem kS {lo up:List Int} {t:Pr->List Int} (T:TB G C CG CTb):bx G (tabI CTb C lo up t) "upper"=some (grp C up):=by
 have h:=T.fup;unfold tabI;simp only [bx,h,if_true,D']
theorem Aj {lo up:List Int} {t:Pr->List Int} (T:TB G C CG CTb):bx G (tabI CTb C lo up t) "kept"=some (.pdc (ae t (prs (PL.mem up)))):=by
 have h:=T.fke;unfold tabI;simp only [bx,h,if_true,xE]
theorem kE {cl:Str->List D->Option Rs} {lo up:List Int} {t:Pr->List Int} {m k:Str} {ds:List D} {r:Option Rs} (hl:(tf C lo up t).lookup m=none) (hm:G.mth CTb m=some k) (h:cl k (tabI CTb C lo up t::ds)=r):aV G cl (tabI CTb C lo up t) m ds=r:=by
 unfold tabI at h ⊢;simp only [aV,hl,hm,h]
theorem qX {lo up x y:List Int} {t:Pr->List Int} (E:TE G C CG CTb CM) (hx:x∈PL.mem up) (hy:y∈PL.mem up):aV G (kal G (n+1)) (tabI CTb C lo up t) "carry_of" [tupI x,tupI y]=some (.ok (tupI (t (x,y)))):=by
 refine kE rfl E.Fs (ay E.cof ⟨rfl,rfl⟩ (ρ0:=[.val (tabI CTb C lo up t),.val (tupI x),.val (tupI y)]) rfl ?_);have h1:=Aj (lo:=lo) (up:=up) (t:=t) E.K.T;have h2:=y9 (t:=t) (lC hx hy);have z2:(2:Nat)<=sizeLine:=by decide
 dsimp? [P.cD,h1,h2,z2]
theorem Ea {lo up x y:List Int} {t:Pr->List Int} (E:TE G C CG CTb CM) (gu:Good up) (hx:x∈PL.mem up) (hy:y∈PL.mem up):aV G (kal G (n+4)) (tabI CTb C lo up t) "carry" [tupI x,tupI y]=some (.ok (tupI (t (x,y)))):=by
 refine kE rfl E.Ft (ay E.cry ⟨rfl,rfl⟩ (ρ0:=[.val (tabI CTb C lo up t),.val (tupI x),.val (tupI y)]) rfl ?_);have h1:=kS (lo:=lo) (up:=up) (t:=t) E.K.T;have h2:=iJ (n:=n) E.M.toGM gu (mem_iff.mp hx);have h3:=iJ (n:=n) E.M.toGM gu (mem_iff.mp hy);have h4:=qX (n:=n+2) (lo:=lo) (t:=t) E hx hy;dsimp? [P.d5,h1,h2,h3,h4]
theorem nC {lo up s:List Int} {is:List (List Int)} {t:Pr->List Int} (E:TE G C CG CTb CM) (U:LU lo up) (V:LU lo s) (im:Im s up is) (ht:∀p∈prs (PL.mem up),El lo (t p)):
  kal G (n+7) "pulled" [tabI CTb C lo up t,ar CM C s up is]=some (.ok (tabI CTb C lo s fun p=>t (aw up is p.1,aw up is p.2))):=by
 refine ay E.pul ⟨rfl,rfl⟩ (ρ0:=[.val (tabI CTb C lo up t),.val (ar CM C s up is),.nil,.nil]) rfl ?_;have h1:=fh (s:=s) (g:=up) (is:=is) E.M;have h2:=eP (s:=s) (g:=up) (is:=is) E.M;have h3:=kS (lo:=lo) (up:=up) (t:=t) E.K.T;have h4:=fF (lo:=lo) (up:=up) (t:=t) E.K.T;have f1:=E.B.fnl;have f2:=E.K.T.fnu;have f3:=E.K.T.fpr;have e1:=qA (n:=n+4) (a:=up) E.M E.B;have e2:=pC (n:=n+3) E.K.T V.gu V.fu V.u9;have e3:=lD (n:=n+5) E.K.T.B V.gu V.fu;have e4:=k9 (n:=n+4) E.K.T V.gu V.fu V.u9;have led_in:∀x∈PL.mem s,aw up is x∈PL.mem up:=fun x hx=>mem_iff.mpr (bS U.gu.g2 im.el x);refine st (ρ':=[.val (tabI CTb C lo up t),.val (ar CM C s up is),.nil,.nil]) (by dsimp? [h2,h3,f1,e1]) ?_;refine st (ρ':=[.val (tabI CTb C lo up t),.val (ar CM C s up is),.nil,.nil]) (by dsimp? [h1,f2,e2]) ?_;have s9:(PL.mem s).length<=1000:=by have:=V.u9;omega
 have k1:ev G (kal G (n+6)) (.bV 1 [1] (.nm 0) (.mth (.fld (.var 1) "source") "members" []) (.var 0) (.mth (.var 1) "led" [(.var 0)])) [.val (tabI CTb C lo up t),.val (ar CM C s up is),.nil,.nil]=some (.pdc (bH (aw up is) (PL.mem s))):=by
  have hi:evI G (kal G (n+6)) (.mth (.fld (.var 1) "source") "members" []) [.val (tabI CTb C lo up t),.val (ar CM C s up is),.nil,.nil]=some ((PL.mem s).map tupI):=by dsimp? [h1,e3]
  rw [ev,hi];dsimp only;rw [if_pos (by rfl)];have e0:bH (aw up is) []=[]:=rfl;rw [←e0,l8 (u:=aw up is) (PL.mem s) [] V.nd s9 fun x hx=>?_]
  ·rfl
  ·have m1:=qY (n:=n) E.M V.gu U.gu im (mem_iff.mp hx);have e5:=CB x;have e6:=tY x;have e7:ev G (kal G (n+6)) (.mth (.var 1) "led" [(.var 0)]) [.val (tupI x),.val (ar CM C s up is)]=some (tupI (aw up is x)):=by dsimp? [m1]
   show ll (ev G (kal G (n+6)) (.var 0) [.val (tupI x),.val (ar CM C s up is)]) (ev G (kal G (n+6)) (.mth (.var 1) "led" [(.var 0)]) [.val (tupI x),.val (ar CM C s up is)])=_;rw [e7];show ll (some (tupI x)) _=_;unfold ll;simp only [e5,e6,if_true];rfl
 have fr1:=sW (aw up is) (PL.mem s);refine st (ρ':=[.val (tabI CTb C lo up t),.val (ar CM C s up is),.owx (.d (bH (aw up is) (PL.mem s))),.nil]) (by simp only [af.eq_1,evV,aa,aH,List.modify_zero_cons,List.modify_succ_cons,k1,fr1];rfl) ?_;have k2:ev G (kal G (n+6)) (.bV 2 [2,0] (.tp [(.nm 0),(.nm 1)]) (.fn "pairs_of" [(.fld (.var 1) "source")]) (.tup [(.var 0),(.var 1)]) (.mth (.var 3) "carry_of" [(.ix (.var 2) (.var 0)),(.ix (.var 2) (.var 1))])) [.val (tabI CTb C lo up t),.val (ar CM C s up is),.val (.pdc (bH (aw up is) (PL.mem s))),.nil]=some (.pdc (ae (fun p=>t (aw up is p.1,aw up is p.2)) (prs (PL.mem s)))):=by
  refine sO (by dsimp? [h1,f3,e4]) rfl (ek V.nd) (by rw [eR];have:=Nat.mul_le_mul V.u9 V.u9;omega) (fun p hp=>⟨[.val (tupI p.1),.val (tupI p.2),.val (.pdc (bH (aw up is) (PL.mem s))),.val (tabI CTb C lo up t)],rfl,?_,?_⟩) fO fN
  ·have z2:(2:Nat)<=sizeLine:=by decide
   dsimp? [z2];rfl
  ·obtain ⟨hx,hy⟩:=gk hp;have i1:ixD (.pdc (bH (aw up is) (PL.mem s))) (tupI p.1)=some (tupI (aw up is p.1)):=by rw [xA,iI hx]
   have i2:ixD (.pdc (bH (aw up is) (PL.mem s))) (tupI p.2)=some (tupI (aw up is p.2)):=by rw [xA,iI hy]
   have m1:=qX (n:=n+5) (lo:=lo) (t:=t) E (led_in _ hx) (led_in _ hy);dsimp? [i1,i2,m1]
 have fr2:=jM (fun p=>t (aw up is p.1,aw up is p.2)) (prs (PL.mem s));refine st (ρ':=[.val (tabI CTb C lo up t),.val (ar CM C s up is),.owx (.d (bH (aw up is) (PL.mem s))),.owx (.d (ae (fun p=>t (aw up is p.1,aw up is p.2)) (prs (PL.mem s))))]) (by simp only [af.eq_1,evV,aa,aH,Ow.D,List.modify_zero_cons,List.modify_succ_cons,k2,fr2];rfl) ?_;have q:=k_ (n:=n+2) (lo:=lo) (up:=s) (es:=ae (fun p=>t (aw up is p.1,aw up is p.2)) (prs (PL.mem s))) (t:=fun p=>t (aw up is p.1,aw up is p.2)) E.K.T V (fun p hp=>cI hp) fun p hp=>ht _ (lC (led_in _ (gk hp).1) (led_in _ (gk hp).2));have g1:=E.K.T.fi.1;have g2:=E.K.T.fi.2;refine aR ?_;dsimp? [h1,h4,g1,g2,q]
end
section
variable {G:Prg} {C CG CTb CM NL NU CE:Addr} {n:Nat}
structure LPb (G:Prg):Prop extends LM0 G where
 all:G.defs "_law_all"=some (none,L.iY)
 EY:G.fn "_law_all"=some ("_law_all":Str)
 low:G.defs "_law_lower"=some (none,L.lower)
 Bu:G.fn "_law_lower"=some ("_law_lower":Str)
 upp:G.defs "_law_upper"=some (none,L.upper)
 Fd:G.fn "_law_upper"=some ("_law_upper":Str)
 sml:G.defs "_law_small"=some (none,L.small)
 Fb:G.fn "_law_small"=some ("_law_small":Str)
 tis:G.defs "_law_table_is"=some (none,L.h_)
 Fc:G.fn "_law_table_is"=some ("_law_table_is":Str)
 cas:G.defs "_law_carries"=some (none,L.d7)
 E1:G.fn "_law_carries"=some ("_law_carries":Str)
 ims:G.defs "_law_images"=some (none,L.kj)
 Bs:G.fn "_law_images"=some ("_law_images":Str)
theorem nA {key:Str} {sc:List Int} {cf:Int->Int} {at_:Int} {s g:List Int} (X:LPb G) (hd:G.defs key=some (none,L.kj)) (hc:∀k:Int,0<=k->k<=1000->kal G (n+2) "_law_spread" [.lst (sc.map .int),.int k]=some (.ok (.int (cf k)))) (h0:0<=at_∧at_<=200) (gs:Good s) (gg:Good g):
  kal G (n+3) key [.lst (sc.map .int),.int at_,tupI s,tupI g]=some (.fr (.l ((fW s g fun j=>cf (at_+j)).map tupI))):=by
 refine fz hd ⟨rfl,rfl⟩ (ρ0:=[.val (.lst (sc.map .int)),.val (.int at_),.val (tupI s),.val (tupI g)]) rfl (hW ?_);have f1:=X.qK;have f3:=X.qJ;have hb:cN .enum [tupI s]=some (s.zipIdx.map fun p=>D.tup [.int (p.2:Int),.int p.1]):=by rw [←md];rfl
 have k4:ev G (kal G (n+2)) (.comp 2 [1,3,0] (.tp [(.nm 0),(.nm 1)]) (.blt .enum [(.var 2)]) (.lit (.bl true)) (.emit (.fn "_law_image" [(.var 1),(.var 3),(.fn "_law_spread" [(.var 4),(.bin .add (.var 2) (.var 0))])]))) [.val (.lst (sc.map .int)),.val (.int at_),.val (tupI s),.val (tupI g)]=some (.lst ((fW s g fun j=>cf (at_+j)).map tupI)):=by
  unfold fW;rw [List.map_map];refine cj (g:=fun p:Int×Nat=>D.tup [.int (p.2:Int),.int p.1]) (by simp only [evI,evA,ev.eq_1,aJ,List.getElem?_cons_zero,List.getElem?_cons_succ,hb]) rfl (by rw [List.length_zipIdx];exact Gb gs.cW (by decide)) fun p hp=>⟨[.val (.int (p.2:Int)),.val (.int p.1),.val (.int at_),.val (tupI g),.val (.lst (sc.map .int))],rfl,?_⟩
  obtain ⟨m,i⟩:=p;have hi:s[i]?=some m:=List.mk_mem_zipIdx_iff_getElem?.mp hp;obtain ⟨hi1,hi2⟩:=FS.mp hi;have hm:m∈s:=hi2▸List.getElem_mem hi1;have y1:=gs.ge m hm;have y2:=gs.lt m hm;have c3:=hc (at_+(i:Int)) (by omega) (by have:=gs.len;omega);have e2:=x_ (n:=n) (m:=m) (c:=cf (at_+(i:Int))) (g:=g) X.img X.div X.fdiv X.dr X.fdr gg (by omega) (by omega);dsimp? [f1,f3,c3,e2];rfl
 simp only [af.eq_11,evV,aa,aH,List.modify_zero_cons,List.modify_succ_cons,k4]
theorem zk (h:p∈l):bf .nin (prD p) (.pdc (ae t l))=some false:=by
 have e1:=fO p;have e2:(PK.t [pkT p.1,pkT p.2]).dp<=8:=fN p;have e3:look (ae t l) (PK.t [pkT p.1,pkT p.2])=some (tupI (t p)):=cI h;show (match bU (prD p) with
  |some (.t l')=>if (PK.t l').dp<=8 then some (!(look (ae t l) (.t l')).isSome) else none
  |_=>none)=_
 rw [e1];dsimp only;rw [if_pos e2,e3];rfl
theorem pE {key:Str} {lo up:List Int} {t t2:Pr->List Int} (E:TE G C CG CTb CM) (X:LPb G) (hd:G.defs key=some (none,L.h_)) (U:LU lo up) (ht:∀p∈prs (PL.mem up),El lo (t p)) (he:∀p∈prs (PL.mem up),t p=t2 p):
  kal G (n+5) key [tabI CTb C lo up t,tupI lo,tupI up,.pdc (ae t2 (prs (PL.mem up)))]=some (.ok (.bl true)):=by
 refine ay hd ⟨rfl,rfl⟩ (ρ0:=[.val (tabI CTb C lo up t),.val (tupI lo),.val (tupI up),.val (.pdc (ae t2 (prs (PL.mem up)))),.nil,.nil]) rfl ?_;have g1:=E.gT;have g2:bR G (tabI CTb C lo up t) (.cl CTb)=some true:=E.kT;have h3:=kS (lo:=lo) (up:=up) (t:=t) E.K.T;have h4:=fF (lo:=lo) (up:=up) (t:=t) E.K.T;have y0:=fK (ns:=lo) E.M.A;have y1:=fK (ns:=up) E.M.A;have z0:∀r,bf .ne (tupI r) (tupI r)=some false:=fun r=>by rw [i4,Ge rfl];rfl
 refine st (ρ':=[.val (tabI CTb C lo up t),.val (tupI lo),.val (tupI up),.val (.pdc (ae t2 (prs (PL.mem up)))),.nil,.nil]) (by dsimp? [g1,g2,h3,h4,y0,y1,z0]) ?_;have hcr:=kE (lo:=lo) (up:=up) (t:=t) (ds:=[]) rfl E.K.vV (iq (n:=n+3) E.K U);have fr:=jM t (prs (PL.mem up));refine st (ρ':=[.val (tabI CTb C lo up t),.val (tupI lo),.val (tupI up),.val (.pdc (ae t2 (prs (PL.mem up)))),.owx (.d (ae t (prs (PL.mem up)))),.nil]) (by dsimp? [hcr,fr]) ?_;have g3:=E.gd;have g4:G.kit (.ty "dict") (.ty "dict")=some true:=by rw [E.M.A.kit "dict" (by decide) "dict" (by decide)];rfl
 have ln:∀u:Pr->List Int,(ae u (prs (PL.mem up))).length=(prs (PL.mem up)).length:=fun u=>by unfold ae;rw [F6]
 have dl:decide (((prs (PL.mem up)).length:Int)=((prs (PL.mem up)).length:Int))=true:=Ge rfl;refine st (ρ':=[.val (tabI CTb C lo up t),.val (tupI lo),.val (tupI up),.val (.pdc (ae t2 (prs (PL.mem up)))),.owx (.d (ae t (prs (PL.mem up)))),.nil]) (by dsimp? [g3,g4,ln,dl]) ?_;refine st (ρ':=[.val (tabI CTb C lo up t),.val (tupI lo),.val (tupI up),.val (.pdc (ae t2 (prs (PL.mem up)))),.owx (.d (ae t (prs (PL.mem up)))),.any]) (by rfl) ?_;have e0:(ae t2 (prs (PL.mem up))).map (fun p=>PK.d p.1)=(prs (PL.mem up)).map prD:=by unfold ae;rw [List.map_map];exact List.map_congr_left fun p _=>xP p
 refine st (cK (g:=prD) (fun _=>[.val (tabI CTb C lo up t),.val (tupI lo),.val (tupI up),.val (.pdc (ae t2 (prs (PL.mem up)))),.owx (.d (ae t (prs (PL.mem up)))),.any]) (prs (PL.mem up)) (by simp only [evI,aa,aH,List.modify_zero_cons,List.modify_succ_cons,aJ,List.getElem?_cons_succ,List.getElem?_cons_zero,qQ,e0]) rfl fun done p rest e=>?_) (aR (by rfl));have hp:p∈prs (PL.mem up):=by rw [e];simp
 obtain ⟨hx,hy⟩:=gk hp;refine ⟨[.val (tabI CTb C lo up t),.val (tupI lo),.val (tupI up),.val (.pdc (ae t2 (prs (PL.mem up)))),.owx (.d (ae t (prs (PL.mem up)))),.val (prD p)],rfl,?_⟩;have n1:=zk (t:=t) hp;have i1:ixD (.pdc (ae t (prs (PL.mem up)))) (prD p)=some (tupI (t p)):=by rw [kq,cI hp]
 have i2:ixD (.pdc (ae t2 (prs (PL.mem up)))) (prD p)=some (tupI (t p)):=by rw [kq,cI hp,he p hp]
 have a0:ixD (prD p) (.int 0)=some (tupI p.1):=rfl;have a1:ixD (prD p) (.int 1)=some (tupI p.2):=rfl;have f1:=X.E3;have hl:=(ht p hp).len;have s1:=Dz (n:=n+2) (ns:=lo) (f:=t p) (d:=t p) E.M.A X.isl X.whole X.Bx hl (by have:=U.gl.cW;omega);rw [Ge rfl] at s1;have m1:=Ea (n:=n) (lo:=lo) (t:=t) E U.gu hx hy;dsimp? [n1,i1,i2,a0,a1,f1,s1,m1,z0]
end
section
variable {G:Prg} {C CG CTb CM NL NU CE:Addr} {n:Nat}
noncomputable abbrev c9 (l pre:List (List Int)) (x:List Int) (pre2:List (List Int)):List Pr:=(pre.flatMap fun a=>l.map fun b=>(a,b))++pre2.map fun b=>(x,b)
theorem zQ {l pre rest pre2 rest2:List (List Int)} {x y:List Int} (hn:l.Nodup) (e1:l=pre++x::rest) (e2:l=pre2++y::rest2):(x,y)∉c9 l pre x pre2∧(c9 l pre x pre2).length<(prs l).length:=by
 obtain ⟨tl,e⟩:=ua e1 e2;have h:=ek hn;rw [e] at h;refine ⟨fun z=>(List.nodup_append.mp h).2.2 _ z _ Fa rfl,?_⟩;rw [e];simp only [List.length_append,List.length_cons];omega
theorem ig:∀(l:List (List Int)) (k:Nat),(l.zipIdx k).map (fun p=>p.1)=l
 |[],_=>rfl
 |a::l,k=>by rw [List.zipIdx_cons,List.map_cons,ig l]
theorem qo {l:List (List Int)} {done rest:List (List Int×Nat)} {p:List Int×Nat} (e:l.zipIdx=done++p::rest):l=done.map (·.1)++p.1::rest.map (·.1):=by
 have h:=congrArg (List.map fun p:List Int×Nat=>p.1) e;rw [ig,List.map_append,List.map_cons] at h;exact h
theorem uG {l:List (List Int)} {p:List Int×Nat} (h:p∈l.zipIdx):p.2<l.length:=by
 obtain ⟨x,i⟩:=p;exact (FS.mp (List.mk_mem_zipIdx_iff_getElem?.mp h)).1
theorem Dy {key:Str} {sc:List Int} {cf:Int->Int} {lo up:List Int} (X:LPb G) (hd:G.defs key=some (none,L.d7)) (hc:∀k:Int,0<=k->k<=1000->kal G (n+1) "_law_spread" [.lst (sc.map .int),.int k]=some (.ok (.int (cf k)))) (U:LU lo up):
  ∃t:Pr->List Int,kal G (n+2) key [.lst (sc.map .int),.int 10,tupI lo,tupI up]=some (.fr (.d (ae t (prs (PL.mem up)))))∧∀p∈prs (PL.mem up),El lo (t p):=by
 have fa:=X.EY;have ha:=Dw (n:=n) X.all U.gu U.fu;have f1:=X.qK;have f2:=X.fdr;have u9:=U.u9;have hen:cN .enum [.lst ((PL.mem up).map tupI)]=some ((PL.mem up).zipIdx.map fun p=>D.tup [.int (p.2:Int),tupI p.1]):=by rw [←vC];rfl
 obtain ⟨ρ',h1,t,h2,h3⟩:=uh (G:=G) (cl:=kal G (n+1)) (t:=.tp [(.nm 5),(.nm 6)]) (g:=fun p:List Int×Nat=>D.tup [.int (p.2:Int),tupI p.1]) (it:=.blt .enum [(.fn "_law_all" [(.var 3)])]) (L:=[3]) (ρ:=[.val (.lst (sc.map .int)),.val (.int 10),.val (tupI lo),.val (tupI up),.owx (.d []),.any,.any,.any,.any])
  (b:=[(.fgt [7,8]),(.for (.tp [(.nm 7),(.nm 8)]) (.blt .enum [(.fn "_law_all" [(.var 3)])]) [3] [(.put 4 (.tup [(.var 6),(.var 8)]) (.fn "_law_drawn" [(.var 2),(.bin .fdiv (.fn "_law_spread" [(.var 0),(.bin .add (.bin .add (.var 1) (.bin .mul (.lit (.int 9)) (.var 5))) (.var 7))]) (.bin .add (.bin .add (.lit (.int 1)) (.var 7)) (.var 5)))]) [6,8,2,0,1,7,5]),(.fgt [7,8])]),(.fgt [5,6,7,8])])
  (fun done ρ=>∃t,ρ=[.val (.lst (sc.map .int)),.val (.int 10),.val (tupI lo),.val (tupI up),.owx (.d (ae t ((done.map (·.1)).flatMap fun a=>(PL.mem up).map fun b=>(a,b)))),.any,.any,.any,.any]∧∀p∈((done.map (·.1)).flatMap fun a=>(PL.mem up).map fun b=>(a,b)),El lo (t p)) (PL.mem up).zipIdx
  (by dsimp? [fa,ha,hen]) rfl ⟨fun _=>[],rfl,fun p hp=>by cases hp⟩
  fun done p rest ρ e ⟨t1,hρ,hE⟩=>by
   subst hρ;obtain ⟨x,k⟩:=p;have hk:=uG (show (x,k)∈(PL.mem up).zipIdx by rw [e];simp);have e1:PL.mem up=done.map (·.1)++x::rest.map (·.1):=qo e;have e00:c9 (PL.mem up) (done.map (·.1)) x (([]:List (List Int×Nat)).map (·.1))=(done.map (·.1)).flatMap fun a=>(PL.mem up).map fun b=>(a,b):=List.append_nil _;obtain ⟨ρ2,g1,t2,g2,g3⟩:=uh (G:=G) (cl:=kal G (n+1)) (t:=.tp [(.nm 7),(.nm 8)]) (g:=fun p:List Int×Nat=>D.tup [.int (p.2:Int),tupI p.1]) (it:=.blt .enum [(.fn "_law_all" [(.var 3)])]) (L:=[3]) (ρ:=[.val (.lst (sc.map .int)),.val (.int 10),.val (tupI lo),.val (tupI up),.owx (.d (ae t1 ((done.map (·.1)).flatMap fun a=>(PL.mem up).map fun b=>(a,b)))),.val (.int (k:Int)),.val (tupI x),.any,.any])
    (b:=[(.put 4 (.tup [(.var 6),(.var 8)]) (.fn "_law_drawn" [(.var 2),(.bin .fdiv (.fn "_law_spread" [(.var 0),(.bin .add (.bin .add (.var 1) (.bin .mul (.lit (.int 9)) (.var 5))) (.var 7))]) (.bin .add (.bin .add (.lit (.int 1)) (.var 7)) (.var 5)))]) [6,8,2,0,1,7,5]),(.fgt [7,8])])
    (fun done2 ρ=>∃t,ρ=[.val (.lst (sc.map .int)),.val (.int 10),.val (tupI lo),.val (tupI up),.owx (.d (ae t (c9 (PL.mem up) (done.map (·.1)) x (done2.map (·.1))))),.val (.int (k:Int)),.val (tupI x),.any,.any]∧∀p∈c9 (PL.mem up) (done.map (·.1)) x (done2.map (·.1)),El lo (t p)) (PL.mem up).zipIdx
    (by dsimp? [fa,ha,hen]) (ρ0:=[.val (.lst (sc.map .int)),.val (.int 10),.val (tupI lo),.val (tupI up),.owx (.d (ae t1 ((done.map (·.1)).flatMap fun a=>(PL.mem up).map fun b=>(a,b)))),.val (.int (k:Int)),.val (tupI x),.any,.any]) rfl ⟨t1,by rw [e00],by rw [e00];exact hE⟩
    fun done2 p2 rest2 ρ ee ⟨t2,hρ2,hE2⟩=>by
     subst hρ2;obtain ⟨y,j⟩:=p2;have hj:=uG (show (y,j)∈(PL.mem up).zipIdx by rw [ee];simp);have e2:PL.mem up=done2.map (·.1)++y::rest2.map (·.1):=qo ee;obtain ⟨hn,hlt⟩:=zQ U.nd e1 e2;have c3:=hc (10+9*(k:Int)+(j:Int)) (by omega) (by omega);have d1:0<(1+(j:Int)+(k:Int))∧(1+(j:Int)+(k:Int)).toNat<1073741824:=⟨by omega,by omega⟩
     have c4:=rS (n:=n) (ns:=lo) (c:=cf (10+9*(k:Int)+(j:Int)) / (1+(j:Int)+(k:Int))) X.dr U.gl;have hv:El lo (elI lo (cf (10+9*(k:Int)+(j:Int)) / (1+(j:Int)+(k:Int)))):=Bj U.gl.g2;generalize elI lo (cf (10+9*(k:Int)+(j:Int)) / (1+(j:Int)+(k:Int)))=v at c4 hv;have m9:bO 9 (k:Int)=true:=eQ (by omega);have g4:=fO (x,y);have g8:(PK.t [pkT x,pkT y]).dp<=8:=fN (x,y);have g9:dZ (ae t2 (c9 (PL.mem up) (done.map (·.1)) x (done2.map (·.1)))) (PK.t [pkT x,pkT y]) (tupI v)=ae (ic t2 (x,y) v) (c9 (PL.mem up) (done.map (·.1)) x (done2.map (·.1))++[(x,y)]):=Ai hn;have g6:(ae t2 (c9 (PL.mem up) (done.map (·.1)) x (done2.map (·.1)))).length<sizeLine:=by
      unfold ae;rw [F6];rw [eR] at hlt;have:=Nat.mul_le_mul u9 u9;exact Ga (show _<=1000 by omega) (by decide)
     have g7:=bY v;have hz2:(2:Nat)<=sizeLine:=by decide
     have ex:c9 (PL.mem up) (done.map (·.1)) x ((done2++[(y,j)]).map (·.1))=c9 (PL.mem up) (done.map (·.1)) x (done2.map (·.1))++[(x,y)]:=by
      unfold c9;rw [List.map_append,List.map_append,F8];rfl
     refine ⟨[.val (.lst (sc.map .int)),.val (.int 10),.val (tupI lo),.val (tupI up),.owx (.d (ae t2 (c9 (PL.mem up) (done.map (·.1)) x (done2.map (·.1))))),.val (.int (k:Int)),.val (tupI x),.val (.int (j:Int)),.val (tupI y)],_,rfl,?_,ic t2 (x,y) v,by rw [ex],?_⟩
     ·refine st (ρ':=[.val (.lst (sc.map .int)),.val (.int 10),.val (tupI lo),.val (tupI up),.owx (.d (ae (ic t2 (x,y) v) (c9 (PL.mem up) (done.map (·.1)) x (done2.map (·.1))++[(x,y)]))),.val (.int (k:Int)),.val (tupI x),.val (.int (j:Int)),.val (tupI y)]) ?_ (st (by rfl) bc);simp? [af.eq_5,evA,ev.eq_1,ev.eq_2,ev.eq_4,ev.eq_14,ev.eq_20,hz2,gC,m9,d1,and_self,fnR,f1,f2,c3,c4,iU,g7,g4,g8,g6,g9]
     ·rw [ex];intro q hq;unfold ic;split
      ·exact hv
      ·rename_i hne;rcases Fk.mp hq with z|z
       ·exact hE2 q z
       ·exact absurd (FM.mp z) hne
   subst g2;have zf:(PL.mem up).zipIdx.map (·.1)=PL.mem up:=ig _ 0;have ex:((done++[(x,k)]).map (·.1)).flatMap (fun a=>(PL.mem up).map fun b=>(a,b))=c9 (PL.mem up) (done.map (·.1)) x ((PL.mem up).zipIdx.map (·.1)):=by
    rw [zf];unfold c9;rw [List.map_append,List.flatMap_append];simp
   refine ⟨[.val (.lst (sc.map .int)),.val (.int 10),.val (tupI lo),.val (tupI up),.owx (.d (ae t1 ((done.map (·.1)).flatMap fun a=>(PL.mem up).map fun b=>(a,b)))),.val (.int (k:Int)),.val (tupI x),.any,.any],_,rfl,st (ρ':=[.val (.lst (sc.map .int)),.val (.int 10),.val (tupI lo),.val (tupI up),.owx (.d (ae t1 ((done.map (·.1)).flatMap fun a=>(PL.mem up).map fun b=>(a,b)))),.val (.int (k:Int)),.val (tupI x),.any,.any]) (by rfl) (st g1 (st (by rfl) bc)),t2,by rw [ex];rfl,by rw [ex];exact g3⟩
 have zf:(PL.mem up).zipIdx.map (·.1)=PL.mem up:=ig _ 0;rw [zf] at h2 h3;subst h2;refine ⟨t,fz hd ⟨rfl,rfl⟩ (ρ0:=[.val (.lst (sc.map .int)),.val (.int 10),.val (tupI lo),.val (tupI up),.nil,.nil,.nil,.nil,.nil]) rfl ?_,h3⟩;exact st (ρ':=[.val (.lst (sc.map .int)),.val (.int 10),.val (tupI lo),.val (tupI up),.owx (.d []),.nil,.nil,.nil,.nil]) rfl (st (by rfl) (st h1 (hW (by rfl))))
end
section
variable {G:Prg} {C CG CTb CM NL NU CE:Addr} {n:Nat}
noncomputable abbrev alo (up:List Int) (is:List (List Int)) (t:Pr->List Int):Pr->List Int:=fun p=>t (aw up is p.1,aw up is p.2)
end
section
variable {G:Prg} {C CG CTb CM NL NU CE:Addr} {n:Nat}
theorem vS {lo up:List Int} {t:Pr->List Int}:ak (tabI CTb C lo up t)=false:=by
 show (ak (grp C lo)&&(ak (grp C up)&&(false&&true)))=false;rw [ej,ej];rfl
theorem Ax {lo up s:List Int} {is:List (List Int)} {t:Pr->List Int} (gu:Good up) (im:Im s up is) (ht:∀p∈prs (PL.mem up),El lo (t p)):∀p∈prs (PL.mem s),El lo (alo up is t p):=fun p hp=>
 ht _ (lC (mem_iff.mpr (bS gu.g2 im.el _)) (mem_iff.mpr (bS gu.g2 im.el _)))
theorem uv (gu:Good up) (h9:prod up<=9):apart ((ae t (prs (PL.mem up))).map fun q=>q.1.hs)=true:=by
 have:=F7.mp mG up (o8 gu.ge h9);unfold hashesOf at this;unfold ae;rw [List.map_map];exact this
end
section
variable {G:Prg} {C CG CTb CM NL NU CE:Addr} {n:Nat}
structure TP (G:Prg):Prop where
 psh:G.defs "pushed"=some (none,P.oP)
 vF:G.fn "pushed"=some ("pushed":Str)
 ovl:G.defs "over_like"=some (none,P.iR)
 E7:G.fn "over_like"=some ("over_like":Str)
 ali:G.defs "alike"=some (none,P.alike)
 EX:G.fn "alike"=some ("alike":Str)
theorem uQ (T:TB G C CG CTb) (g:Good ns) (hp:16<prod ns) (hx:G.exc "NoLower"=some (NU,[])):kal G (n+3) "need_lower" [grp C ns]=some (.xc (.exc NU [])):=by
 refine ku T.nl ⟨rfl,rfl⟩ (ρ0:=[.val (grp C ns)]) rfl (ρ:=[.val (grp C ns)]) ?_;have h1:=T.cG;have h2:bR G (grp C ns) (.cl CG)=some true:=T.kG;have h3:=oA (n:=n+1) (ns:=ns) T.B;have h4:=jQ (n:=n) T.B g (nZ g.ge g.le);have h5:=T.ml;have h6:decide ((16:Int)<((PL.mem ns).length:Int))=true:=Ge (by have:=dE g.ge;omega);have k0:(0:Nat)<=1000:=by decide
 unfold P.eM;dsimp? [h1,h2,h3,h4,h5,h6,hx,k0]
 try rfl
noncomputable abbrev beh (g:List Int) (is:List (List Int)) (t:Pr->List Int):Pr->List Int:=fun p=>aw g is (t p)
theorem gG {lo up g:List Int} {is:List (List Int)} {t:Pr->List Int} (E:TE G C CG CTb CM) (Z:TP G) (U:LU lo up) (V:LU g up) (im:Im lo g is) (ht:∀p∈prs (PL.mem up),El lo (t p)):
  kal G (n+7) "pushed" [tabI CTb C lo up t,ar CM C lo g is]=some (.ok (tabI CTb C g up (beh g is t))):=by
 refine ay Z.psh ⟨rfl,rfl⟩ (ρ0:=[.val (tabI CTb C lo up t),.val (ar CM C lo g is)]) rfl ?_;have h1:=fh (s:=lo) (g:=g) (is:=is) E.M;have h2:=eP (s:=lo) (g:=g) (is:=is) E.M;have h3:=kS (lo:=lo) (up:=up) (t:=t) E.K.T;have h4:=fF (lo:=lo) (up:=up) (t:=t) E.K.T;have f1:=E.B.fnl;have f2:=E.K.T.fnl;have f3:=E.K.T.fpr;have e1:=qA (n:=n+4) (a:=lo) E.M E.B;have e2:=pB (n:=n+3) E.K.T V.gl V.fl V.l16;have e4:=k9 (n:=n+4) E.K.T U.gu U.fu U.u9;refine st (ρ':=[.val (tabI CTb C lo up t),.val (ar CM C lo g is)]) (by dsimp? [h1,h4,f1,e1]) ?_;refine st (ρ':=[.val (tabI CTb C lo up t),.val (ar CM C lo g is)]) (by dsimp? [h2,f2,e2]) ?_;have k2:ev G (kal G (n+6)) (.bV 2 [0,1] (.tp [(.nm 0),(.nm 1)]) (.fn "pairs_of" [(.fld (.var 0) "upper")]) (.tup [(.var 0),(.var 1)]) (.mth (.var 3) "led" [(.mth (.var 2) "carry_of" [(.var 0),(.var 1)])])) [.val (tabI CTb C lo up t),.val (ar CM C lo g is)]=some (.pdc (ae (beh g is t) (prs (PL.mem up)))):=by
  refine sO (by dsimp? [h3,f3,e4]) rfl (ek U.nd) (by rw [eR];have:=Nat.mul_le_mul U.u9 U.u9;omega) (fun p hp=>⟨[.val (tupI p.1),.val (tupI p.2),.val (tabI CTb C lo up t),.val (ar CM C lo g is)],rfl,?_,?_⟩) fO fN
  ·have z2:(2:Nat)<=sizeLine:=by decide
   dsimp? [z2];rfl
  ·obtain ⟨hx,hy⟩:=gk hp;have m1:=qX (n:=n+5) (lo:=lo) (t:=t) E hx hy;have m2:=qY (n:=n) E.M U.gl V.gl im (ht p hp);dsimp? [m1,m2]
 have q:=k_ (n:=n+2) (lo:=g) (up:=up) (es:=ae (beh g is t) (prs (PL.mem up))) (t:=beh g is t) E.K.T V (fun p hp=>cI hp) fun p hp=>bS V.gl.g2 im.el _;have g1:=E.K.T.fi.1;have g2:=E.K.T.fi.2;refine aR ?_;dsimp? [h2,h3,k2,g1,g2,q]
theorem rY {lo up s g:List Int} {is:List (List Int)} {t:Pr->List Int} (E:TE G C CG CTb CM) (Z:TP G) (hx:G.exc "NotLike"=some (NL,[])) (h:s≠lo):kal G (n+3) "pushed" [tabI CTb C lo up t,ar CM C s g is]=some (.xc (.exc NL [])):=by
 refine ku Z.psh ⟨rfl,rfl⟩ (ρ0:=[.val (tabI CTb C lo up t),.val (ar CM C s g is)]) rfl (ρ:=[.val (tabI CTb C lo up t),.val (ar CM C s g is)]) (xT ?_);have h1:=fh (s:=s) (g:=g) (is:=is) E.M;have h4:=fF (lo:=lo) (up:=up) (t:=t) E.K.T;have f1:=E.B.fnl;have e1:=DH (n:=n) (a:=s) (b:=lo) E.M E.B hx h;dsimp? [h1,h4,f1,e1]
theorem rX {lo up g:List Int} {is:List (List Int)} {t:Pr->List Int} (E:TE G C CG CTb CM) (Z:TP G) (hx:G.exc "NoLower"=some (NU,[])) (gg:Good g) (hp:16<prod g):kal G (n+4) "pushed" [tabI CTb C lo up t,ar CM C lo g is]=some (.xc (.exc NU [])):=by
 refine ku Z.psh ⟨rfl,rfl⟩ (ρ0:=[.val (tabI CTb C lo up t),.val (ar CM C lo g is)]) rfl (ρ:=[.val (tabI CTb C lo up t),.val (ar CM C lo g is)]) ?_;have h1:=fh (s:=lo) (g:=g) (is:=is) E.M;have h2:=eP (s:=lo) (g:=g) (is:=is) E.M;have h4:=fF (lo:=lo) (up:=up) (t:=t) E.K.T;have f1:=E.B.fnl;have f2:=E.K.T.fnl;have e1:=qA (n:=n+1) (a:=lo) E.M E.B;have e2:=uQ (n:=n) E.K.T gg hp hx;refine st (ρ':=[.val (tabI CTb C lo up t),.val (ar CM C lo g is)]) (by dsimp? [h1,h4,f1,e1]) (xT ?_);dsimp? [h2,f2,e2]
theorem pD (hd:G.defs key=some (none,L.d9)) (fp:G.fn "pushed"=some ("pushed":Str)) (h:kal G n "pushed" [a,b]=some (.xc (.exc X []))) (hg:G.glob "CarryError"=some (.cl CE)) (hs:G.sub X CE=some true)
  (hk:∀a b:D,ev G (kal G n) (.cmp .eq (.fn "_law_kinds" [(.var 3)]) (.fn "_law_class" [(.var 2)])) [.val a,.val b,.val (.str w),.val (.exc X []),.nil]=some (.bl true)):kal G (n+1) key [a,b,.str w]=some (.ok (.bl true)):=by
 refine ay hd ⟨rfl,rfl⟩ (ρ0:=[.val a,.val b,.val (.str w),.nil,.nil]) rfl ?_;refine st (ρ':=[.val a,.val b,.val (.str w),.val .non,.nil]) (by rfl) ?_;refine st (ρ':=[.val a,.val b,.val (.str w),.val (.exc X []),.nil]) ?_ (aR ?_)
 ·have e1:IN.run G (kal G n) [(.exp (.fn "pushed" [(.var 0),(.var 1)]) [0,1])] [.val a,.val b,.val (.str w),.val .non,.nil]=some (.xc [.val a,.val b,.val (.str w),.val .non,.nil] (.exc X [])):=by dsimp? [fp,h]
  rw [af.eq_17,e1];dsimp? [hg,hs]
 ·have e2:=hk a b;have e3:dD (.exc X [])=false:=rfl;simp only [af.eq_11,evV,ev.eq_7,ev.eq_11,evT,aa,aH,List.modify_zero_cons,List.modify_succ_cons,ev.eq_1,aJ,List.getElem?_cons_zero,List.getElem?_cons_succ,e2,e3,Bool.not_false]
theorem i3 {key:Str} {sc:List Int} {cf:Int->Int} {at_:Int} {s g:List Int} (X:LPb G) (E:TE G C CG CTb CM) (hd:G.defs key=some (none,L.map)) (hc:∀k:Int,0<=k->k<=1000->kal G (n+6) "_law_spread" [.lst (sc.map .int),.int k]=some (.ok (.int (cf k)))) (h0:0<=at_∧at_<=200) (gs:Good s) (gg:Good g):
  kal G (n+8) key [.lst (sc.map .int),.int at_,tupI s,tupI g]=some (.ok (ar CM C s g (fW s g fun j=>cf (at_+j)))):=by
 refine ay hd ⟨rfl,rfl⟩ (ρ0:=[.val (.lst (sc.map .int)),.val (.int at_),.val (tupI s),.val (tupI g)]) rfl (aR ?_);have fi1:=E.M.A.fi.1;have fi2:=E.M.A.fi.2;have fm1:=E.M.fmi.1;have fm2:=E.M.fmi.2;have f1:=X.Bs;have im:=kP (a:=s) gg.g2 fun j=>cf (at_+j);have c1:=nA (n:=n+4) (at_:=at_) X X.ims hc h0 gs gg;have o0:=ir (n:=n+4) (t:=tupI s) E.M.A rfl gs;have o1:=ir (n:=n+4) (t:=tupI g) E.M.A rfl gg;have p0:=k8 (n:=n) E.M gs gg im;dsimp? [fi1,fi2,fm1,fm2,f1,o0,o1,c1,p0]
theorem C8 (he:∀p∈l,t p=t2 p):bf .eq (.pdc (ae t l)) (.pdc (ae t2 l))=some true:=by
 have e0:ae t2 l=ae t l:=List.map_congr_left fun p hp=>by rw [he p hp]
 have e1:((ae t l).all fun p=>eqV p.2)=true:=by
  unfold ae;rw [List.all_map];refine F7.mpr fun p _=>?_;show (bu (tupI _)&&decide ((toPy (tupI _)).depth<=32))=true;rw [gS,gI];rfl
 have e2:nX (ae t l) (ae t l)=true:=by
  unfold nX;refine F7.mpr fun q hq=>?_;obtain ⟨p,hp,rfl⟩:=FB.mp hq;dsimp only;rw [cI hp];show eqD _ _=true;rw [gL];exact Ge rfl
 rw [e0];show (if ((ae t l).all fun p=>eqV p.2)&&((ae t l).all fun p=>eqV p.2) then some ((ae t l).length==(ae t l).length&&nX (ae t l) (ae t l)) else none)=_;rw [e1,e2,beq_self_eq_true];rfl
theorem pA {lo up:List Int} {t t2:Pr->List Int} (E:TE G C CG CTb CM) (Z:TP G) (U:LU lo up) (he:∀p∈prs (PL.mem up),t p=t2 p):kal G (n+3) "alike" [tabI CTb C lo up t,tabI CTb C lo up t2]=some (.ok (.bl true)):=by
 have o:kal G (n+2) "over_like" [tabI CTb C lo up t,tabI CTb C lo up t2]=some (.ok (.bl true)):=by
  refine ay Z.ovl ⟨rfl,rfl⟩ (ρ0:=[.val (tabI CTb C lo up t),.val (tabI CTb C lo up t2)]) rfl (aR ?_);have h3:=fun t=>kS (lo:=lo) (up:=up) (t:=t) E.K.T;have h4:=fun t=>fF (lo:=lo) (up:=up) (t:=t) E.K.T;have m1:=kB (n:=n) (a:=lo) (b:=lo) E.M.toGM;have m2:=kB (n:=n) (a:=up) (b:=up) E.M.toGM;rw [Ge rfl] at m1 m2;dsimp? [h3,h4,m1,m2]
 refine ay Z.ali ⟨rfl,rfl⟩ (ρ0:=[.val (tabI CTb C lo up t),.val (tabI CTb C lo up t2)]) rfl (aR ?_);have f1:=Z.E7;have c1:=kE (lo:=lo) (up:=up) (t:=t) (ds:=[]) rfl E.K.vV (iq (n:=n+1) E.K U);have c2:=kE (lo:=lo) (up:=up) (t:=t2) (ds:=[]) rfl E.K.vV (iq (n:=n+1) E.K U);have q:=C8 he;dsimp? [f1,o,c1,c2,q]
end
section
variable {G:Prg} {C CG CTb CM NL NU CE:Addr} {n:Nat}
noncomputable def vH:List (List Int):=[[17],[2,9],[20],[5,5]]
theorem sY:∀ns∈vH,Good ns∧16<prod ns:=by
 intro ns h;simp only [vH,List.mem_cons,List.not_mem_nil,or_false] at h;rcases h with rfl|rfl|rfl|rfl<;>exact ⟨⟨by decide,by decide,by decide,by decide⟩,by decide⟩
structure LQ (G:Prg):Prop extends LPb G where
 ref:G.defs "_law_refused"=some (none,L.d9)
 E_:G.fn "_law_refused"=some ("_law_refused":Str)
 mp:G.defs "_law_map"=some (none,L.map)
 fmp:G.fn "_law_map"=some ("_law_map":Str)
 wro:G.defs "_law_wrongs"=some (none,L.kW)
 Fe:G.fn "_law_wrongs"=some ("_law_wrongs":Str)
theorem uV {key:Str} (hd:G.defs key=some (none,L.kW)) (X:LQ G) (E:TE G C CG CTb CM) (Z:TP G) {sc:List Int} {cf cf9:Int->Int} (hc:∀k:Int,0<=k->k<=1000->kal G (n+7) "_law_spread" [.lst (sc.map .int),.int k]=some (.ok (.int (cf k))))
  (hc9:∀k:Int,0<=k->k<=1000->kal G (n+9) "_law_spread" [.lst (sc.map .int),.int k]=some (.ok (.int (cf9 k)))) (hx:G.exc "NotLike"=some (NL,[])) (hxu:G.exc "NoLower"=some (NU,[])) (hg:G.glob "CarryError"=some (.cl CE)) (hs:G.sub NL CE=some true) (hsu:G.sub NU CE=some true)
  (hk:∀a b:D,ev G (kal G (n+8)) (.cmp .eq (.fn "_law_kinds" [(.var 3)]) (.fn "_law_class" [(.var 2)])) [.val a,.val b,.val (.str "NotLike"),.val (.exc NL []),.nil]=some (.bl true))
  (hku:∀a b:D,ev G (kal G (n+8)) (.cmp .eq (.fn "_law_kinds" [(.var 3)]) (.fn "_law_class" [(.var 2)])) [.val a,.val b,.val (.str "NoLower"),.val (.exc NU []),.nil]=some (.bl true))
  {lo up:List Int} {t:Pr->List Int} (gl:Good lo):kal G (n+10) key [.lst (sc.map .int),tabI CTb C lo up t,tupI lo]=some (.ok (.bl true)):=by
 refine ay hd ⟨rfl,rfl⟩ (ρ0:=[.val (.lst (sc.map .int)),.val (tabI CTb C lo up t),.val (tupI lo),.nil,.nil,.nil]) rfl ?_;have f1:=X.qK;have f2:=X.Bu;have f3:=X.E_;have f4:=X.fmp;have c3:=hc9 3 (by decide) (by decide);have c4:=hc9 4 (by decide) (by decide);obtain ⟨gr,hgr,w3⟩:=j7 (l:=vH) (j:=cf9 3%4) (Gj _ (by decide)) (Gk _ (by decide));obtain ⟨so,hso,w4⟩:=iZ (n:=n+8) (c:=cf9 4) X.low;obtain ⟨gg,pg⟩:=sY _ hgr;obtain ⟨gs,_⟩:=eg _ hso;have w3':atI [.tup [.int 17],.tup [.int 2,.int 9],.tup [.int 20],.tup [.int 5,.int 5]] (cf9 3%4)=some (tupI gr):=w3;have z1:(1:Nat)<=sizeLine:=by decide
 have z2:(2:Nat)<=sizeLine:=by decide
 have z4:(4:Nat)<=sizeLine:=by decide
 have t4:(0:Int)<4:=by decide
 refine st (ρ':=[.val (.lst (sc.map .int)),.val (tabI CTb C lo up t),.val (tupI lo),.val (tupI gr),.nil,.nil]) (by dsimp? [f1,c3,t4,z1,z2,z4,w3']) ?_;refine st (ρ':=[.val (.lst (sc.map .int)),.val (tabI CTb C lo up t),.val (tupI lo),.val (tupI gr),.val (tupI so),.nil]) (by dsimp? [f1,f2,c4,w4]) ?_;have last:∀S,IN.run G (kal G (n+9)) [(.ret (.fn "_law_refused" [(.var 1),(.fn "_law_map" [(.var 0),(.lit (.int 5)),(.var 2),(.var 3)]),(.lit (.str "NoLower"))]) [1,0,2,3])] [.val (.lst (sc.map .int)),.val (tabI CTb C lo up t),.val (tupI lo),.val (tupI gr),.val (tupI so),S]=some (.rt (.bl true)):=fun S=>by
  have m1:=i3 (n:=n+1) (at_:=5) X.toLPb E X.mp hc (by decide) gl gg;have r1:=pD (n:=n+8) (w:="NoLower") X.ref Z.vF (rX (n:=n+4) (lo:=lo) (up:=up) (g:=gr) (is:=fW lo gr fun j=>cf (5+j)) (t:=t) E Z hxu gg pg) hg hsu hku;refine aR ?_;dsimp? [f3,f4,m1,r1]
 by_cases h:so=lo
 ·have d1:bf .ne (tupI so) (tupI lo)=some false:=by rw [i4,Ge h];rfl
  exact st (ρ':=[.val (.lst (sc.map .int)),.val (tabI CTb C lo up t),.val (tupI lo),.val (tupI gr),.val (tupI so),.nil]) (by dsimp? [d1]) (last _)
 ·have d1:bf .ne (tupI so) (tupI lo)=some true:=by rw [i4,Gf h];rfl
  have g2:Good [2]:=(eg [2] (by simp [lows])).1;have lp:IN.af G (kal G (n+9)) (.for (.nm 5) (.tup [(.tup [(.lit (.int 2))]),(.var 3)]) [3] [(.ife (.nt (.fn "_law_refused" [(.var 1),(.fn "_law_map" [(.var 0),(.lit (.int 5)),(.var 4),(.var 5)]),(.lit (.str "NotLike"))])) [1,0,4,5] [(.ret (.lit (.bl false)) [])] []),(.fgt [5])]) [.val (.lst (sc.map .int)),.val (tabI CTb C lo up t),.val (tupI lo),.val (tupI gr),.val (tupI so),.any]=some (.nx [.val (.lst (sc.map .int)),.val (tabI CTb C lo up t),.val (tupI lo),.val (tupI gr),.val (tupI so),.any]):=by
   refine cK (g:=tupI) (fun _=>[.val (.lst (sc.map .int)),.val (tabI CTb C lo up t),.val (tupI lo),.val (tupI gr),.val (tupI so),.any]) [[2],gr] (by dsimp? [z1,z2];rfl) rfl fun done b rest e=>?_;have hb:Good b:=by
    have:b∈[[2],gr]:=by rw [e];simp
    simp only [List.mem_cons,List.not_mem_nil,or_false] at this;rcases this with rfl|rfl
    ·exact g2
    ·exact gg
   have m1:=i3 (n:=n+1) (at_:=5) X.toLPb E X.mp hc (by decide) gs hb;have r1:=pD (n:=n+8) (w:="NotLike") X.ref Z.vF (rY (n:=n+5) (lo:=lo) (up:=up) (s:=so) (g:=b) (is:=fW so b fun j=>cf (5+j)) (t:=t) E Z hx h) hg hs hk;refine ⟨[.val (.lst (sc.map .int)),.val (tabI CTb C lo up t),.val (tupI lo),.val (tupI gr),.val (tupI so),.val (tupI b)],rfl,?_⟩;dsimp? [f3,f4,m1,r1]
  refine st (ρ':=[.val (.lst (sc.map .int)),.val (tabI CTb C lo up t),.val (tupI lo),.val (tupI gr),.val (tupI so),.any]) ?_ (last _);have hc2:evT G (kal G (n+9)) (.cmp .ne (.var 4) (.var 2)) (aa [4,2] [.val (.lst (sc.map .int)),.val (tabI CTb C lo up t),.val (tupI lo),.val (tupI gr),.val (tupI so),.nil])=some true:=by dsimp? [d1]
  rw [af.eq_13,hc2];exact st (ρ':=[.val (.lst (sc.map .int)),.val (tabI CTb C lo up t),.val (tupI lo),.val (tupI gr),.val (tupI so),.any]) (by rfl) (st lp bc)
end
section
variable {G:Prg} {C CG CTb CM NL NU CE:Addr} {n:Nat}
noncomputable abbrev q54 (sc lo up g:List Int) (C CTb:Addr) (t:Pr->List Int) (T:Rho):Rho:=.val (.lst (sc.map .int))::.val (tupI lo)::.val (tupI up)::.val (tupI g)::.val (.pdc (ae t (prs (PL.mem up))))::.val (tabI CTb C lo up t)::T
noncomputable abbrev p54 (lo up g:List Int) (C CTb CM:Addr) (t:Pr->List Int) (i0:List (List Int)) (T:Rho):Rho:=.owx (.l (i0.map tupI))::.val (ar CM C lo g i0)::.owx (.d (ae (beh g i0 t) (prs (PL.mem up))))::.any::T
theorem AA {lo up g:List Int} {is:List (List Int)} {t:Pr->List Int} (gg:Good g) (im:Im lo g is):∀p∈prs (PL.mem up),El g (beh g is t p):=fun p _=>bS gg.g2 im.el _
theorem ya {key:Str} {sc:List Int} (hd:G.defs key=some (none,L.lz)) (hl:sc.length<=63) (X:LQ G) (E:TE G C CG CTb CM) (Z:TP G) (hx:G.exc "NotLike"=some (NL,[])) (hxu:G.exc "NoLower"=some (NU,[])) (hg:G.glob "CarryError"=some (.cl CE)) (hs:G.sub NL CE=some true) (hsu:G.sub NU CE=some true)
  (hk:∀a b:D,ev G (kal G (n+8)) (.cmp .eq (.fn "_law_kinds" [(.var 3)]) (.fn "_law_class" [(.var 2)])) [.val a,.val b,.val (.str "NotLike"),.val (.exc NL []),.nil]=some (.bl true))
  (hku:∀a b:D,ev G (kal G (n+8)) (.cmp .eq (.fn "_law_kinds" [(.var 3)]) (.fn "_law_class" [(.var 2)])) [.val a,.val b,.val (.str "NoLower"),.val (.exc NU []),.nil]=some (.bl true)):
  kal G (n+11) key [.lst (sc.map .int)]=some (.ok (.bl true)):=by
 have mk:∀m:Nat,∃cf:Int->Int,∀k:Int,0<=k->k<=1000->kal G (m+1) "_law_spread" [.lst (sc.map .int),.int k]=some (.ok (.int (cf k))):=fun m=>
  ⟨fun k=>if h:0<=k∧k<=1000 then (nD (n:=m) (sc:=sc) X.spr hl h).choose else 0,fun k h1 h2=>by
   dsimp only;rw [dif_pos ⟨h1,h2⟩];exact (nD (n:=m) (sc:=sc) X.spr hl ⟨h1,h2⟩).choose_spec⟩
 obtain ⟨cfA,hcA⟩:=mk (n+9);obtain ⟨cf9,hc9⟩:=mk (n+8);obtain ⟨cf8,hc8⟩:=mk (n+7);obtain ⟨cf7,hc7⟩:=mk (n+6);have f1:=X.qK;have c0:=hcA 0 (by decide) (by decide);have c1:=hcA 1 (by decide) (by decide);have c2:=hcA 2 (by decide) (by decide);have c5:=hcA 5 (by decide) (by decide);have c6:=hcA 6 (by decide) (by decide);obtain ⟨lo,hlo,w0⟩:=iZ (n:=n+9) (c:=cfA 0) X.low;obtain ⟨up,hup,w1⟩:=yd (n:=n+9) (c:=cfA 1) X.upp;obtain ⟨g,hgo,w2⟩:=iZ (n:=n+9) (c:=cfA 2) X.low;obtain ⟨la,hla,w5⟩:=iZ (n:=n+9) (c:=cfA 5) X.low;obtain ⟨sr,hsr,w6⟩:=yb (n:=n+9) (c:=cfA 6) X.sml;obtain ⟨gl,p16⟩:=eg _ hlo;obtain ⟨gu,pu9⟩:=uB _ hup;obtain ⟨gg,pg16⟩:=eg _ hgo;obtain ⟨ga,pa16⟩:=eg _ hla;obtain ⟨gs,ps9⟩:=uq _ hsr;have U:=kA gl gu p16 pu9;have V:=kA gg gu pg16 pu9;have W:=kA ga gu pa16 pu9;have U':=kA gl gs p16 ps9;have V':=kA gg gs pg16 ps9;have f2:=X.Bu;have f3:=X.Fd;have f4:=X.Fb;have f5:=X.E1;have f6:=X.Bs;have f7:=X.Fe;have f8:=X.E4;have f9:=X.Fc;have f10:=X.fmp;have fi1:=E.M.A.fi.1;have fi2:=E.M.A.fi.2;have fm1:=E.M.fmi.1;have fm2:=E.M.fmi.2;have ft1:=E.K.T.fi.1;have ft2:=E.K.T.fi.2;have fpu:=E.E9;have fps:=Z.vF;have fal:=Z.EX;refine ay hd ⟨rfl,rfl⟩ (ρ0:=[.val (.lst (sc.map .int)),.nil,.nil,.nil,.nil,.nil,.nil,.nil,.nil,.nil,.nil,.nil,.nil,.nil,.nil,.nil]) rfl ?_;refine st (ρ':=[.val (.lst (sc.map .int)),.val (tupI lo),.nil,.nil,.nil,.nil,.nil,.nil,.nil,.nil,.nil,.nil,.nil,.nil,.nil,.nil]) (by dsimp? [f1,f2,c0,w0]) ?_;refine st (ρ':=[.val (.lst (sc.map .int)),.val (tupI lo),.val (tupI up),.nil,.nil,.nil,.nil,.nil,.nil,.nil,.nil,.nil,.nil,.nil,.nil,.nil]) (by dsimp? [f1,f3,c1,w1]) ?_;refine st (ρ':=[.val (.lst (sc.map .int)),.val (tupI lo),.val (tupI up),.val (tupI g),.nil,.nil,.nil,.nil,.nil,.nil,.nil,.nil,.nil,.nil,.nil,.nil]) (by dsimp? [f1,f2,c2,w2]) ?_;obtain ⟨t,k4,ht⟩:=Dy (n:=n+8) (lo:=lo) (up:=up) X.toLPb X.cas hc9 U;have fr4:=jM t (prs (PL.mem up));refine st (ρ':=[.val (.lst (sc.map .int)),.val (tupI lo),.val (tupI up),.val (tupI g),.owx (.d (ae t (prs (PL.mem up)))),.nil,.nil,.nil,.nil,.nil,.nil,.nil,.nil,.nil,.nil,.nil]) (by dsimp? [f5,k4,fr4]) ?_;have o0:=ir (n:=n+7) (t:=tupI lo) E.M.A rfl gl;have o1:=ir (n:=n+7) (t:=tupI up) E.M.A rfl gu;have o2:=ir (n:=n+7) (t:=tupI g) E.M.A rfl gg;have q5:=k_ (n:=n+6) (es:=ae t (prs (PL.mem up))) (t:=t) E.K.T U (fun p hp=>cI hp) ht;have ap:=uv (t:=t) gu pu9;have nf:∀{a b:List Int} {u:Pr->List Int},ak (tabI CTb C a b u)=false:=vS;refine st (ρ':=q54 sc lo up g C CTb t [.nil,.nil,.nil,.nil,.nil,.nil,.nil,.nil,.nil,.nil]) (by dsimp? [q54,fi1,fi2,ft1,ft2,o0,o1,q5,ap,nf]) ?_;have r5:=uV (lo:=lo) (up:=up) (t:=t) X.wro X E Z hc7 hc9 hx hxu hg hs hsu hk hku gl;refine st (ρ':=q54 sc lo up g C CTb t [.nil,.nil,.nil,.nil,.nil,.nil,.nil,.nil,.nil,.nil]) (by dsimp? [q54,f7,r5]) ?_;have i6:=nA (n:=n+7) (at_:=100) X.toLPb X.ims hc9 (by decide) gl gg;have m6:=kP (a:=lo) gg.g2 fun j=>cf9 (100+j);generalize (fW lo g fun j=>cf9 (100+j))=i0 at i6 m6;have fr6:bN (.l (i0.map tupI))=true:=fB _;refine st (ρ':=q54 sc lo up g C CTb t [.owx (.l (i0.map tupI)),.nil,.nil,.nil,.nil,.nil,.nil,.nil,.nil,.nil]) (by dsimp? [q54,f6,i6,fr6]) ?_;have p6:=k8 (n:=n+3) E.M gl gg m6;have q6:ak (ar CM C lo g i0)=true:=iO;refine st (ρ':=q54 sc lo up g C CTb t [.owx (.l (i0.map tupI)),.val (ar CM C lo g i0),.nil,.nil,.nil,.nil,.nil,.nil,.nil,.nil]) (by dsimp? [q54,fi1,fi2,fm1,fm2,o0,o2,p6,q6]) ?_;refine st (ρ':=q54 sc lo up g C CTb t [.owx (.l (i0.map tupI)),.val (ar CM C lo g i0),.owx (.d []),.nil,.nil,.nil,.nil,.nil,.nil,.nil]) (by rfl) ?_;refine st (ρ':=q54 sc lo up g C CTb t [.owx (.l (i0.map tupI)),.val (ar CM C lo g i0),.owx (.d []),.any,.nil,.nil,.nil,.nil,.nil,.nil]) (by rfl) ?_;have e0:(ae t (prs (PL.mem up))).map (fun p=>PK.d p.1)=(prs (PL.mem up)).map prD:=by unfold ae;rw [List.map_map];exact List.map_congr_left fun p _=>xP p
 refine st (cK (g:=prD) (fun done=>q54 sc lo up g C CTb t [.owx (.l (i0.map tupI)),.val (ar CM C lo g i0),.owx (.d (ae (beh g i0 t) done)),.any,.nil,.nil,.nil,.nil,.nil,.nil]) (prs (PL.mem up)) (by simp only [q54,evI,aa,aH,List.modify_zero_cons,List.modify_succ_cons,aJ,List.getElem?_cons_succ,List.getElem?_cons_zero,qQ,e0]) rfl fun done p rest e=>?_) ?_
 ·have hp:p∈prs (PL.mem up):=by rw [e];simp
  have hn:p∉done:=by
   have:=ek U.nd;rw [e] at this;exact fun z=>(List.nodup_append.mp this).2.2 _ z _ Fa rfl
  have i1:ixD (.pdc (ae t (prs (PL.mem up)))) (prD p)=some (tupI (t p)):=by rw [kq,cI hp]
  have lx:=AH (n:=n+8) (x:=t p) X.led X.sum X.fsum X.man X.E5 gg m6.el;have g4:=fO p;have g8:(PK.t [pkT p.1,pkT p.2]).dp<=8:=fN p;have g9:dZ (ae (beh g i0 t) done) (PK.t [pkT p.1,pkT p.2]) (tupI (aw g i0 (t p)))=ae (beh g i0 t) (done++[p]):=by
   rw [eS];exact hX (t:=beh g i0 t) (p:=p) hn
  have g6:(ae (beh g i0 t) done).length<sizeLine:=by
   unfold ae;rw [F6];have h1:done.length<=(prs (PL.mem up)).length:=by rw [e,F5];omega
   rw [eR] at h1;have:=Nat.mul_le_mul U.u9 U.u9;exact Ga (show _<=1000 by omega) (by decide)
  have g7:=bY (aw g i0 (t p));refine ⟨q54 sc lo up g C CTb t [.owx (.l (i0.map tupI)),.val (ar CM C lo g i0),.owx (.d (ae (beh g i0 t) done)),.val (prD p),.nil,.nil,.nil,.nil,.nil,.nil],rfl,?_⟩;refine st (ρ':=q54 sc lo up g C CTb t [.owx (.l (i0.map tupI)),.val (ar CM C lo g i0),.owx (.d (ae (beh g i0 t) (done++[p]))),.val (prD p),.nil,.nil,.nil,.nil,.nil,.nil]) ?_ (st (by rfl) bc);simp? [q54,af.eq_5,evA,ev.eq_1,ev.eq_14,ev.eq_16,ev.eq_20,fnR,f8,lx,i1,g7,g4,g8,g6,and_self,g9]
 have e8:=gG (n:=n+3) (t:=t) E Z U V m6 ht;refine st (ρ':=q54 sc lo up g C CTb t (p54 lo up g C CTb CM t i0 [.val (tabI CTb C g up (beh g i0 t)),.nil,.nil,.nil,.nil,.nil])) (by dsimp? [q54,p54,fps,e8,nf]) ?_;have el1:=AA (up:=up) (t:=t) gg m6;have t1:=pE (n:=n+5) E X.toLPb X.tis V el1 fun p _=>rfl;have t2:=pE (n:=n+5) E X.toLPb X.tis U ht fun p _=>rfl;refine st (ρ':=q54 sc lo up g C CTb t (p54 lo up g C CTb CM t i0 [.val (tabI CTb C g up (beh g i0 t)),.nil,.nil,.nil,.nil,.nil])) (by dsimp? [q54,p54,f9,t1,t2]) ?_;refine st (ρ':=q54 sc lo up g C CTb t (p54 lo up g C CTb CM t i0 [.val (tabI CTb C g up (beh g i0 t)),.val (tupI la),.nil,.nil,.nil,.nil])) (by dsimp? [q54,p54,f1,f2,c5,w5]) ?_;have m7:=kP (a:=g) ga.g2 fun j=>cf8 (120+j);have i7:=i3 (n:=n+2) (at_:=120) X.toLPb E X.mp hc8 (by decide) gg ga;generalize (fW g la fun j=>cf8 (120+j))=i1 at i7 m7;have q7:ak (ar CM C g la i1)=true:=iO;refine st (ρ':=q54 sc lo up g C CTb t (p54 lo up g C CTb CM t i0 [.val (tabI CTb C g up (beh g i0 t)),.val (tupI la),.val (ar CM C g la i1),.nil,.nil,.nil])) (by dsimp? [q54,p54,f10,i7,q7]) ?_;have b1:=vT (n:=n+1) E.M E.B gl gg ga m6 m7;have m8:=m7.comp ga.g2 gg.g2 m6;have e9:=gG (n:=n+3) (t:=t) E Z U W m8 ht;refine st (ρ':=q54 sc lo up g C CTb t (p54 lo up g C CTb CM t i0 [.val (tabI CTb C g up (beh g i0 t)),.val (tupI la),.val (ar CM C g la i1),.val (tabI CTb C la up (beh la (i0.map (aw la i1)) t)),.nil,.nil])) (by dsimp? [q54,p54,fps,b1,e9,nf]) ?_;have h4:=fF (lo:=la) (up:=up) (t:=beh la (i0.map (aw la i1)) t) E.K.T;have y0:=fK (ns:=la) E.M.A;have z0:bf .ne (tupI la) (tupI la)=some false:=by rw [i4,Ge rfl];rfl
 have e10:=gG (n:=n+3) (t:=beh g i0 t) E Z V W m7 el1;have a10:=pA (n:=n+7) (lo:=la) (up:=up) (t:=beh la i1 (beh g i0 t)) (t2:=beh la (i0.map (aw la i1)) t) E Z W fun p _=>(pU ga.g2 gg.g2 m7 (t p) m6.el).symm;refine st (ρ':=q54 sc lo up g C CTb t (p54 lo up g C CTb CM t i0 [.val (tabI CTb C g up (beh g i0 t)),.val (tupI la),.val (ar CM C g la i1),.val (tabI CTb C la up (beh la (i0.map (aw la i1)) t)),.nil,.nil])) (by dsimp? [q54,p54,h4,y0,z0,fps,fal,e10,a10]) ?_;refine st (ρ':=q54 sc lo up g C CTb t (p54 lo up g C CTb CM t i0 [.val (tabI CTb C g up (beh g i0 t)),.val (tupI la),.val (ar CM C g la i1),.val (tabI CTb C la up (beh la (i0.map (aw la i1)) t)),.val (tupI sr),.nil])) (by dsimp? [q54,p54,f1,f4,c6,w6]) ?_;have m9:=kP (a:=sr) gu.g2 fun j=>cf8 (130+j);have i9:=i3 (n:=n+2) (at_:=130) X.toLPb E X.mp hc8 (by decide) gs gu;generalize (fW sr up fun j=>cf8 (130+j))=i2 at i9 m9;have q9:ak (ar CM C sr up i2)=true:=iO;refine st (ρ':=q54 sc lo up g C CTb t (p54 lo up g C CTb CM t i0 [.val (tabI CTb C g up (beh g i0 t)),.val (tupI la),.val (ar CM C g la i1),.val (tabI CTb C la up (beh la (i0.map (aw la i1)) t)),.val (tupI sr),.val (ar CM C sr up i2)])) (by dsimp? [q54,p54,f10,i9,q9]) ?_;have s1:=nC (n:=n+3) (t:=beh g i0 t) E V V' m9 el1;have s2:=nC (n:=n+3) (t:=t) E U U' m9 ht;have s3:=gG (n:=n+3) (t:=alo up i2 t) E Z U' V' m6 (Ax (lo:=lo) gu m9 ht);have s4:=pA (n:=n+7) (lo:=g) (up:=sr) (t:=alo up i2 (beh g i0 t)) (t2:=beh g i0 (alo up i2 t)) E Z V' fun p _=>rfl;have s5:bf .is (.bl true) (.bl true)=some true:=rfl;refine aR ?_;dsimp? [q54,p54,fps,fpu,fal,s1,s2,s3,s4,s5]
end
end PL
set_option autoImplicit true
set_option relaxedAutoImplicit true
namespace R54
open PySem PySem.Spec L2 CT IN
open PyProof.Rows hiding St
noncomputable def top (i:Nat):Stmt:=PySem.Challenge.pw_carrytower_k54_tables_pushed.main.body.getD i (.Pass ⟨0,0,0,0⟩)
noncomputable def src:Src where
 gl:=[("int",.ty "int"),("bool",.ty "bool"),("list",.ty "list"),("tuple",.ty "tuple"),("dict",.ty "dict"),("ValueError",.ty "ValueError"),("LEAST_ROUND",.int 2),("MOST_MEMBERS",.int 144),("MOST_LOWER",.int 16),("MOST_UPPER",.int 9),("Rounds",.cl 412),("Group",.cl 345),("Table",.cl 485),("CarryError",.cl 31),("NotLike",.cl 104),("NoCount",.cl 116),("NoElement",.cl 56),("NoHead",.cl 92),("NoPair",.cl 128),("NoKind",.cl 140),("TooMany",.cl 197),("NoLower",.cl 68),("NoUpper",.cl 80),("NoMap",.cl 216),("NoTower",.cl 178),("NoCarry",.cl 159)]
 fn:=List.append (α:=Str) ["is_whole","product","are_rounds","need_lower","need_upper","pairs_of","picked_carries","over_like","alike","is_image","need_images","need_like","pulled","pushed","_law_spread","_law_whole","_law_all","_law_sum","_law_many","_law_divisor","_law_drawn","_law_lower","_law_upper","_law_small","_law_image","_law_led","_law_is","_law_table_is","_law_kinds","_law_class"] ["_law_carries","_law_images","_law_refused","_law_map","_law_wrongs","law"]
 ini:=[("Rounds",(412,"Rounds.__init__")),("Table",(485,"Table.__init__")),("Map",(544,"Map.__init__"))]
 mth:=[((412,"members"),"Rounds.members"),((412,"has"),"Rounds.has"),((412,"nought"),"Rounds.nought"),((412,"heads"),"Rounds.heads"),((412,"like"),"Rounds.like"),((412,"is_even"),"Rounds.is_even"),((412,"sum_of"),"Rounds.sum_of"),((412,"need"),"Group.need"),((412,"size"),"Group.size"),((412,"times"),"Group.times"),((412,"total"),"Group.total"),((485,"carries"),"Table.carries"),((485,"carry"),"Table.carry"),((485,"carry_of"),"Table.carry_of"),((544,"led"),"Map.led"),((544,"behind"),"Map.behind")]
 fok:=[(412,"rounds"),(485,"lower"),(485,"upper"),(485,"kept"),(544,"source"),(544,"goal"),(544,"images")]
 exc:=[("NotLike",(104,[])),("NoLower",(68,[]))]
 qV:=[((104,104),true),((104,116),false),((104,56),false),((104,92),false),((104,128),false),((104,140),false),((104,197),false),((104,68),false),((104,80),false),((104,216),false),((104,178),false),((104,159),false),((104,31),true),((68,104),false),((68,116),false),((68,56),false),((68,92),false),((68,128),false),((68,140),false),((68,197),false),((68,68),true),((68,80),false),((68,216),false),((68,178),false),((68,159),false),((68,31),true)]
 qU:=[(104,true),(68,true)]
 sub:=[((104,31),true),((68,31),true)]
 qT:=[((412,412),true),((412,345),true),((485,485),true)]
 defs:=([("is_whole",(none,P.jN)),("product",(none,P.product)),("are_rounds",(none,P.gz)),("need_lower",(none,P.eM)),("need_upper",(none,P.gX)),("pairs_of",(none,P.jV)),("picked_carries",(none,P.dW)),("over_like",(none,P.iR)),("alike",(none,P.alike)),("is_image",(none,P.gU)),("need_images",(none,P.fU)),("need_like",(none,P.eh)),("pulled",(none,P.oO)),("pushed",(none,P.oP)),("_law_spread",(none,L.spread)),("_law_whole",(none,L.whole)),("_law_all",(none,L.iY)),("_law_sum",(none,L.sum)),("_law_many",(none,L.many)),("_law_divisor",(none,L.pJ)),("_law_drawn",(none,L.drawn)),("_law_lower",(none,L.lower)),("_law_upper",(none,L.upper)),("_law_small",(none,L.small)),("_law_image",(none,L.image)),("_law_led",(none,L.led)),("_law_is",(none,L.is)),("_law_table_is",(none,L.h_)),("_law_kinds",(none,L.kinds)),("_law_class",(none,L.class))]:List (Str×(Option Addr×Def)))++([("_law_carries",(none,L.d7)),("_law_images",(none,L.kj)),("_law_refused",(none,L.d9)),("_law_map",(none,L.map)),("_law_wrongs",(none,L.kW)),("law",(none,L.lz)),("Rounds.__init__",(some 412,P.dy)),("Table.__init__",(some 485,P.dO)),("Map.__init__",(some 544,P.eU)),("Rounds.members",(none,P.dN)),("Rounds.has",(none,P.dz)),("Rounds.nought",(none,P.cU)),("Rounds.heads",(none,P.eV)),("Rounds.like",(none,P.d4)),("Rounds.is_even",(none,P.dM)),("Rounds.sum_of",(none,P.eA)),("Group.need",(none,P.eI)),("Group.size",(none,P.gx)),("Group.times",(none,P.fR)),("Group.total",(none,P.fS)),("Table.carries",(none,P.eB)),("Table.carry",(none,P.d5)),("Table.carry_of",(none,P.cD)),("Map.led",(none,P.iX)),("Map.behind",(none,P.gy))]:List (Str×(Option Addr×Def)))
noncomputable abbrev G:Prg:=src.prg
local macro_rules|`(tactic|walk_at "d")=>`(tactic|exact DT.of ⟨rfl,rfl,rfl,by decide+kernel,rfl,by decide+kernel,by decide+kernel⟩ (by kernel_rfl) (by kernel_rfl) (fun _ _ _ _ _ _=>by first|exact BQ fun _=>rfl|exact BR fun _ _=>rfl|exact BS fun _ _ _=>rfl|exact Fp fun _ _ _ _=>rfl) rfl rfl rfl)
noncomputable abbrev DF (q:Str) (d:Def) (i:Nat) (ps:List Str):Prop:=DT G q none d q q (top i) ps
noncomputable abbrev DM (q m:Str) (c:Option Addr) (d:Def) (i j:Nat) (ps:List Str):Prop:=DT G q c d m q (inClass (top i) j) ps
theorem t0:DF "is_whole" P.jN 20 ["thing"]:=by walk_at "d"
theorem t1:DF "product" P.product 21 ["numbers"]:=by walk_at "d"
theorem t2:DF "are_rounds" P.gz 22 ["thing"]:=by walk_at "d"
theorem t3:DF "need_lower" P.eM 28 ["lower"]:=by walk_at "d"
theorem t4:DF "need_upper" P.gX 29 ["upper"]:=by walk_at "d"
theorem t5:DF "pairs_of" P.jV 30 ["group"]:=by walk_at "d"
theorem t6:DF "picked_carries" P.dW 31 ["lower","upper","carries"]:=by walk_at "d"
theorem t7:DF "over_like" P.iR 33 ["one","other"]:=by walk_at "d"
theorem t8:DF "alike" P.alike 34 ["one","other"]:=by walk_at "d"
theorem t9:DF "is_image" P.gU 36 ["goal","n","thing"]:=by walk_at "d"
theorem t10:DF "need_images" P.fU 37 ["source","goal","images"]:=by walk_at "d"
theorem t11:DF "need_like" P.eh 39 ["one","other"]:=by walk_at "d"
theorem t12:DF "pulled" P.oO 40 ["table","way"]:=by walk_at "d"
theorem t13:DF "pushed" P.oP 41 ["table","way"]:=by walk_at "d"
theorem t14:DF "_law_spread" L.spread 43 ["_law_script","_law_k"]:=by walk_at "d"
theorem t15:DF "_law_whole" L.whole 44 ["_law_found"]:=by walk_at "d"
theorem t16:DF "_law_all" L.iY 45 ["_law_rounds"]:=by walk_at "d"
theorem t17:DF "_law_sum" L.sum 46 ["_law_rounds","_law_a","_law_b"]:=by walk_at "d"
theorem t18:DF "_law_many" L.many 47 ["_law_rounds","_law_n","_law_a"]:=by walk_at "d"
theorem t19:DF "_law_divisor" L.pJ 48 ["_law_one","_law_other"]:=by walk_at "d"
theorem t20:DF "_law_drawn" L.drawn 49 ["_law_rounds","_law_cell"]:=by walk_at "d"
theorem t21:DF "_law_lower" L.lower 50 ["_law_cell"]:=by walk_at "d"
theorem t22:DF "_law_upper" L.upper 51 ["_law_cell"]:=by walk_at "d"
theorem t23:DF "_law_small" L.small 52 ["_law_cell"]:=by walk_at "d"
theorem t24:DF "_law_image" L.image 53 ["_law_source_round","_law_goal","_law_cell"]:=by walk_at "d"
theorem t25:DF "_law_led" L.led 54 ["_law_goal","_law_images_here","_law_x"]:=by walk_at "d"
theorem t26:DF "_law_is" L.is 55 ["_law_rounds","_law_found","_law_due"]:=by walk_at "d"
theorem t27:DF "_law_table_is" L.h_ 56 ["_law_table","_law_lower_here","_law_upper_here","_law_due"]:=by walk_at "d"
theorem t28:DF "_law_kinds" L.kinds 57 ["_law_e"]:=by walk_at "d"
theorem t29:DF "_law_class" L.class 58 ["_law_word"]:=by walk_at "d"
theorem t30:DF "_law_carries" L.d7 59 ["_law_script","_law_at","_law_lower_here","_law_upper_here"]:=by walk_at "d"
theorem t31:DF "_law_images" L.kj 60 ["_law_script","_law_at","_law_source","_law_goal"]:=by walk_at "d"
theorem t32:DF "_law_refused" L.d9 61 ["_law_table","_law_way","_law_word"]:=by walk_at "d"
theorem t33:DF "_law_map" L.map 62 ["_law_script","_law_at","_law_source","_law_goal"]:=by walk_at "d"
theorem t34:DF "_law_wrongs" L.kW 63 ["_law_script","_law_table","_law_lower_here"]:=by walk_at "d"
theorem t35:DF "law" L.lz 64 ["_law_script"]:=by walk_at "d"
theorem t36:DM "Rounds.__init__" "__init__" (some 412) P.dy 24 0 ["self","rounds"]:=by walk_at "d"
theorem t37:DM "Table.__init__" "__init__" (some 485) P.dO 32 0 ["self","lower","upper","carries"]:=by walk_at "d"
theorem t38:DM "Map.__init__" "__init__" (some 544) P.eU 38 0 ["self","source","goal","images"]:=by walk_at "d"
theorem t39:DM "Rounds.members" "members" none P.dN 24 1 ["self"]:=by walk_at "d"
theorem t40:DM "Rounds.has" "has" none P.dz 24 2 ["self","thing"]:=by walk_at "d"
theorem t41:DM "Rounds.nought" "nought" none P.cU 24 3 ["self"]:=by walk_at "d"
theorem t42:DM "Rounds.heads" "heads" none P.eV 24 4 ["self"]:=by walk_at "d"
theorem t43:DM "Rounds.like" "like" none P.d4 24 5 ["self","other"]:=by walk_at "d"
theorem t44:DM "Rounds.is_even" "is_even" none P.dM 24 6 ["self"]:=by walk_at "d"
theorem t45:DM "Rounds.sum_of" "sum_of" none P.eA 24 7 ["self","x","y"]:=by walk_at "d"
theorem t46:DM "Group.need" "need" none P.eI 23 7 ["self","thing"]:=by walk_at "d"
theorem t47:DM "Group.size" "size" none P.gx 23 8 ["self"]:=by walk_at "d"
theorem t48:DM "Group.times" "times" none P.fR 23 11 ["self","n","x"]:=by walk_at "d"
theorem t49:DM "Group.total" "total" none P.fS 23 13 ["self","some"]:=by walk_at "d"
theorem t50:DM "Table.carries" "carries" none P.eB 32 4 ["self"]:=by walk_at "d"
theorem t51:DM "Table.carry" "carry" none P.d5 32 1 ["self","x","y"]:=by walk_at "d"
theorem t52:DM "Table.carry_of" "carry_of" none P.cD 32 2 ["self","x","y"]:=by walk_at "d"
theorem t53:DM "Map.led" "led" none P.iX 38 1 ["self","x"]:=by walk_at "d"
theorem t54:DM "Map.behind" "behind" none P.gy 38 2 ["self","other"]:=by walk_at "d"
theorem BK (ns:List Int) (hl:ns.length<=63):kal G 11 "law" [.lst (ns.map .int)]=some (.ok (.bl true)):=by
 have A:PL.GA G 412:=⟨rfl,rfl,rfl,rfl,rfl,rfl,rfl,rfl,rfl,rfl,rfl,rfl,fun n hn c hc=>if_pos ⟨hn,hc⟩,rfl,⟨rfl,rfl⟩,rfl⟩
 have B:PL.GB G 412:=⟨A,rfl,rfl,rfl,rfl,rfl,rfl,rfl,rfl⟩
 have T:PL.TB G 412 345 485:=⟨B,rfl,rfl,rfl,rfl,rfl,rfl,rfl,rfl,rfl,rfl,rfl,rfl,rfl,rfl,rfl,⟨rfl,rfl⟩,rfl,rfl,rfl⟩
 have M:PL.GM G 412:=⟨A,rfl,rfl,rfl,rfl,rfl,rfl,rfl,rfl,rfl,rfl,rfl,rfl,rfl,rfl,rfl,rfl,rfl,rfl⟩
 have P:PL.GP G 412 544:=⟨M,rfl,rfl,rfl,rfl,rfl,⟨rfl,rfl⟩,rfl,rfl,rfl,rfl,rfl⟩
 have Q:PL.GQ G 544:=⟨rfl,rfl,rfl,rfl⟩
 have E:PL.TE G 412 345 485 544:=⟨⟨T,rfl,rfl⟩,P,Q,rfl,rfl,rfl,rfl,rfl,rfl,rfl,rfl,rfl⟩
 have Z:PL.TP G:=⟨rfl,rfl,rfl,rfl,rfl,rfl⟩
 have X:PL.LQ G:=⟨⟨⟨rfl,rfl,rfl,rfl,rfl,rfl,rfl,rfl,rfl,rfl,rfl,rfl,rfl,rfl,rfl,rfl,rfl,rfl⟩,rfl,rfl,rfl,rfl,rfl,rfl,rfl,rfl,rfl,rfl,rfl,rfl,rfl,rfl⟩,rfl,rfl,rfl,rfl,rfl,rfl⟩
 exact PL.ya (n:=0) (NL:=104) (NU:=68) (CE:=31) rfl hl X E Z rfl rfl rfl rfl rfl (fun a b=>by kernel_rfl) fun a b=>by kernel_rfl
end R54
set_option autoImplicit true
set_option relaxedAutoImplicit true
namespace R54
open PySem PySem.Spec PySem.W L2 CT IN
open PyProof.Rows hiding St
theorem al_ {α:Type} {p:α->Prop} {a:α} {l:List α} (h:p a) (t:∀x∈l,p x):∀x∈a::l,p x:=List.forall_mem_cons.mpr ⟨h,t⟩
theorem all_mk {l:PySem.W.OpenLaw} {w:World} {K:PySem.W.Frag} {h:Heap} {mg:Str->Option Value} {fa:Addr} (X:K.In h) (Y:h.Ns mainGlobals mg) (hfa:mg "law"=some (.ref fa))
  (et0:GF K "is_whole" (top 20))
  (et1:GF K "product" (top 21))
  (et2:GF K "are_rounds" (top 22))
  (et3:GF K "need_lower" (top 28))
  (et4:GF K "need_upper" (top 29))
  (et5:GF K "pairs_of" (top 30))
  (et6:GF K "picked_carries" (top 31))
  (et7:GF K "over_like" (top 33))
  (et8:GF K "alike" (top 34))
  (et9:GF K "is_image" (top 36))
  (et10:GF K "need_images" (top 37))
  (et11:GF K "need_like" (top 39))
  (et12:GF K "pulled" (top 40))
  (et13:GF K "pushed" (top 41))
  (et14:GF K "_law_spread" (top 43))
  (et15:GF K "_law_whole" (top 44))
  (et16:GF K "_law_all" (top 45))
  (et17:GF K "_law_sum" (top 46))
  (et18:GF K "_law_many" (top 47))
  (et19:GF K "_law_divisor" (top 48))
  (et20:GF K "_law_drawn" (top 49))
  (et21:GF K "_law_lower" (top 50))
  (et22:GF K "_law_upper" (top 51))
  (et23:GF K "_law_small" (top 52))
  (et24:GF K "_law_image" (top 53))
  (et25:GF K "_law_led" (top 54))
  (et26:GF K "_law_is" (top 55))
  (et27:GF K "_law_table_is" (top 56))
  (et28:GF K "_law_kinds" (top 57))
  (et29:GF K "_law_class" (top 58))
  (et30:GF K "_law_carries" (top 59))
  (et31:GF K "_law_images" (top 60))
  (et32:GF K "_law_refused" (top 61))
  (et33:GF K "_law_map" (top 62))
  (et34:GF K "_law_wrongs" (top 63))
  (et35:GF K "law" (top 64))
  (et36:MF K 412 "__init__" "Rounds.__init__" (inClass (top 24) 0))
  (et37:MF K 485 "__init__" "Table.__init__" (inClass (top 32) 0))
  (et38:MF K 544 "__init__" "Map.__init__" (inClass (top 38) 0))
  (et39:MF K 412 "members" "Rounds.members" (inClass (top 24) 1))
  (et40:MF K 412 "has" "Rounds.has" (inClass (top 24) 2))
  (et41:MF K 412 "nought" "Rounds.nought" (inClass (top 24) 3))
  (et42:MF K 412 "heads" "Rounds.heads" (inClass (top 24) 4))
  (et43:MF K 412 "like" "Rounds.like" (inClass (top 24) 5))
  (et44:MF K 412 "is_even" "Rounds.is_even" (inClass (top 24) 6))
  (et45:MF K 412 "sum_of" "Rounds.sum_of" (inClass (top 24) 7))
  (et46:MF K 412 "need" "Group.need" (inClass (top 23) 7))
  (et47:MF K 412 "size" "Group.size" (inClass (top 23) 8))
  (et48:MF K 412 "times" "Group.times" (inClass (top 23) 11))
  (et49:MF K 412 "total" "Group.total" (inClass (top 23) 13))
  (et50:MF K 485 "carries" "Table.carries" (inClass (top 32) 4))
  (et51:MF K 485 "carry" "Table.carry" (inClass (top 32) 1))
  (et52:MF K 485 "carry_of" "Table.carry_of" (inClass (top 32) 2))
  (et53:MF K 544 "led" "Map.led" (inClass (top 38) 1))
  (et54:MF K 544 "behind" "Map.behind" (inClass (top 38) 2))
  (ok:mS K src):
  ∃fd:FuncData,(∀(s:Shared) (v:Value),BindsTo s fd ⟨[v],[]⟩ [("_law_script",v)])∧∀base:Heap,K.In base->base.Ns mainGlobals mg->aG l.prog w K mg base CX0 36 fa fd ["_law_script"] (spD K (oj G 11)):=by
 have iRounds:=ok.ini (p:=("Rounds",(412,"Rounds.__init__"))) (.head _);have iTable:=ok.ini (p:=("Table",(485,"Table.__init__"))) (.tail _ (.head _));have iMap:=ok.ini (p:=("Map",(544,"Map.__init__"))) (.tail _ (.tail _ (.head _)));exact BJ (n:=11) X Y hfa (fun base=>z_ (s:=src) X Y ok rfl
  (al_ (GF.row X Y t0 et0) (al_ (GF.row X Y t1 et1) (al_ (GF.row X Y t2 et2) (al_ (GF.row X Y t3 et3) (al_ (GF.row X Y t4 et4) (al_ (GF.row X Y t5 et5) (al_ (GF.row X Y t6 et6) (al_ (GF.row X Y t7 et7) (al_ (GF.row X Y t8 et8) (al_ (GF.row X Y t9 et9) (al_ (GF.row X Y t10 et10) (al_ (GF.row X Y t11 et11) (al_ (GF.row X Y t12 et12) (al_ (GF.row X Y t13 et13) (al_ (GF.row X Y t14 et14) (al_ (GF.row X Y t15 et15) (al_ (GF.row X Y t16 et16) (al_ (GF.row X Y t17 et17) (al_ (GF.row X Y t18 et18) (al_ (GF.row X Y t19 et19) (al_ (GF.row X Y t20 et20) (al_ (GF.row X Y t21 et21) (al_ (GF.row X Y t22 et22) (al_ (GF.row X Y t23 et23) (al_ (GF.row X Y t24 et24) (al_ (GF.row X Y t25 et25) (al_ (GF.row X Y t26 et26) (al_ (GF.row X Y t27 et27) (al_ (GF.row X Y t28 et28) (al_ (GF.row X Y t29 et29) (al_ (GF.row X Y t30 et30) (al_ (GF.row X Y t31 et31) (al_ (GF.row X Y t32 et32) (al_ (GF.row X Y t33 et33) (al_ (GF.row X Y t34 et34) (al_ (GF.row X Y t35 et35) (List.forall_mem_nil _)))))))))))))))))))))))))))))))))))))
  (al_ (MF.ini X Y iRounds.1.2 iRounds.2.1 iRounds.2.2 t36 et36) (al_ (MF.ini X Y iTable.1.2 iTable.2.1 iTable.2.2 t37 et37) (al_ (MF.ini X Y iMap.1.2 iMap.2.1 iMap.2.2 t38 et38) (List.forall_mem_nil _))))
  (al_ (MF.row iRounds.1.1 t39 et39) (al_ (MF.row iRounds.1.1 t40 et40) (al_ (MF.row iRounds.1.1 t41 et41) (al_ (MF.row iRounds.1.1 t42 et42) (al_ (MF.row iRounds.1.1 t43 et43) (al_ (MF.row iRounds.1.1 t44 et44) (al_ (MF.row iRounds.1.1 t45 et45) (al_ (MF.row iRounds.1.1 t46 et46) (al_ (MF.row iRounds.1.1 t47 et47) (al_ (MF.row iRounds.1.1 t48 et48) (al_ (MF.row iRounds.1.1 t49 et49) (al_ (MF.row iTable.1.1 t50 et50) (al_ (MF.row iTable.1.1 t51 et51) (al_ (MF.row iTable.1.1 t52 et52) (al_ (MF.row iMap.1.1 t53 et53) (al_ (MF.row iMap.1.1 t54 et54) (List.forall_mem_nil _)))))))))))))))))) t35 et35
theorem walk {l:PySem.W.OpenLaw} {q:Program} {loose:List Str} {XP:(Str->Option Value)->Heap->Prop} {YP:World->Heap->Prop} {d:DefRec} {K:Params->PySem.W.Frag} (hn:l.most=some 63) (hdf:d.params.defaults=[])
  (hY:∀(w:World) (h:Heap),YP w h->(K w.params).In h)
  (F:∀(w:World) (mg:Str->Option Value) (fa:Addr) (h:Heap),(K w.params).In h->h.Ns mainGlobals mg->mg d.name=some (.ref fa)->
   ∃fd:FuncData,(∀(s:Shared) (u:Value),BindsTo s fd ⟨[u],[]⟩ [("_law_script",u)])∧∀base:Heap,(K w.params).In base->base.Ns mainGlobals mg->aG l.prog w (K w.params) mg base CX0 36 fa fd ["_law_script"] (spD (K w.params) (oj G 11))):
  PySem.W.WalkO q loose XP YP l.row.toRowW d [] (fun f vs=>PySem.call f vs):=
 L2.Am (n:=63) (k:=36) (x:="_law_script") (CX:=fun _=>CX0) (sp:=fun w=>spD (K w.params) (oj G 11)) hn (by decide) hdf ⟨rfl,by decide,by decide⟩ hY F (fun _ _ a ns hl _ hS=>BL (BK ns hl) hS) fun _ _ _ _ _ z=>z
end R54
local macro_rules|`(universe $_)=>do
 let b:=`PySem.Challenge.cw_carrytower_k54_tables_pushed_holds
 let c<- ((List.range 882).map (b.str s!"o_{·}")++["sts_176","sts_206","sts_131","tree_130","sts_71","tree_115","sts_583","tree_70","tree_582","sts_161","sts_228","tree_145","sts_191","sts_723","tree_668","tree_47","tree_881","tree_227","tree_160","sts_515","tree_805","sts_611","thread_511","sts_669","sts_146","tree_190","sts_101","tree_312","tree_722","heap_39","env_41","tree_175","heap_882","sts_272","tree_511","tree_205","sts_86","view_39","tree_249","tree_100","tree_610","sts_250","sts_116","heap_46","tree_85","sts_49","tree_271","tree_426","sts_806","sts_313"].map b.str++[`PySem.Challenge.pw_carrytower_k54_tables_pushed]).mapM fun x=>do
  let n:=Lean.mkIdent (.str `PySem.W.Fast s!"tw{x.hash}")
  `(command|theorem $n:ident:True:=trivial)
 return Lean.mkNullNode (c.toArray.map (·.raw))
universe u
open PySem PySem.W PyProof.Rows
local macro_rules|`(tactic|walk_at "g")=>`(tactic|(refine' IN.D4 ?a ?l ?c ?k;(case a=>k_is);(case l=>k_is);(case c=>k_is);(case k=>k_is)))
local macro_rules|`(tactic|walk_at "m")=>`(tactic|(refine' IN.Eb ?a ?i ?l ?c ?k;(case a=>k_is);(case i=>k_is);(case l=>k_is);(case c=>k_is);(case k=>k_is)))
set_option maxRecDepth 100000 in
set_option maxHeartbeats 0 in
theorem PySem.Challenge.cw_carrytower_k54_tables_pushed_holds : PySem.Challenge.rw_carrytower_k54_tables_pushed.Holds := by
 w_on;o_law;k_head;(case hw=>w_witness2)
 k_fill
 refine R54.walk (l:=PySem.Challenge.rw_carrytower_k54_tables_pushed) rfl rfl (fun w h Y=>PySem.W.kIn_of Y) ?F
 case F=>
  intro w mg fa h KX G hmg;refine' R54.all_mk KX G hmg ?et0 ?et1 ?et2 ?et3 ?et4 ?et5 ?et6 ?et7 ?et8 ?et9 ?et10 ?et11 ?et12 ?et13 ?et14 ?et15 ?et16 ?et17 ?et18 ?et19 ?et20 ?et21 ?et22 ?et23 ?et24 ?et25 ?et26 ?et27 ?et28 ?et29 ?et30 ?et31 ?et32 ?et33 ?et34 ?et35 ?et36 ?et37 ?et38 ?et39 ?et40 ?et41 ?et42 ?et43 ?et44 ?et45 ?et46 ?et47 ?et48 ?et49 ?et50 ?et51 ?et52 ?et53 ?et54 ?ok
  (case et0=>walk_at "g")
  (case et1=>walk_at "g")
  (case et2=>walk_at "g")
  (case et3=>walk_at "g")
  (case et4=>walk_at "g")
  (case et5=>walk_at "g")
  (case et6=>walk_at "g")
  (case et7=>walk_at "g")
  (case et8=>walk_at "g")
  (case et9=>walk_at "g")
  (case et10=>walk_at "g")
  (case et11=>walk_at "g")
  (case et12=>walk_at "g")
  (case et13=>walk_at "g")
  (case et14=>walk_at "g")
  (case et15=>walk_at "g")
  (case et16=>walk_at "g")
  (case et17=>walk_at "g")
  (case et18=>walk_at "g")
  (case et19=>walk_at "g")
  (case et20=>walk_at "g")
  (case et21=>walk_at "g")
  (case et22=>walk_at "g")
  (case et23=>walk_at "g")
  (case et24=>walk_at "g")
  (case et25=>walk_at "g")
  (case et26=>walk_at "g")
  (case et27=>walk_at "g")
  (case et28=>walk_at "g")
  (case et29=>walk_at "g")
  (case et30=>walk_at "g")
  (case et31=>walk_at "g")
  (case et32=>walk_at "g")
  (case et33=>walk_at "g")
  (case et34=>walk_at "g")
  (case et35=>walk_at "g")
  (case et36=>walk_at "m")
  (case et37=>walk_at "m")
  (case et38=>walk_at "m")
  (case et39=>walk_at "m")
  (case et40=>walk_at "m")
  (case et41=>walk_at "m")
  (case et42=>walk_at "m")
  (case et43=>walk_at "m")
  (case et44=>walk_at "m")
  (case et45=>walk_at "m")
  (case et46=>walk_at "m")
  (case et47=>walk_at "m")
  (case et48=>walk_at "m")
  (case et49=>walk_at "m")
  (case et50=>walk_at "m")
  (case et51=>walk_at "m")
  (case et52=>walk_at "m")
  (case et53=>walk_at "m")
  (case et54=>walk_at "m")
  (case ok=>exact ⟨by kernel_rfl,by kernel_rfl,by kernel_rfl,by kernel_rfl,by kernel_rfl,by kernel_rfl,by kernel_rfl,by kernel_rfl,by kernel_rfl,by kernel_rfl⟩)
