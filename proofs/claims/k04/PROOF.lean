import PyProof.Rows.All
import Wide.All
import OpenK.AllK
import Wide.FinOn
import Lean
import PyProof.EqAt
import PyProof.EqKinds
import PyProof.TupleCall
import PyProof.CompUse
import PyProof.Cells
import PyProof.ZipIter
import PyProof.TupleIter
import PyProof.ListMulRoad
import PyProof.AutoListH
import PyProof.FactsAll.tuple_2
import PyProof.CompFree
import PyProof.PlainList
import PyProof.DictRoadsH
import PyProof.P3Eq
import KE.KDictOf
import PyProof.DictIter
import KE.KIsAll
import OpenK.KOwn
import PyProof.ExcInit
import PyProof.ExcArgsOwn
import PyProof.ExcAttrAll.ValueError
import PyProof.NeData
import PyProof.Rows.SumAny
import PyProof.EnumMake
import PyProof.EnumFor
import PyProof.EnumStmt
import PyProof.Rows.SeqMore
import PyProof.StationsW
import PyProof.RulesAs
import PyProof.NsDelKeeps
import PySem.Challenge.RW_carrytower_k04_no_element
set_option Elab.async false
set_option linter.all false
set_option maxRecDepth 100000
/-! THE HAND LAYER, for ints, bools, texts, own classes, LISTS and tuples (index, slices, in, append, pop ..), calls, loops. Paste it whole ahead of your own text; what your proof does not reach may be deleted. -/
namespace L2
open PySem PySem.Spec PyProof.Rows
/-- a key: an int or a str -/
abbrev Key := Sum Int Str
def keyIs : Key → Value → Bool
  | .inl k, v => Value.isInt k v
  | .inr x, v => Value.isStrOf x v
def keyH (w : World) : Key → Int
  | .inl k => hashInt k
  | .inr x => hashStr w x
theorem keyIs_shape : ∀ {k : Key} {v : Value}, keyIs k v = true → (∃ i t, k = Sum.inl i ∧ v = Value.int i t) ∨ (∃ x t, k = Sum.inr x ∧ v = Value.str x t)
  | .inl i, v, h => by
    obtain ⟨t, e⟩ := Value.isInt_shape (k := i) (v := v) h
    exact .inl ⟨i, t, rfl, e⟩
  | .inr x, v, h => by
    obtain ⟨t, e⟩ := Value.isStrOf_shape (x := x) (v := v) h
    exact .inr ⟨x, t, rfl, e⟩
theorem key_ll (a b : Int) : decide ((Sum.inl a : Key) = Sum.inl b) = (a == b) := by
  by_cases e : a = b
  · subst e; simp
  · have h : ¬ (Sum.inl a : Key) = Sum.inl b := fun q => e (Sum.inl.inj q)
    rw [decide_eq_false h]
    exact (beq_eq_false_iff_ne.mpr e).symm
theorem key_rr (a b : Str) : decide ((Sum.inr a : Key) = Sum.inr b) = decide (a = b) := by
  by_cases e : a = b
  · subst e; simp
  · have h : ¬ (Sum.inr a : Key) = Sum.inr b := fun q => e (Sum.inr.inj q)
    rw [decide_eq_false h, decide_eq_false e]
theorem key_lr (a : Int) (b : Str) : decide ((Sum.inl a : Key) = Sum.inr b) = false := decide_eq_false (fun q => nomatch q)
theorem key_rl (a : Str) (b : Int) : decide ((Sum.inr a : Key) = Sum.inl b) = false := decide_eq_false (fun q => nomatch q)
def mixKind (prog : Program) (w : World) : PySem.KeyKind prog w Key where
  is := keyIs
  hash := keyH w
  inj := fun v a b ha hb => by
    rcases keyIs_shape ha with ⟨i, t, rfl, rfl⟩ | ⟨x, t, rfl, rfl⟩
    · rcases keyIs_shape hb with ⟨j, u, rfl, e⟩ | ⟨y, u, rfl, e⟩
      · injection e with e1 _; rw [e1]
      · exact nomatch e
    · rcases keyIs_shape hb with ⟨j, u, rfl, e⟩ | ⟨y, u, rfl, e⟩
      · exact nomatch e
      · injection e with e1 _; rw [e1]
  byValue := fun k v h => by
    rcases keyIs_shape h with ⟨i, t, rfl, rfl⟩ | ⟨x, t, rfl, rfl⟩ <;> rfl
  pyHash := fun hv h => by
    rcases keyIs_shape hv with ⟨i, t, rfl, rfl⟩ | ⟨x, t, rfl, rfl⟩
    · exact wpAny_pyHash_int h
    · exact wpAny_pyHash_str h
  eqBool := fun hu hv h => by
    rcases keyIs_shape hu with ⟨i, t, rfl, rfl⟩ | ⟨x, t, rfl, rfl⟩
    · rcases keyIs_shape hv with ⟨j, u, rfl, rfl⟩ | ⟨y, u, rfl, rfl⟩
      · rw [key_ll] at h; exact wpAny_eqBool_int h
      · rw [key_lr] at h; exact SeqAt.EqAt.int_str i t y u _ _ _ _ h
    · rcases keyIs_shape hv with ⟨j, u, rfl, rfl⟩ | ⟨y, u, rfl, rfl⟩
      · rw [key_rl] at h; exact SeqAt.EqAt.str_int x t j u _ _ _ _ h
      · rw [key_rr] at h; exact wpAny_eqBool_str h
  «strs» := fun k x t v h => by
    rcases keyIs_shape h with ⟨i, u, rfl, e⟩ | ⟨y, u, rfl, e⟩
    · exact nomatch e
    · injection e with e1 _
      subst e1
      cases v <;> rfl
end L2
namespace L2
open PySem PySem.Spec PyProof.Rows
/-- a value, without the heap -/
inductive V where
  | non | bl (b : Bool) | int (i : Int) | str (x : Str) | byt (b : Array UInt8) | flt (b : UInt64) | ref (a : Addr) | ty (n : String)
  deriving DecidableEq
def RelV : V → Value → Prop
  | .non, u => u = Value.none
  | .bl b, u => u = Value.bool b
  | .int i, u => ∃ t, u = Value.int i t
  | .str x, u => ∃ t, u = Value.str x t
  | .byt b, u => ∃ t, u = Value.bytes b t
  | .flt b, u => ∃ t, u = Value.float b t
  | .ref a, u => u = Value.ref a
  | .ty n, u => u = Value.type n
abbrev Vals : List V → List Value → Prop := Paired RelV
theorem Vals.length {xs : List V} {us : List Value} (r : Vals xs us) : xs.length = us.length := Paired.length r
theorem Vals.get : ∀ {xs : List V} {us : List Value} {i : Nat} {x : V}, Vals xs us → xs[i]? = some x → ∃ u, us[i]? = some u ∧ RelV x u
  | _, _, _, _, .nil, e => by simp at e
  | _, _, 0, _, .cons r _, e => by simp at e; subst e; exact ⟨_, rfl, r⟩
  | _, _, i + 1, x, .cons _ t, e => by
    obtain ⟨u, h1, h2⟩ := Vals.get (i := i) (x := x) t (by simpa using e)
    exact ⟨u, by simpa using h1, h2⟩
theorem Vals.set {x : V} {u : Value} (r : RelV x u) : ∀ {xs : List V} {us : List Value} (i : Nat), Vals xs us → Vals (xs.set i x) (us.set i u)
  | _, _, _, .nil => .nil
  | _, _, 0, .cons _ t => .cons r t
  | _, _, i + 1, .cons q t => .cons q (Vals.set r i t)
theorem Vals.append : ∀ {xs ys : List V} {us ws : List Value}, Vals xs us → Vals ys ws → Vals (xs ++ ys) (us ++ ws)
  | _, _, _, _, .nil, s => s
  | _, _, _, _, .cons r t, s => .cons r (Vals.append t s)
theorem Vals.take : ∀ {xs : List V} {us : List Value} (n : Nat), Vals xs us → Vals (xs.take n) (us.take n)
  | _, _, 0, _ => .nil
  | _, _, _ + 1, .nil => .nil
  | _, _, n + 1, .cons r t => .cons r (Vals.take n t)
theorem Vals.drop : ∀ {xs : List V} {us : List Value} (n : Nat), Vals xs us → Vals (xs.drop n) (us.drop n)
  | _, _, 0, r => r
  | _, _, _ + 1, .nil => .nil
  | _, _, n + 1, .cons _ t => Vals.drop n t
theorem Vals.none_of : ∀ {xs : List V} {us : List Value} {i : Nat}, Vals xs us → xs[i]? = none → us[i]? = none := fun {xs us i} r e => by
  have h1 := r.length
  have h2 : xs.length ≤ i := List.getElem?_eq_none_iff.mp e
  exact List.getElem?_eq_none_iff.mpr (by omega)
def RelO : Option V → Option Value → Prop
  | some v, some u => RelV v u
  | none, none => True
  | _, _ => False
def KV {κ : Type} : List (κ × V) → List (κ × Value) → Prop := Paired fun (p : κ × V) (q : κ × Value) => p.1 = q.1 ∧ RelV p.2 q.2
/-- a key of a dict (00_mix): an int or a text -/
def kV : Key → V
  | .inl i => .int i
  | .inr x => .str x
/-- what stands at a tracked address -/
inductive HO where
  /-- a list -/
  | lst (xs : List V)
  /-- a tuple (never changes) -/
  | tup (xs : List V)
  /-- a dict whose keys are ints and texts; one whose keys are tuples of ints and texts (the empty one is both) -/
  | dK (kvs : List (Key × V)) | dT (kvs : List (List Key × V))
  /-- a set of ints: its members, its size -/
  | set (S : Int → Bool) (n : Nat)
  /-- an instance of the class at C, its dict at dx, its attributes -/
  | ins (C dx : Addr) (fs : List (Str × V))
  /-- the dict of the instance at x -/
  | own (x : Addr)
  /-- the dict of an exception -/
  | xd (fs : List (Str × V))
  /-- a bound method, f of x -/
  | met (f x : Addr)
  /-- a range object lo, lo + 1, .. below hi -/
  | rng (lo hi : Int)
  /-- a thing that is known to the object (the script; a dict while a loop walks it): read, never written while it is so -/
  | frz (o : Obj) (u : HO)
  /-- a code object's table -/
  | tbl (ps : Array Value)
  /-- any other thing, by what is true of its one object (a def of one's own: SetO a S n := HO.ext fun h => ..) -/
  | ext (φ : Heap → Prop)
abbrev Hp := Addr → Option HO
def upd (H : Hp) (a : Addr) (o : HO) : Hp := fun b => if b = a then some o else H b
theorem upd_same {H : Hp} {a : Addr} {o : HO} : upd H a o a = some o := by unfold upd; rw [if_pos rfl]
theorem upd_ne {H : Hp} {a b : Addr} {o : HO} (h : b ≠ a) : upd H a o b = H b := by unfold upd; rw [if_neg h]
theorem upd_upd {H : Hp} {a : Addr} {o u : HO} : upd (upd H a o) a u = upd H a u := by
  funext b; unfold upd; split <;> rfl
theorem ne_of_none {H : Hp} {a b : Addr} {o : HO} (h : H a = some o) (h' : H b = none) : a ≠ b := by
  intro e; subst e; rw [h] at h'; cases h'
section
variable (P : Program) (w : World)
def ObjOk (H : Hp) (h : Heap) (a : Addr) : HO → Prop
  | .lst xs => xs.length ≤ sizeLine ∧ ∃ (its : List Value) (n : Nat), Vals xs its ∧ h.get? a = some { cls := .type "list", data := .seq its.toArray n }
  | .tup xs => xs.length ≤ sizeLine ∧ ∃ its : List Value, Vals xs its ∧ IsTup h a its.toArray
  | .dK kvs => kvs.length ≤ sizeLine ∧ (a == sysModules) = false ∧ ∃ vs, KV kvs vs ∧ h.DictOf (mixKind P w) a vs
  | .dT kvs => kvs.length ≤ sizeLine ∧ (a == sysModules) = false ∧ ∃ xs : List (List Key × Addr × Value),
      Paired (fun (p : List Key × V) (q : List Key × Addr × Value) => p.1 = q.1 ∧ H q.2.1 = some (.tup (p.1.map kV)) ∧ RelV p.2 q.2.2) kvs xs ∧
      ∃ o es ep, h.get? a = some o ∧ o.ExactDict ∧ o.data = .dict es ep ∧ es.toList = xs.map (entryOfKey (tupleKind (mixKind P w))) ∧ (xs.map (·.1)).Nodup
  | .set S n => h.SetOf (intKind P w) a S n
  | .ins C dx fs => H dx = some (.own a) ∧ fs.length ≤ 1000 ∧ dx ≠ a ∧ h.get? a = some (PySem.W.instObj C dx) ∧
      ∃ mA, h.Ns1 dx mA ∧ (∀ f, RelO (fs.lookup f) (mA f)) ∧ PySem.Within mA (fs.map (·.1))
  | .own _ => ∃ o, h.get? a = some o
  | .xd fs => ∃ mA, h.Ns1 a mA ∧ ∀ f, RelO (fs.lookup f) (mA f)
  | .rng lo hi => ∃ t u v, h.get? a = some { cls := .type "range", data := .fields #[.int lo t, .int hi u, .int 1 v] }
  | .frz o u => h.get? a = some o ∧ ObjOk H h a u
  | .tbl ps => h.get? a = some { cls := .none, data := .fields ps }
  | .met f x => h.get? a = some (PySem.W.methodObj (.ref f) (.ref x))
  | .ext φ => φ h ∧ (∃ o, h.get? a = some o) ∧ ∀ h1 h2 : Heap, φ h1 → (∀ o, h1.get? a = some o → h2.get? a = some o) → φ h2
/-- the abstract heap is held -/
def HOk (H : Hp) (h : Heap) : Prop := ∀ a o, H a = some o → ObjOk P w H h a o
end
section
variable {P : Program} {w : World} {H H' : Hp} {h h' : Heap} {a : Addr} {o : HO}
theorem ObjOk.lt (x : ObjOk P w H h a o) : a < h.objs.size := by
  cases o with
  | lst xs => obtain ⟨_, _, _, _, e⟩ := x; exact Heap.lt_size e
  | tup xs => obtain ⟨_, _, _, p⟩ := x; exact p.lt
  | dK kvs => obtain ⟨_, _, _, _, o, _, _, e, _⟩ := x; exact Heap.lt_size e
  | dT kvs => obtain ⟨_, _, _, _, o, _, _, e, _⟩ := x; exact Heap.lt_size e
  | set S n => obtain ⟨o, _, _, _, e, _⟩ := x; exact Heap.lt_size e
  | ins C dx fs => obtain ⟨_, _, _, e, _⟩ := x; exact Heap.lt_size e
  | own y => obtain ⟨_, e⟩ := x; exact Heap.lt_size e
  | xd fs => obtain ⟨_, ⟨_, _, _, e, _⟩, _⟩ := x; exact Heap.lt_size e
  | rng lo hi => obtain ⟨_, _, _, e⟩ := x; exact Heap.lt_size e
  | frz ob u => obtain ⟨e, _⟩ := x; exact Heap.lt_size e
  | tbl ps => exact Heap.lt_size (show h.get? a = some _ from x)
  | met f y => exact Heap.lt_size (show h.get? a = some _ from x)
  | ext φ => obtain ⟨_, ⟨_, e⟩, _⟩ := x; exact Heap.lt_size e
theorem Paired.mapP {α β : Type} {F G : α → β → Prop} : ∀ {l₁ : List α} {l₂ : List β}, Paired F l₁ l₂ → (∀ a b, F a b → G a b) → Paired G l₁ l₂
  | _, _, .nil, _ => .nil
  | _, _, .cons r t, f => .cons (f _ _ r) (Paired.mapP t f)
/-- what an object's description leans on: its own object, its own dict, the tuples -/
theorem ObjOk.stay (x : ObjOk P w H h a o) (k : ∀ b u, (b = a ∨ H b = some (.own a)) → h.get? b = some u → h'.get? b = some u)
    (ho : ∀ b, H b = some (.own a) → H' b = some (.own a)) (ht : ∀ b xs, H b = some (.tup xs) → H' b = some (.tup xs)) : ObjOk P w H' h' a o := by
  induction o with
  | lst xs => obtain ⟨z, its, n, r, e⟩ := x; exact ⟨z, its, n, r, k _ _ (.inl rfl) e⟩
  | tup xs => obtain ⟨z, its, r, ob, e, c⟩ := x; exact ⟨z, its, r, ob, k _ _ (.inl rfl) e, c⟩
  | dK kvs => obtain ⟨z, y, vs, r, ob, es, ep, e, c⟩ := x; exact ⟨z, y, vs, r, ob, es, ep, k _ _ (.inl rfl) e, c⟩
  | dT kvs =>
    obtain ⟨z, y, xs, r, ob, es, ep, e, c⟩ := x
    exact ⟨z, y, xs, Paired.mapP r fun p q z => ⟨z.1, ht _ _ z.2.1, z.2.2⟩, ob, es, ep, k _ _ (.inl rfl) e, c⟩
  | set S n => obtain ⟨ob, es, ep, t, e, c⟩ := x; exact ⟨ob, es, ep, t, k _ _ (.inl rfl) e, c⟩
  | ins C dx fs =>
    obtain ⟨d, z, ne, e, mA, ⟨od, es, ep, e2, c⟩, r⟩ := x
    exact ⟨ho _ d, z, ne, k _ _ (.inl rfl) e, mA, ⟨od, es, ep, k _ _ (.inr d) e2, c⟩, r⟩
  | own y => obtain ⟨ob, e⟩ := x; exact ⟨ob, k _ _ (.inl rfl) e⟩
  | xd fs => obtain ⟨mA, ⟨od, es, ep, e, c⟩, r⟩ := x; exact ⟨mA, ⟨od, es, ep, k _ _ (.inl rfl) e, c⟩, r⟩
  | rng lo hi => obtain ⟨t, u, v, e⟩ := x; exact ⟨t, u, v, k _ _ (.inl rfl) e⟩
  | frz ob u ih => obtain ⟨e, q⟩ := x; exact ⟨k _ _ (.inl rfl) e, ih q⟩
  | tbl ps =>
    have e : h.get? a = some { cls := .none, data := .fields ps } := x
    show h'.get? a = some { cls := .none, data := .fields ps }
    exact k a _ (.inl rfl) e
  | met f y =>
    have e : h.get? a = some (PySem.W.methodObj (.ref f) (.ref y)) := x
    show h'.get? a = some (PySem.W.methodObj (.ref f) (.ref y))
    exact k a _ (.inl rfl) e
  | ext φ => obtain ⟨p, ⟨o, e⟩, st⟩ := x; exact ⟨st _ _ p fun o q => k _ _ (.inl rfl) q, ⟨o, k _ _ (.inl rfl) e⟩, st⟩
theorem HOk.lt (x : HOk P w H h) (e : H a = some o) : a < h.objs.size := (x a o e).lt
theorem HOk.fresh (x : HOk P w H h) (e : h.objs.size ≤ a) : H a = none := by
  cases q : H a with
  | none => rfl
  | some u => exact absurd (Nat.lt_of_lt_of_le (x.lt q) e) (Nat.lt_irrefl _)
/-- every object of the heap is kept -/
theorem HOk.kept (x : HOk P w H h) (k : ∀ b u, h.get? b = some u → h'.get? b = some u) : HOk P w H h' := fun a o e =>
  (x a o e).stay (fun b u _ q => k b u q) (fun _ q => q) fun _ _ q => q
/-- a new object is laid and tracked -/
theorem HOk.laid (x : HOk P w H h) (k : ∀ b u, h.get? b = some u → h'.get? b = some u) (hp : h.objs.size ≤ a) (new : ObjOk P w (upd H a o) h' a o) : HOk P w (upd H a o) h' := fun b u e => by
  have hn := x.fresh hp
  by_cases hb : b = a
  · subst hb; rw [upd_same] at e; cases e; exact new
  · rw [upd_ne hb] at e
    exact (x b u e).stay (fun c v _ q => k c v q) (fun c q => by rw [upd_ne (ne_of_none q hn)]; exact q) fun c xs q => by rw [upd_ne (ne_of_none q hn)]; exact q
end
/-- what may be read as u: it is u, or a known u -/
def Rd (H : Hp) (a : Addr) (u : HO) : Prop := H a = some u ∨ ∃ o, H a = some (.frz o u)
theorem Rd.of {H : Hp} {a : Addr} {u : HO} (h : H a = some u) : Rd H a u := .inl h
theorem Rd.ok {P : Program} {w : World} {H : Hp} {h : Heap} {a : Addr} {u : HO} (r : Rd H a u) (x : HOk P w H h) : ObjOk P w H h a u := by
  rcases r with r | ⟨o, r⟩
  · exact x a u r
  · obtain ⟨_, q⟩ := x a _ r
    exact q
/-- what may be written -/
def Mut : Option HO → Prop
  | some (.lst _) => True
  | some (.dK _) => True
  | some (.dT _) => True
  | some (.set _ _) => True
  | some (.ins _ _ _) => True
  | some (.ext _) => True
  | _ => False
section
variable {P : Program} {w : World} {H : Hp} {h h' : Heap} {x e : Addr} {o' : HO}
/-- the object at e is changed: x itself, or the dict of the instance x -/
theorem HOk.write (ok : HOk P w H h) (mu : Mut (H x)) (he : e = x ∨ H e = some (.own x)) (k : ∀ b u, b ≠ e → h.get? b = some u → h'.get? b = some u) (heo : ∃ u, h'.get? e = some u)
    (new : ObjOk P w (upd H x o') h' x o') : HOk P w (upd H x o') h' := fun b u q => by
  have nown : ∀ c y, H c = some (.own y) → c ≠ x := fun c y r z => by subst z; rw [r] at mu; exact mu
  have ntup : ∀ c xs, H c = some (.tup xs) → c ≠ x := fun c xs r z => by subst z; rw [r] at mu; exact mu
  by_cases hb : b = x
  · subst hb; rw [upd_same] at q; cases q; exact new
  · rw [upd_ne hb] at q
    by_cases hbe : b = e
    · have q' : H b = some (.own x) := by
        rcases he with z | z
        · exact absurd (hbe.trans z) hb
        · rw [hbe]; exact z
      rw [q] at q'; cases q'
      obtain ⟨v, hv⟩ := heo
      exact ⟨v, by rw [hbe]; exact hv⟩
    · refine (ok b u q).stay (fun c v hc r => k c v ?_ r) (fun c r => by rw [upd_ne (nown c b r)]; exact r) fun c xs r => by rw [upd_ne (ntup c xs r)]; exact r
      rcases hc with rfl | hc
      · exact hbe
      · rintro rfl
        rcases he with z | z
        · exact nown c b hc z
        · rw [hc] at z; cases z; exact hb rfl
end
/-! ### kept unless tracked; of the frames at fs (the callers') the slots may change (an exception that passes writes there); of the records at ex (iterators) nothing is said -/
structure Un (fs ex : List Addr) (H H' : Hp) (h h' : Heap) : Prop where
  keep : ∀ b o, h.get? b = some o → H b = none → b ∉ fs → b ∉ ex → h'.get? b = some o
  slot : ∀ b o, h.get? b = some o → H b = none → b ∈ fs → b ∉ ex → ∃ sl, h'.get? b = some { o with slots := sl }
  free : ∀ b o, h.get? b = some o → H b = none → b ∉ ex → H' b = none
  there : ∀ b o, h.get? b = some o → b ∉ ex → ∃ o', h'.get? b = some o'
  tups : ∀ b xs, H b = some (.tup xs) → H' b = some (.tup xs)
  frzs : ∀ b o u, H b = some (.frz o u) → H' b = some (.frz o u)
  tbls : ∀ b ps, H b = some (.tbl ps) → ∃ more, H' b = some (.tbl (ps ++ more))
section
variable {fs fs' ex ex' : List Addr} {H H1 H2 : Hp} {h h1 h2 h' : Heap} {a x e : Addr} {o : HO}
theorem Un.any (u : Un fs ex H H1 h h1) {b : Addr} {ob : Obj} (q : h.get? b = some ob) (n : H b = none) (hx : b ∉ ex) : ∃ sl, h1.get? b = some { ob with slots := sl } := by
  by_cases hb : b ∈ fs
  · exact u.slot b ob q n hb hx
  · exact ⟨ob.slots, u.keep b ob q n hb hx⟩
theorem Un.trans (a : Un fs ex H H1 h h1) (b : Un fs ex H1 H2 h1 h2) : Un fs ex H H2 h h2 where
  keep := fun c ob q n hc hx => b.keep c ob (a.keep c ob q n hc hx) (a.free c ob q n hx) hc hx
  slot := fun c ob q n hc hx => by
    obtain ⟨sl, e1⟩ := a.slot c ob q n hc hx
    obtain ⟨sl', e2⟩ := b.slot c _ e1 (a.free c ob q n hx) hc hx
    exact ⟨sl', e2⟩
  free := fun c ob q n hx => by
    obtain ⟨o', e1⟩ := a.there c ob q hx
    exact b.free c o' e1 (a.free c ob q n hx) hx
  there := fun c ob q hx => by
    obtain ⟨o', e1⟩ := a.there c ob q hx
    exact b.there c o' e1 hx
  tups := fun c xs q => b.tups c xs (a.tups c xs q)
  frzs := fun c ob xs q => b.frzs c ob xs (a.frzs c ob xs q)
  tbls := fun c ps q => by
    obtain ⟨m1, e1⟩ := a.tbls c ps q
    obtain ⟨m2, e2⟩ := b.tbls c _ e1
    exact ⟨m1 ++ m2, by rw [e2, Array.append_assoc]⟩
theorem Un.kept (k : ∀ b u, h.get? b = some u → h'.get? b = some u) : Un fs ex H H h h' :=
  ⟨fun b ob q _ _ _ => k b ob q, fun b ob q _ _ _ => ⟨ob.slots, k b ob q⟩, fun _ _ _ n _ => n, fun b ob q _ => ⟨ob, k b ob q⟩, fun _ _ q => q, fun _ _ _ q => q, fun _ ps q => ⟨#[], by rw [q]; simp⟩⟩
theorem Un.refl : Un fs ex H H h h := Un.kept fun _ _ q => q
theorem Un.laid (k : ∀ b u, h.get? b = some u → h'.get? b = some u) (hp : h.objs.size ≤ a) (hn : H a = none) : Un fs ex H (upd H a o) h h' where
  keep := fun b u q _ _ _ => k b u q
  slot := fun b u q _ _ _ => ⟨u.slots, k b u q⟩
  free := fun b u q n _ => by rw [upd_ne (Nat.ne_of_lt (Nat.lt_of_lt_of_le (Heap.lt_size q) hp))]; exact n
  there := fun b u q _ => ⟨u, k b u q⟩
  tups := fun b xs q => by rw [upd_ne (ne_of_none q hn)]; exact q
  frzs := fun b u xs q => by rw [upd_ne (ne_of_none q hn)]; exact q
  tbls := fun b ps q => ⟨#[], by rw [upd_ne (ne_of_none q hn), q]; simp⟩
theorem Un.write (mu : Mut (H x)) (he : e = x ∨ H e = some (.own x)) (k : ∀ b u, b ≠ e → h.get? b = some u → h'.get? b = some u) (heo : ∃ u, h'.get? e = some u) : Un fs ex H (upd H x o) h h' := by
  have hx : ∀ b, H b = none → b ≠ x := fun b n z => by subst z; rw [n] at mu; exact mu
  have hb : ∀ b, H b = none → b ≠ e := fun b n z => by
    subst z
    rcases he with r | r
    · exact hx b n r
    · rw [n] at r; cases r
  have hm : ∀ b u, H b = some u → ¬ Mut (some u) → b ≠ x := fun b u q nm z => by subst z; rw [q] at mu; exact nm mu
  refine ⟨fun b u q n _ _ => k b u (hb b n) q, fun b u q n _ _ => ⟨u.slots, k b u (hb b n) q⟩, fun b u q n _ => by rw [upd_ne (hx b n)]; exact n, fun b u q _ => ?_,
    fun b xs q => by rw [upd_ne (hm b _ q fun z => z)]; exact q, fun b u xs q => by rw [upd_ne (hm b _ q fun z => z)]; exact q, fun b ps q => ⟨#[], by rw [upd_ne (hm b _ q fun z => z), q]; simp⟩⟩
  by_cases hbe : b = e
  · subst hbe; exact heo
  · exact ⟨u, k b u hbe q⟩
theorem Un.mono (u : Un fs ex H H1 h h1) (hs : ∀ b ∈ fs, b ∈ fs') (hx : ∀ b ∈ ex, b ∈ ex') : Un fs' ex' H H1 h h1 :=
  ⟨fun b ob q n hb he => u.keep b ob q n (fun z => hb (hs b z)) fun z => he (hx b z), fun _ _ q n _ he => u.any q n fun z => he (hx _ z), fun b ob q n he => u.free b ob q n fun z => he (hx b z), fun b ob q he => u.there b ob q fun z => he (hx b z), u.tups, u.frzs, u.tbls⟩
end
/-! ### the heap without what is tracked -/
def trk (h : Heap) (H : Hp) : List Addr := (List.range h.objs.size).filter fun a => (H a).isSome
def hidT (h : Heap) (H : Hp) : Heap := PySem.W.hideAll h (trk h H)
theorem hidT_size (h : Heap) (H : Hp) : (hidT h H).objs.size = h.objs.size := PySem.W.hideAll_size _ _
theorem hidT_get {h : Heap} {H : Hp} {b : Addr} {o : Obj} (e : h.get? b = some o) (n : H b = none) : (hidT h H).get? b = some o :=
  PySem.W.hideAll_get _ e fun hm => by
    have q : (H b).isSome = true := (List.mem_filter.mp hm).2
    rw [n] at q; simp at q
theorem of_hidT {h : Heap} {H : Hp} {b : Addr} {o : Obj} (e : (hidT h H).get? b = some o) : h.get? b = some o ∧ H b = none := by
  have e' : h.get? b = some o := PySem.W.of_hideAll (trk h H) e
  refine ⟨e', ?_⟩
  cases q : H b with
  | none => rfl
  | some x =>
    have hm : b ∈ trk h H := List.mem_filter.mpr ⟨List.mem_range.mpr (Heap.lt_size e'), by simp [q]⟩
    have z : (hidT h H).get? b = none := PySem.W.hideAll_none (trk h H) hm
    rw [z] at e; cases e
/-! ### OpenK's ledger, filled with every new object but one -/
def allNews (g h : Heap) (L : Addr) : List (Addr × Obj) := (List.range h.objs.size).filterMap fun a => if a = L ∨ (g.get? a).isSome = true then none else (h.get? a).map fun o => (a, o)
def rest (g h : Heap) (L d : Addr) : List (Addr × Obj) := (allNews g h L).filter fun p => decide (p.1 ≠ d)
end L2
namespace L2
open PySem PySem.Spec PyProof.Rows
/-- the module's facts, over the base: the heap at the law's entry without what is tracked there -/
structure Mod (K : PySem.W.Frag) (mg : Str → Option Value) (base : Heap) : Prop where
  kin : K.In base
  glob : base.Ns mainGlobals mg
  blt : ∃ mb, base.Ns builtinsNs mb ∧ ∀ x : Str, x ≠ "__name__" → mb x = bootBuiltins x
  nolimit : base.NoLimit
/-- the context: a def's body (or a comprehension's block) running. base: fixed through the whole law; s₀, H₀: the entry; outer: the frames whose slots others may change (a def's callers); stack: all frames that run;
   ex: iterators that were made ahead of the entry and are walked here (a comprehension's); fn: the names whose cells were made at the entry (a def: all; a comprehension's block: its own); calm: not within an except suite; pn: pins that every state bears; xe: what is wanted of an exception that leaves the code -/
structure Cx where
  prog : Program
  w : World
  K : PySem.W.Frag
  mg : Str → Option Value
  base : Heap
  A : Around
  N : List Str
  s₀ : Shared
  H₀ : Hp
  env : Env
  outer : List Env
  stack : List Env
  ex : List Addr
  fn : Str → Bool
  calm : Bool
  pn : List (Addr × Obj)
  xe : Value → Shared → Prop
/-- the callers' frames -/
def frs (l : List Env) : List Addr := l.filterMap (·.frame)
abbrev Cx.fs (X : Cx) : List Addr := frs X.outer
def Vis (sc : Scope) (x : Str) : Prop := sc.names.lookup x = some .local ∨ sc.names.lookup x = some .cell ∨ sc.names.lookup x = some .free
def Loc (sc : Scope) (x : Str) : Prop := sc.names.lookup x = some .local ∨ sc.names.lookup x = some .cell
def Look (env : Env) (h : Heap) (m : Str → Option Value) (x : Str) (u : Value) : Prop :=
  (env.kindOf x = some .local ∧ m x = some u) ∨ ((env.kindOf x = some .cell ∨ env.kindOf x = some .free) ∧ ∃ c, env.cells.lookup x = some c ∧ h.IsCell c (some u))
structure Cx.Ok (X : Cx) : Prop where
  mod : Mod X.K X.mg X.base
  kind : X.env.scope.kind = .function
  glob : X.env.globals = mainGlobals
  blt : X.env.builtins = builtinsNs
  above : X.s₀.heap.objs.size ≤ X.env.locals
  inj : ∀ x y c, X.env.cells.lookup x = some c → X.env.cells.lookup y = some c → x = y
  has : ∀ x, (X.env.kindOf x = some .cell ∨ X.env.kindOf x = some .free) → ∃ c, X.env.cells.lookup x = some c
  cab : ∀ x c, X.fn x = true → X.env.cells.lookup x = some c → X.s₀.heap.objs.size ≤ c
  hd : X.calm = true → X.A.handled = none
  frames : X.A.frames = some X.stack
  stk : X.stack = X.outer ∨ (X.stack = X.env :: X.outer ∧ X.env.frame = some X.env.locals)
  exf : ∀ b ∈ X.ex, b ≠ X.env.locals ∧ ∀ x c, X.env.cells.lookup x = some c → c ≠ b
  bs : ∀ b o, X.base.get? b = some o → X.s₀.heap.get? b = some o ∧ X.H₀ b = none
  bsz : X.base.objs.size ≤ X.s₀.heap.objs.size
  noex : ∀ b o, X.base.get? b = some o → b ∉ X.ex
  exfs : ∀ b ∈ X.ex, b ∉ X.fs
  funs : X.s₀.heap.FunFrames X.base X.outer
  frf : ∀ b ∈ X.fs, X.H₀ b = none
structure Inv (X : Cx) (pins : List (Addr × Obj)) (σ : List (Option V)) (H : Hp) (s : Shared) : Prop where
  ok : X.Ok
  os : s.os = X.s₀.os
  bare : AllBare s.gens
  base : Un X.fs X.ex X.H₀ H X.s₀.heap s.heap
  loc : ∃ m, s.heap.Ns X.env.locals m ∧ ∀ (i : Nat) (x : Str) (v : V), X.N[i]? = some x → σ[i]? = some (some v) → Vis X.env.scope x → ∃ u, RelV v u ∧ Look X.env s.heap m x u
  cell : ∀ x c, X.env.cells.lookup x = some c → ∃ v, s.heap.IsCell c v
  free : H X.env.locals = none
  freeC : ∀ x c, X.env.cells.lookup x = some c → H c = none
  pin : ∀ p ∈ X.pn ++ pins, s.heap.get? p.1 = some p.2 ∧ H p.1 = none ∧ p.1 ≠ X.env.locals ∧ p.1 ∉ X.fs ∧ ∀ v, p.2.data ≠ .cell v
  hok : HOk X.prog X.w H s.heap
  len : σ.length = X.N.length
section
variable {X : Cx} {pins : List (Addr × Obj)} {σ : List (Option V)} {H H' : Hp} {s : Shared} {h' : Heap}
theorem Cx.Ok.nofr (ok : X.Ok) {b : Addr} {o : Obj} (e : X.base.get? b = some o) : b ∉ X.fs := fun hb => by
  have := (ok.funs.mem hb).1
  rw [e] at this; cases this
theorem Inv.bs (I : Inv X pins σ H s) : ∀ b o, X.base.get? b = some o → s.heap.get? b = some o ∧ H b = none := fun b o e =>
  ⟨I.base.keep b o (I.ok.bs b o e).1 (I.ok.bs b o e).2 (I.ok.nofr e) (I.ok.noex b o e), I.base.free b o (I.ok.bs b o e).1 (I.ok.bs b o e).2 (I.ok.noex b o e)⟩
theorem Inv.bk (I : Inv X pins σ H s) : ∀ b o, X.base.get? b = some o → s.heap.get? b = some o := fun b o e => (I.bs b o e).1
theorem Inv.mod (I : Inv X pins σ H s) : Mod X.K X.mg X.base := I.ok.mod
theorem Inv.kIn (I : Inv X pins σ H s) : X.K.In s.heap := I.ok.mod.kin.keeps I.bk
theorem Inv.nolimit (I : Inv X pins σ H s) : s.heap.NoLimit := I.ok.mod.nolimit.keeps I.bk
/-- the frame over the base: for OpenK's rules (K.In X.base is I.mod.kin) -/
theorem Inv.fr (I : Inv X pins σ H s) : ∃ m, Fr X.base X.env.locals s.heap m :=
  let ⟨m, hn, _⟩ := I.loc
  ⟨m, hn, I.bk, Nat.le_trans I.ok.bsz I.ok.above⟩
theorem Inv.lt (I : Inv X pins σ H s) : X.env.locals < s.heap.objs.size := let ⟨_, hn, _⟩ := I.loc; hn.lt
theorem Inv.sz (I : Inv X pins σ H s) : X.s₀.heap.objs.size ≤ s.heap.objs.size := Nat.le_trans I.ok.above (Nat.le_of_lt I.lt)
theorem Inv.nofs (I : Inv X pins σ H s) {a : Addr} (h : s.heap.objs.size ≤ a) : a ∉ X.fs := fun hb => by
  obtain ⟨_, o, ho, _⟩ := I.ok.funs.mem hb
  exact absurd (Nat.lt_of_lt_of_le (Heap.lt_size ho) (Nat.le_trans I.sz h)) (Nat.lt_irrefl _)
theorem Inv.cne (I : Inv X pins σ H s) : ∀ x c, X.env.cells.lookup x = some c → c ≠ X.env.locals := fun x c e z => by
  obtain ⟨v, o, ho, hd⟩ := I.cell x c e
  obtain ⟨m, ⟨o', es, ep, ho', hd', _⟩, _⟩ := I.loc
  rw [z, ho'] at ho; cases ho; rw [hd'] at hd; cases hd
theorem Inv.funs (I : Inv X pins σ H s) : s.heap.FunFrames X.base X.outer := by
  have all : ∀ (l : List Env), (∀ b ∈ frs l, b ∈ X.fs) → X.s₀.heap.FunFrames X.base l → s.heap.FunFrames X.base l := by
    intro l
    induction l with
    | nil => intro _ _; trivial
    | cons env r ih =>
      intro hs hl
      obtain ⟨hk, ⟨L, o, hf, hn, ho, hd⟩, hr⟩ := hl
      have hL : L ∈ X.fs := hs L (by unfold frs; rw [List.filterMap_cons, hf]; exact List.mem_cons_self)
      obtain ⟨sl, e⟩ := I.base.slot L o ho (I.ok.frf L hL) hL fun z => I.ok.exfs L z hL
      exact ⟨hk, ⟨L, _, hf, hn, e, hd⟩, ih (fun b hb => hs b (by unfold frs; rw [List.filterMap_cons, hf]; exact List.mem_cons_of_mem _ hb)) hr⟩
  exact all X.outer (fun _ hb => hb) I.ok.funs
/-- the frames that run, for a call -/
theorem Inv.stack (I : Inv X pins σ H s) : s.heap.FunFrames X.base X.stack := by
  rcases I.ok.stk with e | ⟨e, hf⟩
  · rw [e]; exact I.funs
  · rw [e]
    obtain ⟨m, hn, _⟩ := I.loc
    refine .cons (by rw [I.ok.kind]; decide) hf hn ?_ I.funs
    exact Heap.get?_none_of_le (Nat.le_trans I.ok.bsz I.ok.above)
theorem Inv.stkSub (I : Inv X pins σ H s) : ∀ b ∈ frs X.stack, b ∈ X.env.locals :: X.fs := fun b hb => by
  rcases I.ok.stk with e | ⟨e, hf⟩
  · rw [e] at hb; exact List.mem_cons_of_mem _ hb
  · rw [e] at hb
    unfold frs at hb
    rw [List.filterMap_cons, hf] at hb
    exact hb
theorem Inv.stkFree (I : Inv X pins σ H s) : ∀ b ∈ frs X.stack, H b = none := fun b hb => by
  rcases List.mem_cons.mp (I.stkSub b hb) with e | hb
  · rw [e]; exact I.free
  · obtain ⟨_, o, ho, _⟩ := I.ok.funs.mem hb
    exact I.base.free b o ho (I.ok.frf b hb) fun z => I.ok.exfs b z hb
/-- THE STEP: the untracked objects but the frame and the records at ch are kept (the callers' frames up to slots), the frame's map is kept, the new abstract heap is held -/
theorem Inv.step {g' : Array GenState} {t' : Nat} {d' : Drawn} {ch : List Addr} (I : Inv X pins σ H s)
    (hch : ∀ b ∈ ch, (b ∈ X.ex ∨ X.s₀.heap.objs.size ≤ b) ∧ b ≠ X.env.locals ∧ (∀ x c, X.env.cells.lookup x = some c → c ≠ b) ∧ ∀ p ∈ X.pn ++ pins, p.1 ≠ b)
    (keep : ∀ b o, b ≠ X.env.locals → b ∉ X.fs → b ∉ ch → s.heap.get? b = some o → H b = none → h'.get? b = some o)
    (slot : ∀ b o, b ≠ X.env.locals → b ∈ X.fs → b ∉ ch → s.heap.get? b = some o → H b = none → ∃ sl, h'.get? b = some { o with slots := sl }) (free : ∀ b o, b ∉ ch → s.heap.get? b = some o → H b = none → H' b = none)
    (there : ∀ b o, b ∉ ch → s.heap.get? b = some o → ∃ o', h'.get? b = some o')
    (tups : ∀ b xs, H b = some (.tup xs) → H' b = some (.tup xs)) (frzs : ∀ b o u, H b = some (.frz o u) → H' b = some (.frz o u)) (tbls : ∀ b ps, H b = some (.tbl ps) → ∃ more, H' b = some (.tbl (ps ++ more)))
    (ns : ∀ m, s.heap.Ns X.env.locals m → h'.Ns X.env.locals m) (hok : HOk X.prog X.w H' h') (hg : AllBare g') :
    Inv X pins σ H' { s with heap := h', gens := g', drawn := d', toks := t' } := by
  have neL : ∀ b o, X.s₀.heap.get? b = some o → b ≠ X.env.locals := fun b o e => Nat.ne_of_lt (Nat.lt_of_lt_of_le (Heap.lt_size e) I.ok.above)
  have neC : ∀ b o, X.s₀.heap.get? b = some o → b ∉ X.ex → b ∉ ch := fun b o e hx hb => by
    rcases (hch b hb).1 with z | z
    · exact hx z
    · exact absurd (Nat.lt_of_lt_of_le (Heap.lt_size e) z) (Nat.lt_irrefl _)
  have cellK : ∀ x c, X.env.cells.lookup x = some c → ∀ v, s.heap.IsCell c v → h'.IsCell c v := fun x c e v ⟨o, ho, hd⟩ => by
    have nch : c ∉ ch := fun z => (hch c z).2.2.1 x c e rfl
    by_cases hc : c ∈ X.fs
    · obtain ⟨sl, q⟩ := slot c o (I.cne x c e) hc nch ho (I.freeC x c e)
      exact ⟨_, q, hd⟩
    · exact ⟨o, keep c o (I.cne x c e) hc nch ho (I.freeC x c e), hd⟩
  refine ⟨I.ok, I.os, hg, ⟨fun b o e n hb hx => ?_, fun b o e n hb hx => ?_, fun b o e n hx => ?_, fun b o e hx => ?_, fun b xs e => tups b xs (I.base.tups b xs e), fun b o xs e => frzs b o xs (I.base.frzs b o xs e), fun b ps e => ?_⟩, ?_, fun x c e => ?_, ?_, fun x c e => ?_, fun p hp => ?_, hok, I.len⟩
  · exact keep b o (neL b o e) hb (neC b o e hx) (I.base.keep b o e n hb hx) (I.base.free b o e n hx)
  · obtain ⟨sl, e1⟩ := I.base.slot b o e n hb hx
    obtain ⟨sl', e2⟩ := slot b _ (neL b o e) hb (neC b o e hx) e1 (I.base.free b o e n hx)
    exact ⟨sl', e2⟩
  · obtain ⟨o', e1⟩ := I.base.there b o e hx
    exact free b o' (neC b o e hx) e1 (I.base.free b o e n hx)
  · obtain ⟨o', e1⟩ := I.base.there b o e hx
    exact there b o' (neC b o e hx) e1
  · obtain ⟨m1, e1⟩ := I.base.tbls b ps e
    obtain ⟨m2, e2⟩ := tbls b _ e1
    exact ⟨m1 ++ m2, by rw [e2, Array.append_assoc]⟩
  · obtain ⟨m, hn, hl⟩ := I.loc
    refine ⟨m, ns m hn, fun i x v e1 e2 e3 => ?_⟩
    obtain ⟨u, r, l⟩ := hl i x v e1 e2 e3
    refine ⟨u, r, ?_⟩
    rcases l with l | ⟨k, c, e, z⟩
    · exact .inl l
    · exact .inr ⟨k, c, e, cellK x c e _ z⟩
  · obtain ⟨v, z⟩ := I.cell x c e
    exact ⟨v, cellK x c e v z⟩
  · obtain ⟨m, ⟨o, _, _, ho, _⟩, _⟩ := I.loc
    exact free _ o (fun z => (hch _ z).2.1 rfl) ho I.free
  · obtain ⟨v, o, ho, hd⟩ := I.cell x c e
    exact free c o (fun z => (hch c z).2.2.1 x c e rfl) ho (I.freeC x c e)
  · obtain ⟨e, n, ne, nf, d⟩ := I.pin p hp
    have nch : p.1 ∉ ch := fun z => (hch p.1 z).2.2.2 p hp rfl
    exact ⟨keep p.1 p.2 ne nf nch e n, free p.1 p.2 nch e n, ne, nf, d⟩
/-- .. where the frame's own object is kept too -/
theorem Inv.un {t' : Nat} (I : Inv X pins σ H s) (u : Un X.fs [] H H' s.heap h') (hok : HOk X.prog X.w H' h') : Inv X pins σ H' { s with heap := h', toks := t' } := by
  obtain ⟨m, ⟨o, es, ep, ho, r⟩, _⟩ := id I.loc
  obtain ⟨sl, hL⟩ := u.any ho I.free (by simp)
  exact I.step (g' := s.gens) (d' := s.drawn) (ch := []) (fun _ z => nomatch z) (fun b o _ hb _ e n => u.keep b o e n hb (by simp)) (fun b o _ hb _ e n => u.slot b o e n hb (by simp)) (fun b o _ e n => u.free b o e n (by simp)) (fun b o _ e => u.there b o e (by simp)) u.tups u.frzs u.tbls (fun m' hm => by
    obtain ⟨o', es', ep', ho', r'⟩ := hm
    rw [ho] at ho'; cases ho'
    exact ⟨_, es', ep', hL, r'⟩) hok I.bare
/-- behind a call (or a comprehension's block): the slots of this frame may have changed too, the records at ch may have turned -/
theorem Inv.call {g' : Array GenState} {t' : Nat} {d' : Drawn} {ch : List Addr} (I : Inv X pins σ H s) (u : Un (frs X.stack) ch H H' s.heap h') (hok : HOk X.prog X.w H' h') (hg : AllBare g')
    (hch : ∀ b ∈ ch, (b ∈ X.ex ∨ X.s₀.heap.objs.size ≤ b) ∧ b ≠ X.env.locals ∧ (∀ x c, X.env.cells.lookup x = some c → c ≠ b) ∧ ∀ p ∈ X.pn ++ pins, p.1 ≠ b) :
    Inv X pins σ H' { s with heap := h', gens := g', drawn := d', toks := t' } := by
  obtain ⟨m, ⟨o, es, ep, ho, r⟩, _⟩ := id I.loc
  obtain ⟨sl, hL⟩ := u.any ho I.free fun z => (hch _ z).2.1 rfl
  exact I.step (ch := ch) hch (fun b o hL hb hc e n => u.keep b o e n (fun z => (List.mem_cons.mp (I.stkSub b z)).elim hL hb) hc) (fun b o _ _ hc e n => u.any e n hc) (fun b o hc e n => u.free b o e n hc) (fun b o hc e => u.there b o e hc) u.tups u.frzs u.tbls (fun m' hm => by
    obtain ⟨o', es', ep', ho', r'⟩ := hm
    rw [ho] at ho'; cases ho'
    exact ⟨_, es', ep', hL, r'⟩) hok hg
/-- an untracked record of ours (an iterator) has turned -/
theorem Inv.turned {t' : Nat} {it : Addr} (I : Inv X pins σ H s) (k : ∀ b o, b ≠ it → s.heap.get? b = some o → h'.get? b = some o) (hn : H it = none) (hL : it ≠ X.env.locals)
    (h1 : it ∈ X.ex ∨ X.s₀.heap.objs.size ≤ it) (h2 : ∀ x c, X.env.cells.lookup x = some c → c ≠ it) (h3 : ∀ p ∈ X.pn ++ pins, p.1 ≠ it) : Inv X pins σ H { s with heap := h', toks := t' } := by
  have nit : ∀ b u, H b = some u → b ≠ it := fun b u e z => by rw [z, hn] at e; cases e
  refine I.step (g' := s.gens) (d' := s.drawn) (ch := [it]) (fun b hb => ?_) (fun b o _ _ hc e _ => k b o (fun z => hc (by simp [z])) e) (fun b o _ _ hc e _ => ⟨o.slots, k b o (fun z => hc (by simp [z])) e⟩) (fun _ _ _ _ n => n)
    (fun b o hc e => ⟨o, k b o (fun z => hc (by simp [z])) e⟩) (fun _ _ e => e) (fun _ _ _ e => e) (fun b ps e => ⟨#[], by rw [e]; simp⟩) (fun m hm => ?_) (fun b u e => ?_) I.bare
  · have e : b = it := by simpa using hb
    subst e
    exact ⟨h1, hL, h2, h3⟩
  · obtain ⟨o, es, ep, ho, r⟩ := hm
    exact ⟨o, es, ep, k _ o (Ne.symm hL) ho, r⟩
  · refine (I.hok b u e).stay (fun c v hc q => k c v ?_ q) (fun _ q => q) fun _ _ q => q
    rcases hc with z | z
    · rw [z]; exact nit b u e
    · exact nit c _ z
theorem Inv.tok (I : Inv X pins σ H s) (t : Nat) : Inv X pins σ H { s with toks := t } := I.un (h' := s.heap) (t' := t) Un.refl I.hok
/-- all objects kept -/
theorem Inv.kept {t' : Nat} (I : Inv X pins σ H s) (k : ∀ b u, s.heap.get? b = some u → h'.get? b = some u) : Inv X pins σ H { s with heap := h', toks := t' } := I.un (Un.kept k) (I.hok.kept k)
/-- a new object laid and tracked -/
theorem Inv.laid {a : Addr} {o : HO} {t' : Nat} (I : Inv X pins σ H s) (k : ∀ b u, s.heap.get? b = some u → h'.get? b = some u) (hp : s.heap.objs.size ≤ a) (new : ObjOk X.prog X.w (upd H a o) h' a o) :
    Inv X pins σ (upd H a o) { s with heap := h', toks := t' } := I.un (Un.laid k hp (I.hok.fresh hp)) (I.hok.laid k hp new)
/-- an object written -/
theorem Inv.write {x e : Addr} {o : HO} {t' : Nat} (I : Inv X pins σ H s) (mu : Mut (H x)) (he : e = x ∨ H e = some (.own x)) (k : ∀ b u, b ≠ e → s.heap.get? b = some u → h'.get? b = some u) (heo : ∃ u, h'.get? e = some u)
    (new : ObjOk X.prog X.w (upd H x o) h' x o) : Inv X pins σ (upd H x o) { s with heap := h', toks := t' } := I.un (Un.write mu he k heo) (I.hok.write mu he k heo new)
/-- forgetting slots, pins -/
theorem Inv.weak {σ' : List (Option V)} (I : Inv X pins σ H s) (hl : σ'.length = σ.length) (w : ∀ (i : Nat) v, σ'[i]? = some (some v) → σ[i]? = some (some v)) : Inv X pins σ' H s :=
  ⟨I.ok, I.os, I.bare, I.base, let ⟨m, hn, hl'⟩ := I.loc; ⟨m, hn, fun i x v e1 e2 e3 => hl' i x v e1 (w i v e2) e3⟩, I.cell, I.free, I.freeC, I.pin, I.hok, hl.trans I.len⟩
theorem Inv.pins_of {pins' : List (Addr × Obj)} (I : Inv X pins σ H s) (h : ∀ p ∈ pins', s.heap.get? p.1 = some p.2 ∧ H p.1 = none ∧ p.1 ≠ X.env.locals ∧ p.1 ∉ X.fs ∧ ∀ v, p.2.data ≠ .cell v) : Inv X pins' σ H s :=
  ⟨I.ok, I.os, I.bare, I.base, I.loc, I.cell, I.free, I.freeC, fun p hp => (List.mem_append.mp hp).elim (fun z => I.pin p (List.mem_append_left _ z)) (h p), I.hok, I.len⟩
theorem nodup_ix {N : List Str} (hN : N.Nodup) {i j : Nat} {x : Str} (a : N[i]? = some x) (b : N[j]? = some x) : i = j := by
  obtain ⟨h1, e1⟩ := List.getElem?_eq_some_iff.mp a
  obtain ⟨h2, e2⟩ := List.getElem?_eq_some_iff.mp b
  exact (List.getElem_inj hN).mp (e1.trans e2.symm)
/-- a name is stored; what changed -/
theorem store_ok2 {M : Model} {A : Around} {E : Value → Shared → Prop} {i : Nat} {x : Str} {v : V} {u : Value} {Q : Unit → Shared → Prop} (I : Inv X pins σ H s) (hN : X.N.Nodup) (hi : X.N[i]? = some x) (hx : Loc X.env.scope x) (r : RelV v u)
    (h : ∀ s', Inv X pins (σ.set i (some v)) H s' → (∃ a, Heap.SameBut a s.heap s'.heap ∧ (a = X.env.locals ∨ X.env.cells.lookup x = some a)) → Q () s') (hf : X.fn x = true ∨ X.env.scope.names.lookup x = some .local := by first | exact .inl rfl | exact .inr rfl | assumption) : wpAny M A (storeName X.env x u) Q E s := by
  obtain ⟨m, hn, hl⟩ := id I.loc
  have hcls : (X.env.scope.kind == .class || (X.env.scope.kind == .module && X.env.locals != X.env.globals)) = false := by rw [I.ok.kind]; rfl
  have hiσ : i < σ.length := by rw [I.len]; exact (List.getElem?_eq_some_iff.mp hi).1
  have cne := I.cne
  have tracked : ∀ {a : Addr} {h' : Heap}, (∃ o, s.heap.get? a = some o ∧ H a = none) → Heap.SameBut a s.heap h' → HOk X.prog X.w H h' := fun {a h'} ha hs b ob e => by
    obtain ⟨_, _, hfree⟩ := ha
    refine (I.hok b ob e).stay (fun c w' hc q => (hs.2 c ?_).trans q) (fun _ q => q) fun _ _ q => q
    rintro rfl
    rcases hc with rfl | hc
    · rw [hfree] at e; cases e
    · rw [hfree] at hc; cases hc
  rcases hx with hk | hk
  · refine wpAny_storeName_local hk hn (fun h' hn' hs => ?_) hcls
    obtain ⟨oL, _, _, hoL, _⟩ := id hn
    refine h _ ⟨I.ok, I.os, I.bare, ⟨fun b o e n hb hx => ?_, fun b o e n hb hx => ?_, I.base.free, fun b o e hx => ?_, I.base.tups, I.base.frzs, I.base.tbls⟩, ⟨_, hn', fun j y v' e1 e2 e3 => ?_⟩, fun y c e => ?_, I.free, I.freeC, fun p hp => ?_, tracked ⟨oL, hoL, I.free⟩ hs, by simpa using I.len⟩ ⟨_, hs, .inl rfl⟩
    · exact (hs.2 b (Nat.ne_of_lt (Nat.lt_of_lt_of_le (Heap.lt_size e) I.ok.above))).trans (I.base.keep b o e n hb hx)
    · obtain ⟨sl, e1⟩ := I.base.slot b o e n hb hx
      exact ⟨sl, (hs.2 b (Nat.ne_of_lt (Nat.lt_of_lt_of_le (Heap.lt_size e) I.ok.above))).trans e1⟩
    · obtain ⟨o', e1⟩ := I.base.there b o e hx
      exact ⟨o', (hs.2 b (Nat.ne_of_lt (Nat.lt_of_lt_of_le (Heap.lt_size e) I.ok.above))).trans e1⟩
    · by_cases hj : j = i
      · subst hj
        rw [hi] at e1; cases e1
        rw [List.getElem?_set_self hiσ] at e2
        cases e2
        exact ⟨u, r, .inl ⟨hk, by simp⟩⟩
      · rw [List.getElem?_set_ne (Ne.symm hj)] at e2
        obtain ⟨u', r', q⟩ := hl j y v' e1 e2 e3
        refine ⟨u', r', ?_⟩
        rcases q with ⟨k, e⟩ | ⟨k, c, e, z⟩
        · refine .inl ⟨k, ?_⟩
          have : y ≠ x := fun e => hj (nodup_ix hN e1 (e ▸ hi))
          simp [this, e]
        · exact .inr ⟨k, c, e, z.sameBut hs (cne y c e)⟩
    · obtain ⟨w', z⟩ := I.cell y c e
      exact ⟨w', z.sameBut hs (cne y c e)⟩
    · obtain ⟨e, n, ne, nf, d⟩ := I.pin p hp
      exact ⟨(hs.2 p.1 ne).trans e, n, ne, nf, d⟩
  · have hfn : X.fn x = true := by
      rcases hf with z | z
      · exact z
      · rw [z] at hk; cases hk
    obtain ⟨c, hc⟩ := I.ok.has x (.inl hk)
    obtain ⟨w', z⟩ := I.cell x c hc
    refine wpAny_storeName_cell I.ok.kind hk hc z (fun h' hc' hs => ?_)
    obtain ⟨oc, hoc, hocd⟩ := id z
    refine h { s with heap := h' } ⟨I.ok, I.os, I.bare, ⟨fun b o e n hb hx => ?_, fun b o e n hb hx => ?_, I.base.free, fun b o e hx => ?_, I.base.tups, I.base.frzs, I.base.tbls⟩, ⟨m, hn.sameBut hs (Ne.symm (cne x c hc)), fun j y v' e1 e2 e3 => ?_⟩, fun y c' e => ?_, I.free, I.freeC, fun p hp => ?_, tracked ⟨oc, hoc, I.freeC x c hc⟩ hs, by simpa using I.len⟩ ⟨c, hs, .inr hc⟩
    · exact (hs.2 b (Nat.ne_of_lt (Nat.lt_of_lt_of_le (Heap.lt_size e) (I.ok.cab x c hfn hc)))).trans (I.base.keep b o e n hb hx)
    · obtain ⟨sl, e1⟩ := I.base.slot b o e n hb hx
      exact ⟨sl, (hs.2 b (Nat.ne_of_lt (Nat.lt_of_lt_of_le (Heap.lt_size e) (I.ok.cab x c hfn hc)))).trans e1⟩
    · obtain ⟨o', e1⟩ := I.base.there b o e hx
      exact ⟨o', (hs.2 b (Nat.ne_of_lt (Nat.lt_of_lt_of_le (Heap.lt_size e) (I.ok.cab x c hfn hc)))).trans e1⟩
    · by_cases hj : j = i
      · subst hj
        rw [hi] at e1; cases e1
        rw [List.getElem?_set_self hiσ] at e2
        cases e2
        exact ⟨u, r, .inr ⟨.inl hk, c, hc, hc'⟩⟩
      · rw [List.getElem?_set_ne (Ne.symm hj)] at e2
        obtain ⟨u', r', q⟩ := hl j y v' e1 e2 e3
        refine ⟨u', r', ?_⟩
        rcases q with q | ⟨k, c', e, z'⟩
        · exact .inl q
        · refine .inr ⟨k, c', e, z'.sameBut hs ?_⟩
          rintro rfl
          exact hj (nodup_ix hN e1 (I.ok.inj _ _ _ e hc ▸ hi))
    · by_cases hcc : c' = c
      · subst hcc; exact ⟨_, hc'⟩
      · obtain ⟨w2, z2⟩ := I.cell y c' e
        exact ⟨w2, z2.sameBut hs hcc⟩
    · obtain ⟨e, n, ne, nf, d⟩ := I.pin p hp
      refine ⟨(hs.2 p.1 ?_).trans e, n, ne, nf, d⟩
      intro q
      rw [q, hoc] at e
      have q' : oc = p.2 := Option.some.inj e
      exact d w' (by rw [← q']; exact hocd)
theorem store_ok {M : Model} {A : Around} {E : Value → Shared → Prop} {i : Nat} {x : Str} {v : V} {u : Value} {Q : Unit → Shared → Prop} (I : Inv X pins σ H s) (hN : X.N.Nodup) (hi : X.N[i]? = some x) (hx : Loc X.env.scope x) (r : RelV v u)
    (h : ∀ s', Inv X pins (σ.set i (some v)) H s' → Q () s') (hf : X.fn x = true ∨ X.env.scope.names.lookup x = some .local := by first | exact .inl rfl | exact .inr rfl | assumption) : wpAny M A (storeName X.env x u) Q E s :=
  store_ok2 I hN hi hx r (fun s' I' _ => h s' I') hf
/-- behind a call or a block, the state as it is -/
theorem Inv.call' {s' : Shared} {ch : List Addr} (I : Inv X pins σ H s) (ho : s'.os = s.os) (u : Un (frs X.stack) ch H H' s.heap s'.heap) (hok : HOk X.prog X.w H' s'.heap) (hg : AllBare s'.gens)
    (hch : ∀ b ∈ ch, (b ∈ X.ex ∨ X.s₀.heap.objs.size ≤ b) ∧ b ≠ X.env.locals ∧ (∀ x c, X.env.cells.lookup x = some c → c ≠ b) ∧ ∀ p ∈ X.pn ++ pins, p.1 ≠ b) : Inv X pins σ H' s' := by
  obtain ⟨h', g', d', t', o'⟩ := s'
  have e : o' = s.os := ho
  subst e
  exact I.call (g' := g') (t' := t') (d' := d') u hok hg hch
end
/-! ### the judgements -/
/-- an exception: its class, its own dict's address (where it has one), the abstract heap behind it -/
abbrev XK := Value → Option Addr → Hp → Prop
abbrev St := List (Option V)
abbrev VK := V → Hp → Prop
/-- an expression's reading; a test's; an argument list's -/
abbrev TE := St → Hp → VK → Prop
abbrev TT := St → Hp → (Bool → Hp → Prop) → Prop
abbrev TA := St → Hp → (List V → Hp → Prop) → Prop
/-- what is wanted behind a statement -/
structure Ends where
  nx : St → Hp → Prop
  rt : VK
  bk : St → Hp → Prop := fun _ _ => False
  ct : St → Hp → Prop := fun _ _ => False
abbrev TS := Ends → St → Hp → Prop
def EP (X : Cx) (pins : List (Addr × Obj)) (σ : St) (Q : VK) (u : Value) (s' : Shared) : Prop := ∃ v H', Inv X pins σ H' s' ∧ RelV v u ∧ Q v H'
def TP (X : Cx) (pins : List (Addr × Obj)) (σ : St) (Q : Bool → Hp → Prop) (b : Bool) (s' : Shared) : Prop := ∃ H', Inv X pins σ H' s' ∧ Q b H'
def AP (X : Cx) (pins : List (Addr × Obj)) (σ : St) (Q : List V → Hp → Prop) (us : List Value) (s' : Shared) : Prop := ∃ vs H', Inv X pins σ H' s' ∧ Vals vs us ∧ Q vs H'
def SP (X : Cx) (pins : List (Addr × Obj)) (D : Ends) (f : Flow) (s' : Shared) : Prop :=
  match f with
  | .next => ∃ σ' H', Inv X pins σ' H' s' ∧ D.nx σ' H'
  | .brk => ∃ σ' H', Inv X pins σ' H' s' ∧ D.bk σ' H'
  | .cont => ∃ σ' H', Inv X pins σ' H' s' ∧ D.ct σ' H'
  | .ret u => ∃ v σ' H', Inv X pins σ' H' s' ∧ RelV v u ∧ D.rt v H'
def PE (X : Cx) (e : Expr) (t : TE) : Prop :=
  ∀ (pins : List (Addr × Obj)) (s : Shared) (σ : St) (H : Hp) (Q : VK), Inv X pins σ H s → t σ H Q → wpAny (model X.prog X.w) X.A (eval e X.env) (EP X pins σ Q) X.xe s
def PT (X : Cx) (e : Expr) (t : TT) : Prop :=
  ∀ (pins : List (Addr × Obj)) (s : Shared) (σ : St) (H : Hp) (Q : Bool → Hp → Prop), Inv X pins σ H s → t σ H Q → wpAny (model X.prog X.w) X.A (isTrue e X.env (eval e X.env)) (TP X pins σ Q) X.xe s
/-- a test whatever its 'whole' is (and, or) -/
def PW (X : Cx) (e : Expr) (t : TT) : Prop :=
  ∀ (whole : Sem Value) (pins : List (Addr × Obj)) (s : Shared) (σ : St) (H : Hp) (Q : Bool → Hp → Prop), Inv X pins σ H s → t σ H Q → wpAny (model X.prog X.w) X.A (isTrue e X.env whole) (TP X pins σ Q) X.xe s
theorem PW.pt {X : Cx} {e : Expr} {t : TT} (h : PW X e t) : PT X e t := h _
/-- an argument list (no star), from the left -/
def PA (X : Cx) (es : List Expr) (t : TA) : Prop :=
  ∀ (pos : Pos) (pins : List (Addr × Obj)) (s : Shared) (σ : St) (H : Hp) (Q : List V → Hp → Prop), Inv X pins σ H s → t σ H Q → wpAny (model X.prog X.w) X.A (spliced (backTo pos (starEach es X.env))) (AP X pins σ Q) X.xe s
def PS (X : Cx) (st : Stmt) (t : TS) : Prop :=
  ∀ (pins : List (Addr × Obj)) (s : Shared) (σ : St) (H : Hp) (D : Ends), Inv X pins σ H s → t D σ H → wpAny (model X.prog X.w) X.A (exec st X.env) (SP X pins D) X.xe s
def PSs (X : Cx) (st : List Stmt) (t : TS) : Prop :=
  ∀ (pins : List (Addr × Obj)) (s : Shared) (σ : St) (H : Hp) (D : Ends), Inv X pins σ H s → t D σ H → wpAny (model X.prog X.w) X.A (execs st X.env) (SP X pins D) X.xe s
/-- weaken the end -/
theorem thn {α : Type} {t : Sem α} {Q Q' : α → Shared → Prop} {M : Model} {A : Around} {E : Value → Shared → Prop} {s : Shared} (h : wpAny M A t Q E s) (hQ : ∀ a s, Q a s → Q' a s) : wpAny M A t Q' E s := wpAny_mono h hQ fun _ _ x => x
end L2
namespace L2
open PySem PySem.Spec PyProof.Rows
section
variable {X : Cx}
/-! ### names and constants -/
def tVar (i : Nat) : TE := fun σ H Q => ∃ v, σ[i]? = some (some v) ∧ Q v H
def tC (v : V) : TE := fun _ H Q => Q v H
theorem pe_var {i : Nat} {x : Str} {pos : Pos} (hN : X.N[i]? = some x) (hv : Vis X.env.scope x) (hd : (x == ("__debug__" : Str)) = false := by decide) (hcd : (x == ("__classdict__" : Str)) = false := by decide) : PE X (.Name x pos) (tVar i) := by
  intro pins s σ H Q I h
  obtain ⟨v, e, h⟩ := h
  obtain ⟨m, hn, hl⟩ := I.loc
  obtain ⟨u, r, l⟩ := hl i x v hN e hv
  have fin : EP X pins σ Q u s := ⟨v, H, I, r, h⟩
  rcases l with ⟨hk, hm⟩ | ⟨hk, c, hc, hcell⟩
  · exact wpAny_Name (wpAny_loadName_local I.ok.kind hk hn hm fin) hd
  · rcases hk with hk | hk
    · exact wpAny_Name (wpAny_loadName_cell I.ok.kind hk hc hcell fin) hd
    · exact wpAny_Name (wpAny_loadName_free I.ok.kind hk hc hcell fin hcd) hd
theorem pe_int {i j pos} : PE X (.Constant (.int i) j pos) (tC (.int i)) := fun _ _ _ H _ I h => wpAny_Constant_int ⟨.int i, H, I.tok _, ⟨_, rfl⟩, h⟩
theorem pe_bl {b j pos} : PE X (.Constant (.bool b) j pos) (tC (.bl b)) := fun _ _ _ H _ I h => Constant_bool ⟨.bl b, H, I, rfl, h⟩
theorem pe_non {j pos} : PE X (.Constant .none j pos) (tC .non) := fun _ _ _ H _ I h => Constant_none ⟨.non, H, I, rfl, h⟩
theorem pe_str {x j pos} : PE X (.Constant (.str x) j pos) (tC (.str x)) := fun _ _ _ H _ I h => Calls.Constant_str ⟨.str x, H, I.tok _, ⟨_, rfl⟩, h⟩
/-- a global name of the def -/
def Gl (X : Cx) (x : Str) : Prop := X.env.kindOf x = some .globalImplicit
theorem ld_glob {E : Value → Shared → Prop} {pins : List (Addr × Obj)} {s : Shared} {σ : St} {H : Hp} {x : Str} {u : Value} {pos : Pos} {Q : Value → Shared → Prop} (I : Inv X pins σ H s) (hg : Gl X x) (hm : X.mg x = some u) (h : Q u s)
    (hd : (x == ("__debug__" : Str)) = false := by decide) : wpAny (model X.prog X.w) X.A (eval (.Name x pos) X.env) Q E s :=
  Calls.Name_function_global I.ok.kind hg (Calls.loadGlobal_global (by rw [I.ok.glob]; exact I.mod.glob.keeps I.bk) hm h) hd
theorem ld_blt {E : Value → Shared → Prop} {pins : List (Addr × Obj)} {s : Shared} {σ : St} {H : Hp} {x : Str} {u : Value} {pos : Pos} {Q : Value → Shared → Prop} (I : Inv X pins σ H s) (hg : Gl X x) (hm : X.mg x = none) (hv : bootBuiltins x = some u) (h : Q u s)
    (hn : x ≠ "__name__" := by decide) (hd : (x == ("__debug__" : Str)) = false := by decide) : wpAny (model X.prog X.w) X.A (eval (.Name x pos) X.env) Q E s := by
  obtain ⟨mb, h1, h2⟩ := I.mod.blt
  exact Calls.Name_function_global I.ok.kind hg (Calls.loadGlobal_builtin (by rw [I.ok.glob]; exact I.mod.glob.keeps I.bk) hm (by rw [I.ok.blt]; exact h1.keeps I.bk) ((h2 x hn).trans hv) h) hd
/-- a module's constant, a class, a function, as a value -/
theorem pe_glob {x : Str} {v : V} {u : Value} {pos : Pos} (hg : Gl X x) (hm : X.mg x = some u) (r : RelV v u) (hd : (x == ("__debug__" : Str)) = false := by decide) : PE X (.Name x pos) (tC v) :=
  fun _ _ _ H _ I h => ld_glob I hg hm ⟨v, H, I, r, h⟩ hd
theorem pe_bltn {x : Str} {v : V} {u : Value} {pos : Pos} (hg : Gl X x) (hm : X.mg x = none) (hv : bootBuiltins x = some u) (r : RelV v u) (hn : x ≠ "__name__" := by decide) (hd : (x == ("__debug__" : Str)) = false := by decide) : PE X (.Name x pos) (tC v) :=
  fun _ _ _ H _ I h => ld_blt I hg hm hv ⟨v, H, I, r, h⟩ hn hd
variable {a b : Expr} {ta tb : TE} {pos : Pos}
/-- a comparison as a value, as a test -/
def tB (t : TE) : TT := fun σ H Q => t σ H fun x H1 => ∃ c, x = .bl c ∧ Q c H1
/-- an expression whose value is a bool, as a test -/
theorem pt_val {e : Expr} {t : TE} (h : PE X e t) (he : ∀ whole, isTrue e X.env whole = (do let v ← whole; standAt e.pos; holding [v] (truthy v)) := by intro _; rfl) : PT X e (tB t) := by
  intro pins s σ H Q I hw
  refine isTrue_plain (thn (h pins s σ H _ I hw) fun v s1 ⟨x, H1, I1, r1, q1⟩ => ?_) (he _)
  obtain ⟨d, rfl, q⟩ := q1
  cases r1
  exact wpAny_truthy_bool ⟨H1, I1, q⟩
/-! ### and, or, not -/
variable {tA tB' : TT} {rest : List Expr}
def tAnd (t u : TT) : TT := fun σ H Q => t σ H fun c H1 => if c = true then u σ H1 Q else Q false H1
def tOr (t u : TT) : TT := fun σ H Q => t σ H fun c H1 => if c = true then Q true H1 else u σ H1 Q
def tNot (t : TT) : TT := fun σ H Q => t σ H fun c H1 => Q (!c) H1
theorem pw_and1 (ha : PT X a tA) : PW X (.BoolOp .And [a] pos) tA := by
  intro wh pins s σ H Q I h
  refine isTrue_and (thn (ha pins s σ H Q I h) fun c s1 e => ?_)
  cases c with
  | true => exact isTrue_and_nil e
  | false => exact e
theorem pw_or1 (ha : PT X a tA) : PW X (.BoolOp .Or [a] pos) tA := by
  intro wh pins s σ H Q I h
  refine isTrue_or (thn (ha pins s σ H Q I h) fun c s1 e => ?_)
  cases c with
  | false => exact isTrue_or_nil e
  | true => exact e
theorem pw_and (ha : PT X a tA) (hb : PW X (.BoolOp .And (b :: rest) pos) tB') : PW X (.BoolOp .And (a :: b :: rest) pos) (tAnd tA tB') := by
  intro wh pins s σ H Q I h
  refine isTrue_and (thn (ha pins s σ H _ I h) fun c s1 ⟨H1, I1, q1⟩ => ?_)
  cases c with
  | true => exact hb wh pins s1 σ H1 Q I1 q1
  | false => exact ⟨H1, I1, q1⟩
theorem pw_or (ha : PT X a tA) (hb : PW X (.BoolOp .Or (b :: rest) pos) tB') : PW X (.BoolOp .Or (a :: b :: rest) pos) (tOr tA tB') := by
  intro wh pins s σ H Q I h
  refine isTrue_or (thn (ha pins s σ H _ I h) fun c s1 ⟨H1, I1, q1⟩ => ?_)
  cases c with
  | true => exact ⟨H1, I1, q1⟩
  | false => exact hb wh pins s1 σ H1 Q I1 q1
theorem pt_not (ha : PT X a tA) : PT X (.UnaryOp .Not a pos) (tNot tA) := by
  intro pins s σ H Q I h
  exact isTrue_not (ha pins s σ H (fun c H1 => Q (!c) H1) I h)
/-- .. as values (bools) -/
def tAndV (ta tb : TE) : TE := fun σ H Q => ta σ H fun x H1 => ∃ c, x = .bl c ∧ if c = true then tb σ H1 Q else Q (.bl false) H1
def tNotV (ta : TE) : TE := fun σ H Q => ta σ H fun x H1 => ∃ c, x = .bl c ∧ Q (.bl (!c)) H1
theorem pe_one {op} {t : TE} (h : PE X a t) : PE X (.BoolOp op [a] pos) t := fun pins s σ H Q I hw => BoolOp_one (h pins s σ H Q I hw)
theorem pe_and (ha : PE X a ta) (hb : PE X (.BoolOp .And (b :: rest) pos) tb) : PE X (.BoolOp .And (a :: b :: rest) pos) (tAndV ta tb) := by
  intro pins s σ H Q I h
  refine BoolOp_and (thn (ha pins s σ H _ I h) fun v s1 ⟨x, H1, I1, r1, q1⟩ => ?_)
  obtain ⟨c, rfl, q1⟩ := q1
  cases r1
  refine wpAny_truthy_bool ?_
  cases c with
  | true => exact hb pins s1 σ H1 Q I1 q1
  | false => exact ⟨.bl false, H1, I1, rfl, q1⟩
theorem pe_not (ha : PE X a ta) : PE X (.UnaryOp .Not a pos) (tNotV ta) := by
  intro pins s σ H Q I h
  refine UnaryOp_ (thn (ha pins s σ H _ I h) fun v s1 ⟨x, H1, I1, r1, q1⟩ => ?_)
  obtain ⟨c, rfl, q1⟩ := q1
  cases r1
  exact not_of (wpAny_truthy_bool ⟨.bl (!c), H1, I1, rfl, q1⟩)
/-- a if t else b -/
def tIf (t : TT) (ta tb : TE) : TE := fun σ H Q => t σ H fun c H1 => if c = true then ta σ H1 Q else tb σ H1 Q
theorem pe_ifExp {c : Expr} (hc : PT X c tA) (ha : PE X a ta) (hb : PE X b tb) : PE X (.IfExp c a b pos) (tIf tA ta tb) := by
  intro pins s σ H Q I h
  refine wpAny_IfExp (thn (hc pins s σ H _ I h) fun d s1 ⟨H1, I1, q1⟩ => ?_)
  cases d with
  | true => exact ha pins s1 σ H1 Q I1 q1
  | false => exact hb pins s1 σ H1 Q I1 q1
end
end L2
namespace L2
open PySem PySem.Spec PyProof.Rows
/-! ### a list, a tuple that is read: tracked, frozen, or an object of the module -/
def SqL (K : PySem.W.Frag) (H : Hp) (a : Addr) (xs : List V) : Prop :=
  Rd H a (.lst xs) ∨
    ∃ (o : Obj) (its : Array Value) (n : Nat), K.lookup a = some o ∧ o.cls = .type "list" ∧ o.dict = none ∧ o.data = .seq its n ∧ its.size ≤ sizeLine ∧ Vals xs its.toList
def SqT (K : PySem.W.Frag) (H : Hp) (a : Addr) (xs : List V) : Prop :=
  Rd H a (.tup xs) ∨
    ∃ (o : Obj) (its : Array Value) (n : Nat), K.lookup a = some o ∧ o.cls = .type "tuple" ∧ o.data = .seq its n ∧ its.size ≤ sizeLine ∧ Vals xs its.toList
def absV : Value → Option V
  | .none => some .non
  | .bool b => some (.bl b)
  | .int i _ => some (.int i)
  | .str x _ => some (.str x)
  | .bytes b _ => some (.byt b)
  | .float b _ => some (.flt b)
  | .ref a => some (.ref a)
  | .type n => some (.ty n)
  | _ => none
theorem RelV.abs {x : V} {u : Value} (r : RelV x u) : absV u = some x := by
  cases x with
  | non => cases r; rfl
  | bl _ => cases r; rfl
  | int _ => obtain ⟨t, rfl⟩ := r; rfl
  | str _ => obtain ⟨t, rfl⟩ := r; rfl
  | byt _ => obtain ⟨t, rfl⟩ := r; rfl
  | flt _ => obtain ⟨t, rfl⟩ := r; rfl
  | ref _ => cases r; rfl
  | ty _ => cases r; rfl
theorem RelV.inj {x y : V} {u : Value} (r : RelV x u) (q : RelV y u) : x = y := Option.some.inj (r.abs.symm.trans q.abs)
theorem Vals.inj : ∀ {xs ys : List V} {us : List Value}, Vals xs us → Vals ys us → xs = ys
  | _, _, _, .nil, .nil => rfl
  | _, _, _, .cons r t, .cons r' t' => by rw [r.inj r', Vals.inj t t']
section
variable {X : Cx} {pins : List (Addr × Obj)} {σ : St} {H : Hp} {s : Shared} {a : Addr} {xs ys : List V}
theorem SqL.of {K : PySem.W.Frag} (h : H a = some (.lst xs)) : SqL K H a xs := .inl (.inl h)
theorem SqT.of {K : PySem.W.Frag} (h : H a = some (.tup xs)) : SqT K H a xs := .inl (.inl h)
theorem Inv.list (I : Inv X pins σ H s) (h : SqL X.K H a xs) : ∃ its : List Value, Vals xs its ∧ PlainL s.heap a its.toArray ∧ xs.length ≤ sizeLine := by
  rcases h with h | ⟨o, its, n, hk, hc, hd, hs, hz, r⟩
  · obtain ⟨z, its, n, r, e⟩ := h.ok I.hok
    exact ⟨its, r, ⟨_, n, e, rfl, rfl, rfl⟩, z⟩
  · refine ⟨its.toList, r, ⟨o, n, I.kIn a o hk, hc, hd, by simpa using hs⟩, ?_⟩
    have e := r.length
    simp only [Array.length_toList] at e
    omega
theorem Inv.tuple (I : Inv X pins σ H s) (h : SqT X.K H a xs) : ∃ its : List Value, Vals xs its ∧ IsTup s.heap a its.toArray ∧ xs.length ≤ sizeLine := by
  rcases h with h | ⟨o, its, n, hk, hc, hs, hz, r⟩
  · obtain ⟨z, its, r, p⟩ := h.ok I.hok
    exact ⟨its, r, p, z⟩
  · refine ⟨its.toList, r, ⟨o, I.kIn a o hk, hc, n, by simpa using hs⟩, ?_⟩
    have e := r.length
    simp only [Array.length_toList] at e
    omega
theorem Inv.list_inj (I : Inv X pins σ H s) (h : SqL X.K H a xs) (h' : SqL X.K H a ys) : xs = ys := by
  obtain ⟨its, r, ⟨o, n, e, _, _, d⟩, _⟩ := I.list h
  obtain ⟨its', r', ⟨o', n', e', _, _, d'⟩, _⟩ := I.list h'
  rw [e] at e'; cases e'
  rw [d] at d'
  injection d' with d1 _
  have : its = its' := by simpa using congrArg Array.toList d1
  subst this
  exact r.inj r'
theorem Inv.tuple_inj (I : Inv X pins σ H s) (h : SqT X.K H a xs) (h' : SqT X.K H a ys) : xs = ys := by
  obtain ⟨its, r, ⟨o, e, _, n, d⟩, _⟩ := I.tuple h
  obtain ⟨its', r', ⟨o', e', _, n', d'⟩, _⟩ := I.tuple h'
  rw [e] at e'; cases e'
  rw [d] at d'
  injection d' with d1 _
  have : its = its' := by simpa using congrArg Array.toList d1
  subst this
  exact r.inj r'
end
/-! ### another wish about exceptions -/
abbrev Cx.wish (X : Cx) (E : Value → Shared → Prop) : Cx := { X with xe := E }
/-- no exception leaves -/
abbrev Cx.nox (X : Cx) : Cx := X.wish fun _ _ => False
theorem Cx.Ok.wish {X : Cx} (ok : X.Ok) (E : Value → Shared → Prop) : (X.wish E).Ok :=
  ⟨ok.mod, ok.kind, ok.glob, ok.blt, ok.above, ok.inj, ok.has, ok.cab, ok.hd, ok.frames, ok.stk, ok.exf, ok.bs, ok.bsz, ok.noex, ok.exfs, ok.funs, ok.frf⟩
theorem Cx.Ok.unwish {X : Cx} {E : Value → Shared → Prop} (ok : (X.wish E).Ok) : X.Ok :=
  ⟨ok.mod, ok.kind, ok.glob, ok.blt, ok.above, ok.inj, ok.has, ok.cab, ok.hd, ok.frames, ok.stk, ok.exf, ok.bs, ok.bsz, ok.noex, ok.exfs, ok.funs, ok.frf⟩
section
variable {X : Cx} {pins : List (Addr × Obj)} {σ : St} {H : Hp} {s : Shared} {E : Value → Shared → Prop}
theorem Inv.wish (I : Inv X pins σ H s) (E : Value → Shared → Prop) : Inv (X.wish E) pins σ H s := ⟨I.ok.wish E, I.os, I.bare, I.base, I.loc, I.cell, I.free, I.freeC, I.pin, I.hok, I.len⟩
theorem Inv.unwish (I : Inv (X.wish E) pins σ H s) : Inv X pins σ H s := ⟨I.ok.unwish, I.os, I.bare, I.base, I.loc, I.cell, I.free, I.freeC, I.pin, I.hok, I.len⟩
theorem SP.unwish {D : Ends} {f : Flow} {s' : Shared} (h : SP (X.wish E) pins D f s') : SP X pins D f s' := by
  cases f with
  | next => obtain ⟨σ', H', I, q⟩ := h; exact ⟨σ', H', I.unwish, q⟩
  | brk => obtain ⟨σ', H', I, q⟩ := h; exact ⟨σ', H', I.unwish, q⟩
  | cont => obtain ⟨σ', H', I, q⟩ := h; exact ⟨σ', H', I.unwish, q⟩
  | ret u => obtain ⟨v, σ', H', I, r, q⟩ := h; exact ⟨v, σ', H', I.unwish, r, q⟩
theorem PE.nox {e : Expr} {t : TE} (h : PE X.nox e t) : PE X e t := fun pins s σ H Q I hw =>
  wpAny_mono (h pins s σ H Q (I.wish _) hw) (fun _ _ ⟨v, H', I', r, q⟩ => ⟨v, H', I'.unwish, r, q⟩) fun _ _ z => False.elim z
theorem PT.nox {e : Expr} {t : TT} (h : PT X.nox e t) : PT X e t := fun pins s σ H Q I hw =>
  wpAny_mono (h pins s σ H Q (I.wish _) hw) (fun _ _ ⟨H', I', q⟩ => ⟨H', I'.unwish, q⟩) fun _ _ z => False.elim z
theorem PSs.nox {st : List Stmt} {t : TS} (h : PSs X.nox st t) : PSs X st t := fun pins s σ H D I hw =>
  wpAny_mono (h pins s σ H D (I.wish _) hw) (fun _ _ q => q.unwish) fun _ _ z => False.elim z
end
/-! ### blocks and small statements -/
section
variable {X : Cx} {st : Stmt} {rest : List Stmt} {t u : TS} {e : Expr} {te : TE} {pos : Pos}
def tNext : TS := fun D σ H => D.nx σ H
def tSeq (t u : TS) : TS := fun D σ H => t { D with nx := u D } σ H
theorem pss_nil : PSs X [] tNext := fun _ _ σ H _ I h => wpAny_execs_nil ⟨σ, H, I, h⟩
theorem pss_cons (h1 : PS X st t) (h2 : PSs X rest u) : PSs X (st :: rest) (tSeq t u) := by
  intro pins s σ H D I h
  refine wpAny_execs_cons (thn (h1 pins s σ H { D with nx := u D } I h) fun f s1 q => ?_)
  cases f with
  | next =>
    obtain ⟨σ', H', I', q⟩ := q
    exact h2 pins s1 σ' H' D I' q
  | ret v => exact q
  | brk => exact q
  | cont => exact q
/-- in a def's body nothing is shown -/
theorem Inv.quiet {pins : List (Addr × Obj)} {σ : St} {H : Hp} {s : Shared} (I : Inv X pins σ H s) : interactive X.env = false := by simp [interactive, I.ok.kind]
/-- an expression whose value is dropped -/
def tDrop (te : TE) : TS := fun D σ H => te σ H fun _ H1 => D.nx σ H1
theorem ps_expr (he : PE X e te) (hs : swapsWith e none pos.line X.env = pure false := by rfl) : PS X (.Expr e pos) (tDrop te) := by
  intro pins s σ H D I h
  exact wpAny_Expr_any (thn (he pins s σ H _ I h) fun v s1 ⟨x, H1, I1, r1, q1⟩ => ⟨σ, H1, I1, q1⟩) I.quiet hs
def tRet (te : TE) : TS := fun D σ H => te σ H D.rt
theorem ps_ret (he : PE X e te) : PS X (.Return (some e) pos) (tRet te) := by
  intro pins s σ H D I h
  exact wpAny_Return_some (thn (he pins s σ H _ I h) fun v s1 ⟨x, H1, I1, r1, q1⟩ => ⟨x, σ, H1, I1, r1, q1⟩)
def tIfS (c : TT) (t u : TS) : TS := fun D σ H => c σ H fun b H1 => if b = true then t D σ H1 else u D σ H1
theorem ps_if {c : Expr} {a b : List Stmt} {tc : TT} (hc : PT X c tc) (ha : PSs X a t) (hb : PSs X b u) : PS X (.If c a b pos) (tIfS tc t u) := by
  intro pins s σ H D I h
  refine wpAny_If (thn (hc pins s σ H _ I h) fun d s1 ⟨H1, I1, q1⟩ => ?_)
  cases d with
  | true => exact ha pins s1 σ H1 D I1 q1
  | false => exact hb pins s1 σ H1 D I1 q1
/-- code that the proof never comes to -/
def tNever : TS := fun _ _ _ => False
theorem pss_never {sts : List Stmt} : PSs X sts tNever := fun _ _ _ _ _ _ h => h.elim
end
/-! ### targets -/
abbrev TG := V → St → Hp → (St → Hp → Prop) → Prop
abbrev TGs := List V → St → Hp → (St → Hp → Prop) → Prop
def PG (X : Cx) (target : Expr) (t : TG) : Prop :=
  ∀ (pins : List (Addr × Obj)) (s : Shared) (σ : St) (H : Hp) (v : V) (u : Value) (Q : St → Hp → Prop), Inv X pins σ H s → RelV v u → t v σ H Q →
    wpAny (model X.prog X.w) X.A (assign target X.env u) (fun _ s' => ∃ σ' H', Inv X pins σ' H' s' ∧ Q σ' H') X.xe s
/-- several targets, one after another -/
def PGs (X : Cx) (ts : List Expr) (t : TGs) : Prop :=
  ∀ (pins : List (Addr × Obj)) (s : Shared) (σ : St) (H : Hp) (vs : List V) (us : List Value) (Q : St → Hp → Prop), Inv X pins σ H s → Vals vs us → t vs σ H Q →
    wpAny (model X.prog X.w) X.A (assignInOrder ((assignEach ts X.env).map (·.2)) us) (fun _ s' => ∃ σ' H', Inv X pins σ' H' s' ∧ Q σ' H') X.xe s
/-- a op= b, by values -/
abbrev TIp := V → V → Hp → VK → Prop
def PIp (X : Cx) (op : Operator) (t : TIp) : Prop :=
  ∀ (pins : List (Addr × Obj)) (s : Shared) (σ : St) (H : Hp) (x y : V) (v u : Value) (Q : VK), Inv X pins σ H s → RelV x v → RelV y u → t x y H Q →
    wpAny (model X.prog X.w) X.A (inplaceOp op v u) (EP X pins σ Q) X.xe s
section
variable {X : Cx} {pos : Pos}
def gName (i : Nat) : TG := fun v σ H Q => Q (σ.set i (some v)) H
theorem pg_name {i : Nat} {x : Str} (hN : X.N.Nodup) (hi : X.N[i]? = some x) (hx : Loc X.env.scope x) (hf : X.fn x = true ∨ X.env.scope.names.lookup x = some .local := by first | exact .inl rfl | exact .inr rfl | assumption) : PG X (.Name x pos) (gName i) := by
  intro pins s σ H v u Q I r h
  exact wpAny_assign_Name (store_ok I hN hi hx r (fun s' I' => ⟨_, H, I', h⟩) hf)
def gNil : TGs := fun vs σ H Q => vs = [] ∧ Q σ H
def gCons (t : TG) (u : TGs) : TGs := fun vs σ H Q => ∃ v r, vs = v :: r ∧ t v σ H fun σ' H' => u r σ' H' Q
theorem pgs_nil : PGs X [] gNil := by
  intro pins s σ H vs us Q I r h
  obtain ⟨e, h⟩ := h
  subst e
  cases r
  exact assignInOrder_nil ⟨σ, H, I, h⟩
theorem pgs_cons {e : Expr} {es : List Expr} {t : TG} {u : TGs} (h1 : PG X e t) (h2 : PGs X es u)
    (hs : (assignEach (e :: es) X.env).map (·.2) = assign e X.env :: (assignEach es X.env).map (·.2) := by rfl) : PGs X (e :: es) (gCons t u) := by
  intro pins s σ H vs us Q I r h
  obtain ⟨v, vr, e1, h⟩ := h
  subst e1
  cases r with
  | cons r rr =>
    rw [hs]
    refine assignInOrder_cons (thn (h1 pins s σ H _ _ _ I r h) fun _ s1 ⟨σ1, H1, I1, q1⟩ => ?_)
    exact h2 pins s1 σ1 H1 _ _ Q I1 rr q1
/-- (a, b, ..) = a tuple of that length -/
def gTup (K : PySem.W.Frag) (n : Nat) (t : TGs) : TG := fun v σ H Q => ∃ a xs, v = .ref a ∧ SqT K H a xs ∧ xs.length = n ∧ t xs σ H Q
theorem pg_tup {es : List Expr} {k : Nat} {t : TGs} {n : Nat} (hc : X.calm = true) (h : PGs X es t)
    (hn : (assignEach es X.env).length = n := by rfl) (hst : (assignEach es X.env).findIdx? (·.1) = none := by rfl) : PG X (.Tuple es k pos) (gTup X.K n t) := by
  intro pins s σ H v u Q I r hw
  obtain ⟨a, xs, e1, hq, hl, hw⟩ := hw
  subst e1
  cases r
  obtain ⟨its, rv, ht, hz⟩ := I.tuple hq
  refine assign_Tuple_tuple (I.ok.hd hc) ht (by simp [hn, ← hl, rv.length]) hst fun h' hx => ?_
  have I1 : Inv X pins σ H { s with heap := h' } := I.kept (t' := s.toks) fun b o e => hx b o (Nat.ne_of_lt (Heap.lt_size e)) e
  exact h pins _ σ H xs _ Q I1 (by simpa using rv) hw
/-- target = value -/
def tAsg (te : TE) (g : TG) : TS := fun D σ H => te σ H fun x H1 => g x σ H1 D.nx
/-- name = value -/
theorem ps_set {i : Nat} {x : Str} {e : Expr} {te : TE} {pos' : Pos} (hN : X.N.Nodup) (hi : X.N[i]? = some x) (hx : Loc X.env.scope x) (he : PE X e te) (hs : swapsWith e (some (.Name x pos')) pos.line X.env = pure false := by rfl) (hf : X.fn x = true ∨ X.env.scope.names.lookup x = some .local := by first | exact .inl rfl | exact .inr rfl | assumption) :
    PS X (.Assign [.Name x pos'] e pos) (tAsg te (gName i)) := by
  intro pins s σ H D I h
  refine wpAny_Assign_Name (thn (he pins s σ H _ I h) fun v s1 ⟨y, H1, I1, r1, q1⟩ => ?_) hs
  exact store_ok I1 hN hi hx r1 (fun s2 I2 => ⟨_, H1, I2, q1⟩) hf
/-- name op= e -/
def tAug (i : Nat) (te : TE) (ti : TIp) : TS := fun D σ H => ∃ x, σ[i]? = some (some x) ∧ te σ H fun y H1 => ti x y H1 fun z H2 => D.nx (σ.set i (some z)) H2
theorem ps_aug {i : Nat} {x : Str} {e : Expr} {te : TE} {op : Operator} {ti : TIp} {pos' : Pos} (hN : X.N.Nodup) (hi : X.N[i]? = some x) (hx : Loc X.env.scope x) (he : PE X e te) (ho : PIp X op ti) (hf : X.fn x = true ∨ X.env.scope.names.lookup x = some .local := by first | exact .inl rfl | exact .inr rfl | assumption) :
    PS X (.AugAssign (.Name x pos') op e pos) (tAug i te ti) := by
  intro pins s σ H D I h
  obtain ⟨v, e1, h⟩ := h
  obtain ⟨m, hn, hl⟩ := I.loc
  have vis : Vis X.env.scope x := by rcases hx with k | k; exact .inl k; exact .inr (.inl k)
  obtain ⟨u, r, l⟩ := hl i x v hi e1 vis
  refine wpAny_AugAssign_Name ?_
  have go : wpAny (model X.prog X.w) X.A (eval e X.env) (fun w s₂ => wpAny (model X.prog X.w) X.A (inplaceOp op u w) (fun r s₃ => wpAny (model X.prog X.w) X.A (storeName X.env x r) (fun _ => SP X pins D .next) X.xe s₃) X.xe s₂) X.xe s := by
    refine thn (he pins s σ H _ I h) fun w s1 ⟨y, H1, I1, r1, q1⟩ => ?_
    refine thn (ho pins s1 σ H1 v y u w _ I1 r r1 q1) fun z s2 ⟨zv, H2, I2, r2, q2⟩ => ?_
    exact store_ok I2 hN hi hx r2 (fun s3 I3 => ⟨_, H2, I3, q2⟩) hf
  rcases l with ⟨hk, hm⟩ | ⟨hk, c, hc, hcell⟩
  · exact wpAny_loadName_local I.ok.kind hk hn hm go
  · rcases hk with hk | hk
    · exact wpAny_loadName_cell I.ok.kind hk hc hcell go
    · rcases hx with k | k
      · have : X.env.scope.names.lookup x = some .free := hk
        rw [k] at this; cases this
      · have : X.env.scope.names.lookup x = some .free := hk
        rw [k] at this; cases this
/-- ints -/
def ipI (f : Int → Int → Int) : TIp := fun x y H Q => ∃ i j, x = .int i ∧ y = .int j ∧ Q (.int (f i j)) H
theorem ip_add : PIp X .Add (ipI fun i j => i + j) := by
  intro pins s σ H x y v u Q I r1 r2 h
  obtain ⟨i, j, e1, e2, q⟩ := h
  subst e1; subst e2
  obtain ⟨t, rfl⟩ := r1
  obtain ⟨t', rfl⟩ := r2
  exact iadd_int ⟨.int _, H, I.tok _, ⟨_, rfl⟩, q⟩
end
/-! ### while -/
section
variable {X : Cx} {pos : Pos}
/-- the invariant W with its measure -/
def tWhile (c : TT) (tb : TS) : TS := fun D σ H => ∃ W : Nat → St → Hp → Prop, (∃ m, W m σ H) ∧ ∀ m σ H, W m σ H →
  c σ H fun b H1 => if b = true then ∃ N : St → Hp → Prop, (∀ σ' H', N σ' H' → ∃ m', m' < m ∧ W m' σ' H') ∧ tb { D with nx := N, ct := N, bk := D.nx } σ H1 else D.nx σ H1
theorem ps_while {c : Expr} {body : List Stmt} {tc : TT} {tb : TS} (hp : PassesOwn (model X.prog X.w) X.A X.env X.xe) (hc : PT X c tc) (hb : PSs X body tb) : PS X (.While c body [] pos) (tWhile tc tb) := by
  intro pins s σ H D I h
  obtain ⟨W, ⟨m0, w0⟩, turn⟩ := h
  refine wpAny_While (codeAny_whileLoop (fun n s' => ∃ σ' H', Inv X pins σ' H' s' ∧ W n σ' H') ?_ m0 ⟨σ, H, I, w0⟩)
  rintro n s1 ⟨σ1, H1, I1, w1⟩
  refine wpAny_passesOwn hp (thn (hc pins s1 σ1 H1 _ I1 (turn n σ1 H1 w1)) fun b s2 ⟨H2, I2, q2⟩ => ?_)
  cases b with
  | true =>
    obtain ⟨N, hN, q2⟩ := q2
    rw [if_pos rfl]
    refine wpAny_passesOwn hp (thn (hb pins s2 σ1 H2 _ I2 q2) fun f s3 q3 => ?_)
    cases f with
    | next =>
      obtain ⟨σ3, H3, I3, n3⟩ := q3
      obtain ⟨m', hm, w3⟩ := hN σ3 H3 n3
      exact ⟨m', hm, σ3, H3, I3, w3⟩
    | cont =>
      obtain ⟨σ3, H3, I3, n3⟩ := q3
      obtain ⟨m', hm, w3⟩ := hN σ3 H3 n3
      exact ⟨m', hm, σ3, H3, I3, w3⟩
    | brk => exact q3
    | ret v => exact q3
  | false =>
    rw [if_neg Bool.false_ne_true]
    exact wpAny_execs_nil ⟨σ1, H2, I2, q2⟩
end
/-! ### what a loop or a comprehension walks -/
/-- at turn i: it yields x (the heap may grow), or it stops -/
structure It where
  go : Nat → Hp → Prop
  yld : Nat → Hp → V → Hp → Prop
  stop : Nat → Hp → Prop
/-- the iterator's own objects may turn: they are not the frame's, not pinned, younger than the entry (or a comprehension's own) -/
def FpOk (X : Cx) (pins : List (Addr × Obj)) (H : Hp) (b : Addr) : Prop :=
  H b = none ∧ b ≠ X.env.locals ∧ b ∉ X.fs ∧ (b ∈ X.ex ∨ X.s₀.heap.objs.size ≤ b) ∧ (∀ x c, X.env.cells.lookup x = some c → c ≠ b) ∧ ∀ p ∈ X.pn ++ pins, p.1 ≠ b
theorem Inv.fpOk {X : Cx} {pins : List (Addr × Obj)} {σ : St} {H H' : Hp} {s : Shared} {b : Addr} (I : Inv X pins σ H s) (hb : s.heap.objs.size ≤ b) (hn : H' b = none) : FpOk X pins H' b := by
  refine ⟨hn, Nat.ne_of_gt (Nat.lt_of_lt_of_le I.lt hb), I.nofs hb, .inr (Nat.le_trans I.sz hb), fun x c e z => ?_, fun p hp z => ?_⟩
  · obtain ⟨v, q⟩ := I.cell x c e
    exact absurd (Nat.lt_of_lt_of_le q.lt (by rw [z]; exact hb)) (Nat.lt_irrefl _)
  · exact absurd (Nat.lt_of_lt_of_le (Heap.lt_size (I.pin p hp).1) (by rw [z]; exact hb)) (Nat.lt_irrefl _)
structure Turn (P : Program) (w : World) (K : PySem.W.Frag) (tg : Expr) (J : It) (fp : List Addr) (it : Addr) (tn : Nat → Heap → Prop) : Prop where
  mem : it ∈ fp
  obj : ∀ i h, tn i h → ∀ b ∈ fp, ∃ o, h.get? b = some o ∧ ∀ v, o.data ≠ .cell v
  keep : ∀ i h h', tn i h → (∀ b ∈ fp, ∀ o, h.get? b = some o → h'.get? b = some o) → tn i h'
  item : ∀ (X : Cx), X.prog = P → X.w = w → X.K = K → X.calm = true → ∀ (i : Nat) (pins : List (Addr × Obj)) (s : Shared) (σ : St) (H : Hp) (E : Value → Shared → Prop), Inv X pins σ H s → (∀ b ∈ fp, FpOk X pins H b) → tn i s.heap → J.go i H →
    wpAny (model P w) X.A (pyNext (.ref it)) (fun r s1 => ∃ u, r = some u ∧
      wpAny (model P w) X.A (letOwnedTupleGo tg (.ref it) u) (fun _ s2 => ∃ x H', Inv X pins σ H' s2 ∧ RelV x u ∧ J.yld i H x H' ∧ tn (i + 1) s2.heap ∧ ∀ b ∈ fp, H' b = none) E s1) E s
  done : ∀ (X : Cx), X.prog = P → X.w = w → X.K = K → X.calm = true → ∀ (i : Nat) (pins : List (Addr × Obj)) (s : Shared) (σ : St) (H : Hp) (E : Value → Shared → Prop), Inv X pins σ H s → (∀ b ∈ fp, FpOk X pins H b) → tn i s.heap → J.stop i H →
    wpAny (model P w) X.A (pyNext (.ref it)) (fun r s1 => r = none ∧ Inv X pins σ H s1) E s
  self : ∀ (A : Around) (i : Nat) (s : Shared) (Q : Value → Shared → Prop) (E : Value → Shared → Prop), tn i s.heap → Q (.ref it) s → wpAny (model P w) A (pyIter (.ref it)) Q E s
abbrev TI := St → Hp → (It → Hp → Prop) → Prop
/-- an iterator has come -/
def PIE (X : Cx) (pins : List (Addr × Obj)) (σ : St) (tg : Expr) (R : It → Hp → Prop) (itv : Value) (s2 : Shared) : Prop :=
  ∃ (it : Addr) (fp : List Addr) (tn : Nat → Heap → Prop) (J : It) (H' : Hp), itv = .ref it ∧ Inv X pins σ H' s2 ∧ Turn X.prog X.w X.K tg J fp it tn ∧ tn 0 s2.heap ∧ (∀ b ∈ fp, FpOk X pins H' b) ∧ R J H'
def PI (X : Cx) (tg iter : Expr) (wi : TI) : Prop :=
  ∀ (pins : List (Addr × Obj)) (s : Shared) (σ : St) (H : Hp) (R : It → Hp → Prop), Inv X pins σ H s → wi σ H R →
    wpAny (model X.prog X.w) X.A (eval iter X.env) (fun v s1 => wpAny (model X.prog X.w) X.A (pyIter v) (PIE X pins σ tg R) X.xe s1) X.xe s
/-- the step ahead of the store is nothing for an iterator that keeps no tuple -/
theorem go_of {M : Model} {A : Around} {E : Value → Shared → Prop} {s : Shared} {tg : Expr} {it : Addr} {u : Value} {o : Obj} {n : String} {vs : Array Value} {Q : Unit → Shared → Prop} (ho : s.heap.get? it = some o) (hc : o.cls = .type n) (hd : o.data = .fields vs)
    (hn : ["enumerate", "zip", "dict_itemiterator", "dict_reverseitemiterator", "odict_iterator", "itertools.zip_longest", "itertools.pairwise"].contains n = false) (hQ : Q () s) : wpAny M A (letOwnedTupleGo tg (.ref it) u) Q E s := by
  unfold letOwnedTupleGo
  cases tg <;> first
    | exact wpAny_pure hQ
    | (cases u <;> first
        | exact wpAny_pure hQ
        | (refine wpAny_bind (wpAny_load ho ?_)
           rw [hc, hd]
           show wpAny M A (if (["enumerate", "zip", "dict_itemiterator", "dict_reverseitemiterator", "odict_iterator", "itertools.zip_longest", "itertools.pairwise"].contains n && vs[0]? == some (rawInt _)) = true then _ else _) Q E s
           rw [if_neg (by intro h; rw [hn, Bool.false_and] at h; cases h)]
           exact wpAny_pure hQ))
/-- the list at a, as it stands at each turn (a loop may append to it) -/
def Itl (K : PySem.W.Frag) (a : Addr) : It :=
  ⟨fun i H => ∃ xs x, SqL K H a xs ∧ xs[i]? = some x, fun i H x H' => H' = H ∧ ∀ xs, SqL K H a xs → xs[i]? = some x, fun i H => ∃ xs, SqL K H a xs ∧ xs.length ≤ i⟩
def Itt (K : PySem.W.Frag) (a : Addr) : It :=
  ⟨fun i H => ∃ xs x, SqT K H a xs ∧ xs[i]? = some x, fun i H x H' => H' = H ∧ ∀ xs, SqT K H a xs → xs[i]? = some x, fun i H => ∃ xs, SqT K H a xs ∧ xs.length ≤ i⟩
/-- lo, lo + 1, .. (n of them) -/
def Itr (lo : Int) (n : Nat) : It := ⟨fun i _ => i < n, fun i H x H' => H' = H ∧ x = .int (lo + i), fun i _ => n ≤ i⟩
theorem turn_list {P : Program} {w : World} {K : PySem.W.Frag} {tg : Expr} (a it : Addr) : Turn P w K tg (Itl K a) [it] it (fun i h => h.IsListIter it a i) where
  mem := by simp
  obj := fun i h st b hb => by
    have e : b = it := by simpa using hb
    subst e
    obtain ⟨o, e, c, d⟩ := st
    exact ⟨o, e, fun v z => by rw [d] at z; cases z⟩
  keep := fun i h h' st k => st.at fun o e => k it (by simp) o e
  item := by
    intro X hP hw hK hc i pins s σ H E I hf st hg
    subst hP hw hK
    obtain ⟨xs, x, hq, hx⟩ := hg
    obtain ⟨its, rv, p, hz⟩ := I.list hq
    obtain ⟨u, hu, ru⟩ := rv.get hx
    obtain ⟨f0, f1, f2, f3, f4, f5⟩ := hf it (by simp)
    refine wpAny_pyNext_list_item st p.isList (x := u) (by simpa using hu) fun h' st' sb => ?_
    have I1 : Inv X pins σ H { s with heap := h' } := I.turned (t' := s.toks) (fun b o hb e => (sb.2 b hb).trans e) f0 f1 f3 f4 f5
    obtain ⟨o, e, c, d⟩ := id st'
    exact ⟨u, rfl, go_of (s := { s with heap := h' }) e c d (by decide) ⟨x, H, I1, ru, ⟨rfl, fun ys hy => by rw [I.list_inj hy hq]; exact hx⟩, st', fun b hb => (hf b hb).1⟩⟩
  done := by
    intro X hP hw hK hc i pins s σ H E I hf st hg
    subst hP hw hK
    obtain ⟨xs, hq, hx⟩ := hg
    obtain ⟨its, rv, p, hz⟩ := I.list hq
    obtain ⟨f0, f1, f2, f3, f4, f5⟩ := hf it (by simp)
    have hl := rv.length
    exact wpAny_pyNext_list_end (I.ok.hd hc) st p.isList (by simp; omega) fun h' eb => ⟨rfl, I.turned (t' := s.toks) (fun b o hb e => eb b o hb e) f0 f1 f3 f4 f5⟩
  self := fun _ _ _ _ _ st h => wpAny_pyIter_listiter st h
theorem turn_tuple {P : Program} {w : World} {K : PySem.W.Frag} {tg : Expr} (a it : Addr) : Turn P w K tg (Itt K a) [it] it (fun i h => h.IsTupleIter it a i) where
  mem := by simp
  obj := fun i h st b hb => by
    have e : b = it := by simpa using hb
    subst e
    obtain ⟨o, e, c, d⟩ := st
    exact ⟨o, e, fun v z => by rw [d] at z; cases z⟩
  keep := fun i h h' st k => st.at fun o e => k it (by simp) o e
  item := by
    intro X hP hw hK hc i pins s σ H E I hf st hg
    subst hP hw hK
    obtain ⟨xs, x, hq, hx⟩ := hg
    obtain ⟨its, rv, p, hz⟩ := I.tuple hq
    obtain ⟨u, hu, ru⟩ := rv.get hx
    obtain ⟨f0, f1, f2, f3, f4, f5⟩ := hf it (by simp)
    refine wpAny_pyNext_tuple_item st (show s.heap.IsTuple a its.toArray from p) (x := u) (by simpa using hu) fun h' st' sb => ?_
    have I1 : Inv X pins σ H { s with heap := h' } := I.turned (t' := s.toks) (fun b o hb e => (sb.2 b hb).trans e) f0 f1 f3 f4 f5
    obtain ⟨o, e, c, d⟩ := id st'
    exact ⟨u, rfl, go_of (s := { s with heap := h' }) e c d (by decide) ⟨x, H, I1, ru, ⟨rfl, fun ys hy => by rw [I.tuple_inj hy hq]; exact hx⟩, st', fun b hb => (hf b hb).1⟩⟩
  done := by
    intro X hP hw hK hc i pins s σ H E I hf st hg
    subst hP hw hK
    obtain ⟨xs, hq, hx⟩ := hg
    obtain ⟨its, rv, p, hz⟩ := I.tuple hq
    obtain ⟨f0, f1, f2, f3, f4, f5⟩ := hf it (by simp)
    have hl := rv.length
    exact wpAny_pyNext_tuple_end (I.ok.hd hc) st (show s.heap.IsTuple a its.toArray from p) (by simp; omega) fun h' eb => ⟨rfl, I.turned (t' := s.toks) (fun b o hb e => eb b o hb e) f0 f1 f3 f4 f5⟩
  self := fun _ _ _ _ _ st h => wpAny_pyIter_tupleiter st h
theorem turn_range {P : Program} {w : World} {K : PySem.W.Frag} {tg : Expr} (it : Addr) (lo : Int) (n : Nat) : Turn P w K tg (Itr lo n) [it] it (fun i h => IsRangeIter h it (lo + (i : Nat) * 1) ((n : Int) - (i : Nat)) 1) where
  mem := by simp
  obj := fun i h st b hb => by
    have e : b = it := by simpa using hb
    subst e
    exact ⟨_, st, fun v z => by
      have z' : Data.fields _ = Data.cell v := z
      cases z'⟩
  keep := fun i h h' st k => k it (by simp) _ st
  item := by
    intro X hP hw hK hc i pins s σ H E I hf st hg
    subst hP hw hK
    obtain ⟨f0, f1, f2, f3, f4, f5⟩ := hf it (by simp)
    have W := Walks.range (prog := X.prog) (w := X.w) (I.ok.hd hc) it lo 1 n
    refine W.item i s _ _ hg st fun v h' tk hv st' kk => ?_
    obtain ⟨t, rfl⟩ := hv
    have I1 : Inv X pins σ H { s with heap := h', toks := tk } := I.turned (fun b o hb e => kk b o (by simpa using hb) e) f0 f1 f3 f4 f5
    refine ⟨_, rfl, go_of (s := { s with heap := h', toks := tk }) (n := "range_iterator") st' rfl rfl (by decide) ⟨.int (lo + i), H, I1, ⟨t, ?_⟩, ⟨rfl, rfl⟩, st', fun b hb => (hf b hb).1⟩⟩
    rw [Int.mul_one]
  done := by
    intro X hP hw hK hc i pins s σ H E I hf st hg
    subst hP hw hK
    obtain ⟨f0, f1, f2, f3, f4, f5⟩ := hf it (by simp)
    exact wpAny_pyNext_range_end (I.ok.hd hc) st (by have : n ≤ i := hg; omega) fun h' eb => ⟨rfl, I.turned (t' := s.toks) (fun b o hb e => eb b o hb e) f0 f1 f3 f4 f5⟩
  self := fun _ _ _ _ _ st h => wpAny_pyIter_rangeiter st h
end L2
namespace L2
open PySem PySem.Spec PyProof.Rows
section
variable {X : Cx} {tg : Expr}
def iList (K : PySem.W.Frag) (tl : TE) : TI := fun σ H R => tl σ H fun x H1 => ∃ a, x = .ref a ∧ (∃ xs, SqL K H1 a xs) ∧ R (Itl K a) H1
def iTup (K : PySem.W.Frag) (tl : TE) : TI := fun σ H R => tl σ H fun x H1 => ∃ a, x = .ref a ∧ (∃ xs, SqT K H1 a xs) ∧ R (Itt K a) H1
theorem pi_list {l : Expr} {tl : TE} (hl : PE X l tl) : PI X tg l (iList X.K tl) := by
  intro pins s σ H R I h
  refine thn (hl pins s σ H _ I h) fun v s1 ⟨x, H1, I1, r1, q1⟩ => ?_
  obtain ⟨a, e, ⟨xs, hq⟩, q⟩ := q1
  subst e
  cases r1
  obtain ⟨its, rv, p, hz⟩ := I1.list hq
  refine wpAny_pyIter_list p.isList ?_
  refine ⟨s1.heap.objs.size, [s1.heap.objs.size], _, _, H1, rfl, I1.kept (t' := s1.toks) fun b o e => Heap.get?_push_of_some _ e, turn_list a _, ⟨_, Heap.get?_push_size _ rfl, rfl, rfl⟩, fun b hb => ?_, q⟩
  have e : b = s1.heap.objs.size := by simpa using hb
  subst e
  exact I1.fpOk (Nat.le_refl _) (I1.hok.fresh (Nat.le_refl _))
theorem pi_tup {l : Expr} {tl : TE} (hl : PE X l tl) : PI X tg l (iTup X.K tl) := by
  intro pins s σ H R I h
  refine thn (hl pins s σ H _ I h) fun v s1 ⟨x, H1, I1, r1, q1⟩ => ?_
  obtain ⟨a, e, ⟨xs, hq⟩, q⟩ := q1
  subst e
  cases r1
  obtain ⟨its, rv, p, hz⟩ := I1.tuple hq
  refine wpAny_pyIter_tuple (show s1.heap.IsTuple a its.toArray from p) ?_
  refine ⟨s1.heap.objs.size, [s1.heap.objs.size], _, _, H1, rfl, I1.kept (t' := s1.toks) fun b o e => Heap.get?_push_of_some _ e, turn_tuple a _, ⟨_, Heap.get?_push_size _ rfl, rfl, rfl⟩, fun b hb => ?_, q⟩
  have e : b = s1.heap.objs.size := by simpa using hb
  subst e
  exact I1.fpOk (Nat.le_refl _) (I1.hok.fresh (Nat.le_refl _))
/-- a range object just made, walked -/
theorem range_it {pins : List (Addr × Obj)} {σ : St} {H : Hp} {s : Shared} {R : It → Hp → Prop} {E : Value → Shared → Prop} {lo hi : Int} {t u v : Tok} {tk : Nat} (I : Inv X pins σ H s) (h1 : -(2 ^ 62) ≤ lo) (h2 : lo < 2 ^ 62) (h3 : -(2 ^ 62) ≤ hi) (h4 : hi < 2 ^ 62)
    (q : R (Itr lo (hi - lo).toNat) H) : wpAny (model X.prog X.w) X.A (pyIter (.ref s.heap.objs.size)) (PIE X pins σ tg R) E { s with heap := s.heap.push { cls := .type "range", data := .fields #[.int lo t, .int hi u, .int 1 v] }, toks := tk } := by
  refine wpAny_pyIter_range (IsRange.new ..) (small_one h1 h2 h3 h4) ?_
  have I1 : Inv X pins σ H { s with heap := s.heap.push { cls := .type "range", data := .fields #[.int lo t, .int hi u, .int 1 v] }, toks := tk } := I.kept fun b o e => Heap.get?_push_of_some _ e
  refine ⟨(s.heap.push { cls := .type "range", data := .fields #[.int lo t, .int hi u, .int 1 v] }).objs.size, [(s.heap.push { cls := .type "range", data := .fields #[.int lo t, .int hi u, .int 1 v] }).objs.size], _, _, H, rfl,
    I1.kept (t' := tk) fun b o e => Heap.get?_push_of_some _ e, turn_range _ lo (hi - lo).toNat, ?_, fun b hb => ?_, q⟩
  · have e1 : lo + ((0 : Nat) : Int) * 1 = lo := by simp
    have e2 : (((hi - lo).toNat : Nat) : Int) - ((0 : Nat) : Int) = Builtin.Range.rangeSize lo hi 1 := by rw [rangeSize_one]; split <;> omega
    show IsRangeIter _ _ (lo + ((0 : Nat) : Int) * 1) ((((hi - lo).toNat : Nat) : Int) - ((0 : Nat) : Int)) 1
    rw [e1, e2]
    exact Heap.get?_push_size _ rfl
  · have e : b = (s.heap.push { cls := .type "range", data := .fields #[.int lo t, .int hi u, .int 1 v] }).objs.size := by simpa using hb
    subst e
    exact I1.fpOk (Nat.le_refl _) (I1.hok.fresh (Nat.le_refl _))
def iRng1 (ta : TA) : TI := fun σ H R => ta σ H fun vs H1 => ∃ j : Int, vs = [.int j] ∧ -(2 ^ 62) ≤ j ∧ j < 2 ^ 62 ∧ R (Itr 0 j.toNat) H1
def iRng2 (ta : TA) : TI := fun σ H R => ta σ H fun vs H1 => ∃ i j : Int, vs = [.int i, .int j] ∧ (-(2 ^ 62) ≤ i ∧ i < 2 ^ 62 ∧ -(2 ^ 62) ≤ j ∧ j < 2 ^ 62) ∧ R (Itr i (j - i).toNat) H1
theorem pi_range1 {a : Expr} {ta : TA} {p pos : Pos} (hg : Gl X "range") (hm : X.mg "range" = none) (ha : PA X [a] ta) (hs : starEach [a] X.env = [(false, eval a X.env)] := by rfl) : PI X tg (.Call (.Name "range" p) [a] [] pos) (iRng1 ta) := by
  intro pins s σ H R I h
  refine Call_ (ld_blt I hg hm boot_range (PyProof.Rows.callWith_type1 (thn (ha pos pins s σ H _ I h) fun us s1 ⟨vs, H1, I1, r1, q1⟩ => ?_) hs rfl))
  obtain ⟨j, e, q1, q2, q⟩ := q1
  subst e
  cases r1 with
  | cons r rr =>
    cases rr
    obtain ⟨t, rfl⟩ := r
    exact call_range_1 (range_it I1 (by omega) (by omega) q1 q2 (by simpa using q))
theorem pi_range2 {a b : Expr} {ta : TA} {p pos : Pos} (hg : Gl X "range") (hm : X.mg "range" = none) (ha : PA X [a, b] ta) (hs : starEach [a, b] X.env = [(false, eval a X.env), (false, eval b X.env)] := by rfl) (hs2 : starEach [b] X.env = [(false, eval b X.env)] := by rfl) :
    PI X tg (.Call (.Name "range" p) [a, b] [] pos) (iRng2 ta) := by
  intro pins s σ H R I h
  refine Call_ (ld_blt I hg hm boot_range (PyProof.Rows.callWith_type1 (thn (ha pos pins s σ H _ I h) fun us s1 ⟨vs, H1, I1, r1, q1⟩ => ?_) (by rw [hs, hs2]) (by rw [hs2]; rfl)))
  obtain ⟨i, j, e, ⟨q1, q2, q3, q4⟩, q⟩ := q1
  subst e
  cases r1 with
  | cons r rr =>
    cases rr with
    | cons r' rr =>
      cases rr
      obtain ⟨t, rfl⟩ := r
      obtain ⟨t', rfl⟩ := r'
      exact call_range_2 (range_it I1 q1 q2 q3 q4 q)
/-! ### for -/
/-- W: the invariant by the turn and a measure; N: what the body is to reach -/
def tFor (wi : TI) (g : TG) (tb : TS) : TS := fun D σ H => wi σ H fun J H1 => ∃ W : Nat → Nat → St → Hp → Prop, (∃ m, W 0 m σ H1) ∧ ∀ i m σ H, W i m σ H →
  (J.stop i H ∧ D.nx σ H) ∨ (J.go i H ∧ ∃ N : St → Hp → Prop, (∀ σ' H', N σ' H' → ∃ m', m' < m ∧ W (i + 1) m' σ' H') ∧ ∀ x H', J.yld i H x H' → g x σ H' fun σ2 H2 => tb { D with nx := N, ct := N, bk := D.nx } σ2 H2)
/-- the records at fp as they stand -/
def pinsAt (fp : List Addr) (h : Heap) : List (Addr × Obj) := fp.filterMap fun b => (h.get? b).map fun o => (b, o)
theorem mem_pinsAt {fp : List Addr} {h : Heap} {b : Addr} {o : Obj} (hb : b ∈ fp) (e : h.get? b = some o) : (b, o) ∈ pinsAt fp h := List.mem_filterMap.mpr ⟨b, hb, by rw [e]; rfl⟩
theorem of_pinsAt {fp : List Addr} {h : Heap} {p : Addr × Obj} (hp : p ∈ pinsAt fp h) : p.1 ∈ fp ∧ h.get? p.1 = some p.2 := by
  obtain ⟨b, hb, e⟩ := List.mem_filterMap.mp hp
  cases q : h.get? b with
  | none => rw [q] at e; cases e
  | some o =>
    rw [q] at e
    have e' : (b, o) = p := Option.some.inj e
    subst e'
    exact ⟨hb, q⟩
theorem Inv.pinned {pins : List (Addr × Obj)} {σ : St} {H : Hp} {s : Shared} {fp : List Addr} (I : Inv X pins σ H s) (hf : ∀ b ∈ fp, FpOk X pins H b) (ho : ∀ b ∈ fp, ∃ o, s.heap.get? b = some o ∧ ∀ v, o.data ≠ .cell v) : Inv X (pins ++ pinsAt fp s.heap) σ H s :=
  I.pins_of fun p hp => (List.mem_append.mp hp).elim (fun z => I.pin p (List.mem_append_right _ z)) fun z => by
    obtain ⟨hb, e⟩ := of_pinsAt z
    obtain ⟨f0, f1, f2, _⟩ := hf p.1 hb
    obtain ⟨o, e', d⟩ := ho p.1 hb
    rw [e] at e'; cases e'
    exact ⟨e, f0, f1, f2, d⟩
theorem Inv.unpinned {pins pl : List (Addr × Obj)} {σ : St} {H : Hp} {s : Shared} (I : Inv X (pins ++ pl) σ H s) : Inv X pins σ H s := I.pins_of fun p hp => I.pin p (List.mem_append_right _ (List.mem_append_left _ hp))
theorem ps_for {iter : Expr} {body : List Stmt} {wi : TI} {g : TG} {tb : TS} {pos : Pos} (hp : PassesOwn (model X.prog X.w) X.A X.env X.xe) (hc : X.calm = true) (hi : PI X tg iter wi) (hg : PG X tg g) (hb : PSs X body tb)
    (hs : ∀ x, foldedSetIterable iter X.env x = pure x := by intro _; rfl) : PS X (.For tg iter body [] pos) (tFor wi g tb) := by
  intro pins s σ H D I h
  refine wpAny_For (thn (hi pins s σ H _ I h) fun v s1 h1 => thn h1 fun itv s2 h2 => ?_) hs
  obtain ⟨it, fp, tn, J, H2, e, I2, T, st2, f2, W, ⟨m0, w0⟩, turn⟩ := h2
  subst e
  -- what stays true of the iterator's objects through the loop
  have stat : ∀ {H' : Hp}, (∀ b ∈ fp, H' b = none) → ∀ b ∈ fp, FpOk X pins H' b := fun hn b hb => ⟨hn b hb, (f2 b hb).2⟩
  refine codeAny_forLoop_any (fun n s' => ∃ i σ' H', Inv X pins σ' H' s' ∧ tn i s'.heap ∧ (∀ b ∈ fp, H' b = none) ∧ W i n σ' H') ?_ m0 ⟨0, σ, H2, I2, st2, fun b hb => (f2 b hb).1, w0⟩
  rintro n s3 ⟨i, σ3, H3, I3, st3, fr3, w3⟩
  rcases turn i n σ3 H3 w3 with ⟨stop, qn⟩ | ⟨go, N, hN, step⟩
  · refine wpAny_passesOwn hp (thn (T.done X rfl rfl rfl hc i pins s3 σ3 H3 X.xe I3 (stat fr3) st3 stop) fun r s4 ⟨hr, I4⟩ => ?_)
    subst hr
    exact wpAny_execs_nil ⟨σ3, H3, I4, qn⟩
  · refine wpAny_passesOwn hp (thn (T.item X rfl rfl rfl hc i pins s3 σ3 H3 X.xe I3 (stat fr3) st3 go) fun r s4 ⟨u, hr, h4⟩ => ?_)
    subst hr
    refine wpAny_passesOwn hp (thn h4 fun _ s5 ⟨x, H5, I5, r5, y5, st5, fr5⟩ => ?_)
    have I5' := I5.pinned (stat fr5) (T.obj _ _ st5)
    refine wpAny_passesOwn hp (thn (hg _ s5 σ3 H5 x u _ I5' r5 (step x H5 y5)) fun _ s6 ⟨σ6, H6, I6, q6⟩ => ?_)
    refine wpAny_passesOwn hp (thn (hb _ s6 σ6 H6 _ I6 q6) fun f s7 q7 => ?_)
    have again : ∀ {σ7 : St} {H7 : Hp}, Inv X (pins ++ pinsAt fp s5.heap) σ7 H7 s7 → N σ7 H7 → ∃ m, m < n ∧ ∃ i σ' H', Inv X pins σ' H' s7 ∧ tn i s7.heap ∧ (∀ b ∈ fp, H' b = none) ∧ W i m σ' H' := fun {σ7 H7} I7 n7 => by
      obtain ⟨m', hm, w7⟩ := hN σ7 H7 n7
      refine ⟨m', hm, i + 1, σ7, H7, I7.unpinned, T.keep _ _ _ st5 fun b hb o e => (I7.pin (b, o) (List.mem_append_right _ (List.mem_append_right _ (mem_pinsAt hb e)))).1, fun b hb => ?_, w7⟩
      obtain ⟨o, e, d⟩ := T.obj _ _ st5 b hb
      exact (I7.pin (b, o) (List.mem_append_right _ (List.mem_append_right _ (mem_pinsAt hb e)))).2.1
    cases f with
    | next => obtain ⟨σ7, H7, I7, n7⟩ := q7; exact again I7 n7
    | cont => obtain ⟨σ7, H7, I7, n7⟩ := q7; exact again I7 n7
    | brk => obtain ⟨σ7, H7, I7, q7⟩ := q7; exact ⟨σ7, H7, I7.unpinned, q7⟩
    | ret v => obtain ⟨x7, σ7, H7, I7, r7, q7⟩ := q7; exact ⟨x7, σ7, H7, I7.unpinned, r7, q7⟩
end
end L2
namespace L2
open PySem PySem.Spec PyProof.Rows
abbrev R2 := V → V → Hp → VK → Prop
/-- a two-place operation on values: f is binaryOp op, inplaceOp op or compareOp op -/
def OpR (X : Cx) (f : Value → Value → Sem Value) (r : R2) : Prop :=
  ∀ (pins : List (Addr × Obj)) (s : Shared) (σ : St) (H : Hp) (x y : V) (v u : Value) (Q : VK), Inv X pins σ H s → RelV x v → RelV y u → r x y H Q →
    wpAny (model X.prog X.w) X.A (f v u) (EP X pins σ Q) X.xe s
/-- a one-place operation -/
def UnR (X : Cx) (f : Value → Sem Value) (r : V → Hp → VK → Prop) : Prop :=
  ∀ (pins : List (Addr × Obj)) (s : Shared) (σ : St) (H : Hp) (x : V) (v : Value) (Q : VK), Inv X pins σ H s → RelV x v → r x H Q →
    wpAny (model X.prog X.w) X.A (f v) (EP X pins σ Q) X.xe s
/-- a call of a value that is known (a builtin, a type) with values -/
def CallR (X : Cx) (f : Value) (r : List V → Hp → VK → Prop) : Prop :=
  ∀ (pins : List (Addr × Obj)) (s : Shared) (σ : St) (H : Hp) (xs : List V) (us : List Value) (Q : VK), Inv X pins σ H s → Vals xs us → r xs H Q →
    wpAny (model X.prog X.w) X.A (call f us) (EP X pins σ Q) X.xe s
def tOp (r : R2) (ta tb : TE) : TE := fun σ H Q => ta σ H fun x H1 => tb σ H1 fun y H2 => r x y H2 Q
def tUn (r : V → Hp → VK → Prop) (ta : TE) : TE := fun σ H Q => ta σ H fun x H1 => r x H1 Q
/-- ints in, under C, and a value out -/
def rI (C : Int → Int → Prop) (g : Int → Int → V) : R2 := fun x y H Q => ∃ i j, x = .int i ∧ y = .int j ∧ C i j ∧ Q (g i j) H
def rI0 (g : Int → Int → V) : R2 := fun x y H Q => ∃ i j, x = .int i ∧ y = .int j ∧ Q (g i j) H
def rU (g : Int → V) : V → Hp → VK → Prop := fun x H Q => ∃ i, x = .int i ∧ Q (g i) H
section
variable {X : Cx} {a b c : Expr} {ta tb tc : TE} {pos : Pos}
theorem binT (ha : PE X a ta) (hb : PE X b tb) {pins : List (Addr × Obj)} {s : Shared} {σ : St} {H : Hp} {R : V → V → Hp → Prop} (I : Inv X pins σ H s)
    (h : ta σ H fun x H1 => tb σ H1 fun y H2 => R x y H2) {Q : Value → Shared → Prop} {f : Value → Value → Sem Value}
    (hf : ∀ v u s2 x y H2, Inv X pins σ H2 s2 → RelV x v → RelV y u → R x y H2 → wpAny (model X.prog X.w) X.A (f v u) Q X.xe s2) :
    wpAny (model X.prog X.w) X.A (eval a X.env) (fun v s₁ => wpAny (model X.prog X.w) X.A (eval b X.env) (fun u s₂ => wpAny (model X.prog X.w) X.A (f v u) Q X.xe s₂) X.xe s₁) X.xe s := by
  refine thn (ha pins s σ H _ I h) fun v s1 ⟨x, H1, I1, r1, q1⟩ => ?_
  refine thn (hb pins s1 σ H1 _ I1 q1) fun u s2 ⟨y, H2, I2, r2, q2⟩ => ?_
  exact hf v u s2 x y H2 I2 r1 r2 q2
theorem pe_op {op : Operator} {r : R2} (ho : OpR X (binaryOp op) r) (ha : PE X a ta) (hb : PE X b tb) : PE X (.BinOp a op b pos) (tOp r ta tb) := by
  intro pins s σ H Q I h
  exact wpAny_BinOp (binT ha hb I h fun v u s2 x y H2 I2 rx ry q => ho pins s2 σ H2 x y v u Q I2 rx ry q)
theorem pe_un {op : UnaryOp} {r : V → Hp → VK → Prop} (ho : UnR X (unaryOp op) r) (ha : PE X a ta) : PE X (.UnaryOp op a pos) (tUn r ta) := by
  intro pins s σ H Q I h
  exact UnaryOp_ (thn (ha pins s σ H _ I h) fun v s1 ⟨x, H1, I1, r1, q1⟩ => ho pins s1 σ H1 x v Q I1 r1 q1)
/-! ### ints -/
theorem opI {f : Value → Value → Sem Value} {C : Int → Int → Prop} {g : Int → Int → Int}
    (rule : ∀ (i j : Int) (t u : Tok) (s : Shared) (Q : Value → Shared → Prop) (E : Value → Shared → Prop), C i j → Q (.int (g i j) s.toks) { s with toks := s.toks + 1 } → wpAny (model X.prog X.w) X.A (f (.int i t) (.int j u)) Q E s) :
    OpR X f (rI C fun i j => .int (g i j)) := by
  intro pins s σ H x y v u Q I rx ry h
  obtain ⟨i, j, rfl, rfl, hc, q⟩ := h
  obtain ⟨t, rfl⟩ := rx
  obtain ⟨t', rfl⟩ := ry
  exact rule i j t t' s _ _ hc ⟨.int (g i j), H, I.tok _, ⟨_, rfl⟩, q⟩
theorem opI0 {f : Value → Value → Sem Value} {g : Int → Int → Int}
    (rule : ∀ (i j : Int) (t u : Tok) (s : Shared) (Q : Value → Shared → Prop) (E : Value → Shared → Prop), Q (.int (g i j) s.toks) { s with toks := s.toks + 1 } → wpAny (model X.prog X.w) X.A (f (.int i t) (.int j u)) Q E s) :
    OpR X f (rI0 fun i j => .int (g i j)) := by
  intro pins s σ H x y v u Q I rx ry h
  obtain ⟨i, j, rfl, rfl, q⟩ := h
  obtain ⟨t, rfl⟩ := rx
  obtain ⟨t', rfl⟩ := ry
  exact rule i j t t' s _ _ ⟨.int (g i j), H, I.tok _, ⟨_, rfl⟩, q⟩
theorem opB0 {f : Value → Value → Sem Value} {g : Int → Int → Bool}
    (rule : ∀ (i j : Int) (t u : Tok) (s : Shared) (Q : Value → Shared → Prop) (E : Value → Shared → Prop), Q (.bool (g i j)) s → wpAny (model X.prog X.w) X.A (f (.int i t) (.int j u)) Q E s) :
    OpR X f (rI0 fun i j => .bl (g i j)) := by
  intro pins s σ H x y v u Q I rx ry h
  obtain ⟨i, j, rfl, rfl, q⟩ := h
  obtain ⟨t, rfl⟩ := rx
  obtain ⟨t', rfl⟩ := ry
  exact rule i j t t' s _ _ ⟨.bl (g i j), H, I, rfl, q⟩
def CDiv (i j : Int) : Prop := 0 < j ∧ j < 1073741824
def CMul (i j : Int) : Prop := (-(2 ^ 64) < i ∧ i < 2 ^ 64) ∨ (-(2 ^ 64) < j ∧ j < 2 ^ 64)
theorem CMul.ok {i j : Int} (h : CMul i j) : IntMulOk i j := by
  rcases h with ⟨h1, h2⟩ | ⟨h1, h2⟩
  · exact .of_left (intBits_le_64 h1 h2)
  · exact .of_right (intBits_le_64 h1 h2)
theorem op_add : OpR X (binaryOp .Add) (rI0 fun i j => .int (i + j)) := opI0 fun _ _ _ _ _ _ _ q => add_int q
theorem op_sub : OpR X (binaryOp .Sub) (rI0 fun i j => .int (i - j)) := opI0 fun _ _ _ _ _ _ _ q => sub_int q
theorem op_mul : OpR X (binaryOp .Mult) (rI CMul fun i j => .int (i * j)) := opI fun _ _ _ _ _ _ _ hc q => mul_int q hc.ok
/-- // by a positive divisor -/
theorem op_fdiv : OpR X (binaryOp .FloorDiv) (rI CDiv fun i j => .int (i / j)) := opI fun i j _ _ _ _ _ hc q => by
  have h1 : (0 : Int) < j := hc.1
  have h2 : j < 1073741824 := hc.2
  exact floordiv_int (by omega) (by rw [Int.fdiv_eq_ediv_of_nonneg i (by omega)]; exact q) (.inl (PyProof.noPylong_small (by omega)))
/-- % by a positive divisor of any size -/
theorem op_mod : OpR X (binaryOp .Mod) (rI (fun _ j => 0 < j) fun i j => .int (i % j)) := opI fun i j _ _ _ _ _ hc q => by
  have h1 : (0 : Int) < j := hc
  exact mod_int' (by omega) (by rw [Int.fmod_eq_emod_of_nonneg i (by omega)]; exact q)
theorem unI {f : Value → Sem Value} {g : Int → Int}
    (rule : ∀ (i : Int) (t : Tok) (s : Shared) (Q : Value → Shared → Prop) (E : Value → Shared → Prop), Q (.int (g i) s.toks) { s with toks := s.toks + 1 } → wpAny (model X.prog X.w) X.A (f (.int i t)) Q E s) :
    UnR X f (rU fun i => .int (g i)) := by
  intro pins s σ H x v Q I rx h
  obtain ⟨i, rfl, q⟩ := h
  obtain ⟨t, rfl⟩ := rx
  exact rule i t s _ _ ⟨.int (g i), H, I.tok _, ⟨_, rfl⟩, q⟩
theorem un_neg : UnR X (unaryOp .USub) (rU fun i => .int (-i)) := unI fun _ _ _ _ _ q => neg_int q
end
/-! ### comparisons -/
/-- the scalars that == tells apart as data does -/
def scal : V → V → Bool
  | .non, .non => true | .non, .int _ => true | .int _, .non => true | .non, .bl _ => true | .bl _, .non => true | .non, .str _ => true | .str _, .non => true
  | .int _, .int _ => true | .bl _, .bl _ => true | .str _, .str _ => true | .byt _, .byt _ => true
  | .int _, .str _ => true | .str _, .int _ => true | .bl _, .str _ => true | .str _, .bl _ => true
  | _, _ => false
def rEq : R2 := fun x y H Q => scal x y = true ∧ Q (.bl (decide (x = y))) H
def rNe : R2 := fun x y H Q => scal x y = true ∧ Q (.bl (!decide (x = y))) H
theorem dec_int {i j : Int} : decide (V.int i = V.int j) = (i == j) := by
  rw [Bool.eq_iff_iff]
  simp
theorem dec_bl {i j : Bool} : decide (V.bl i = V.bl j) = (i == j) := by
  rw [Bool.eq_iff_iff]
  simp
theorem dec_str {i j : Str} : decide (V.str i = V.str j) = (i == j) := by
  rw [Bool.eq_iff_iff]
  simp
theorem dec_byt {i j : Array UInt8} : decide (V.byt i = V.byt j) = (i.toList == j.toList) := by
  rw [Bool.eq_iff_iff]
  cases i
  cases j
  simp
section
variable {X : Cx} {a b c : Expr} {ta tb tc : TE} {pos : Pos}
theorem fin_bl {pins : List (Addr × Obj)} {σ : St} {H : Hp} {s : Shared} {Q : VK} {k k' : Bool} (I : Inv X pins σ H s) (q : Q (.bl k) H) (e : k = k') : EP X pins σ Q (.bool k') s := by
  subst e
  exact ⟨.bl k, H, I, rfl, q⟩
theorem op_eq : OpR X (compareOp .Eq) rEq := by
  intro pins s σ H x y v u Q I rx ry h
  obtain ⟨hs, q⟩ := h
  cases x with
  | non =>
    cases rx
    cases y with
    | non => cases ry; exact PySem.EqNone.eq_none_none (fin_bl I q (by simp))
    | bl j => cases ry; exact PySem.EqNone.eq_none_bool (fin_bl I q (by simp))
    | int j => obtain ⟨t', rfl⟩ := ry; exact PySem.EqNone.eq_none_int (fin_bl I q (by simp))
    | str j => obtain ⟨t', rfl⟩ := ry; exact PySem.EqNone.eq_none_str (fin_bl I q (by simp))
    | _ => exact absurd (show false = true from hs) Bool.false_ne_true
  | bl i =>
    cases rx
    cases y with
    | non => cases ry; exact PySem.EqNone.eq_bool_none (fin_bl I q (by simp))
    | bl j => cases ry; exact eq_bool (fin_bl I q dec_bl)
    | str j => obtain ⟨t', rfl⟩ := ry; exact PySem.EqMixed.eq_bool_str (fin_bl I q (by simp))
    | _ => exact absurd (show false = true from hs) Bool.false_ne_true
  | int i =>
    obtain ⟨t, rfl⟩ := rx
    cases y with
    | non => cases ry; exact PySem.EqNone.eq_int_none (fin_bl I q (by simp))
    | int j => obtain ⟨t', rfl⟩ := ry; exact eq_int (fin_bl I q dec_int)
    | str j => obtain ⟨t', rfl⟩ := ry; exact PySem.EqMixed.eq_int_str (fin_bl I q (by simp))
    | _ => exact absurd (show false = true from hs) Bool.false_ne_true
  | str i =>
    obtain ⟨t, rfl⟩ := rx
    cases y with
    | non => cases ry; exact PySem.EqNone.eq_str_none (fin_bl I q (by simp))
    | bl j => cases ry; exact PySem.EqMixed.eq_str_bool (fin_bl I q (by simp))
    | int j => obtain ⟨t', rfl⟩ := ry; exact PySem.EqMixed.eq_str_int (fin_bl I q (by simp))
    | str j => obtain ⟨t', rfl⟩ := ry; exact eq_str (fin_bl I q dec_str)
    | _ => exact absurd (show false = true from hs) Bool.false_ne_true
  | byt i =>
    obtain ⟨t, rfl⟩ := rx
    cases y with
    | byt j => obtain ⟨t', rfl⟩ := ry; exact PySem.W.eq_bytes (fin_bl I q dec_byt)
    | _ => exact absurd (show false = true from hs) Bool.false_ne_true
  | _ => cases y <;> exact absurd (show false = true from hs) Bool.false_ne_true
theorem op_ne : OpR X (compareOp .NotEq) rNe := by
  intro pins s σ H x y v u Q I rx ry h
  obtain ⟨hs, q⟩ := h
  cases x with
  | non =>
    cases rx
    cases y with
    | non => cases ry; exact PySem.EqNone.ne_none_none (fin_bl I q (by simp))
    | bl j => cases ry; exact PySem.EqNone.ne_none_bool (fin_bl I q (by simp))
    | int j => obtain ⟨t', rfl⟩ := ry; exact PySem.EqNone.ne_none_int (fin_bl I q (by simp))
    | str j => obtain ⟨t', rfl⟩ := ry; exact PySem.EqNone.ne_none_str (fin_bl I q (by simp))
    | _ => exact absurd (show false = true from hs) Bool.false_ne_true
  | bl i =>
    cases rx
    cases y with
    | non => cases ry; exact PySem.EqNone.ne_bool_none (fin_bl I q (by simp))
    | bl j => cases ry; exact ne_bool (fin_bl I q (congrArg not dec_bl))
    | str j => obtain ⟨t', rfl⟩ := ry; exact PySem.EqMixed.ne_bool_str (fin_bl I q (by simp))
    | _ => exact absurd (show false = true from hs) Bool.false_ne_true
  | int i =>
    obtain ⟨t, rfl⟩ := rx
    cases y with
    | non => cases ry; exact PySem.EqNone.ne_int_none (fin_bl I q (by simp))
    | int j => obtain ⟨t', rfl⟩ := ry; exact ne_int (fin_bl I q (congrArg not dec_int))
    | str j => obtain ⟨t', rfl⟩ := ry; exact PySem.EqMixed.ne_int_str (fin_bl I q (by simp))
    | _ => exact absurd (show false = true from hs) Bool.false_ne_true
  | str i =>
    obtain ⟨t, rfl⟩ := rx
    cases y with
    | non => cases ry; exact PySem.EqNone.ne_str_none (fin_bl I q (by simp))
    | bl j => cases ry; exact PySem.EqMixed.ne_str_bool (fin_bl I q (by simp))
    | int j => obtain ⟨t', rfl⟩ := ry; exact PySem.EqMixed.ne_str_int (fin_bl I q (by simp))
    | str j => obtain ⟨t', rfl⟩ := ry; exact ne_str (fin_bl I q (congrArg not dec_str))
    | _ => exact absurd (show false = true from hs) Bool.false_ne_true
  | byt i =>
    obtain ⟨t, rfl⟩ := rx
    cases y with
    | byt j => obtain ⟨t', rfl⟩ := ry; exact PySem.W.ne_bytes (fin_bl I q (congrArg not dec_byt))
    | _ => exact absurd (show false = true from hs) Bool.false_ne_true
  | _ => cases y <;> exact absurd (show false = true from hs) Bool.false_ne_true
theorem op_lt : OpR X (compareOp .Lt) (rI0 fun i j => .bl (decide (i < j))) := opB0 fun _ _ _ _ _ _ _ q => lt_int q
theorem op_le : OpR X (compareOp .LtE) (rI0 fun i j => .bl (decide (i ≤ j))) := opB0 fun _ _ _ _ _ _ _ q => le_int q
theorem op_gt : OpR X (compareOp .Gt) (rI0 fun i j => .bl (decide (j < i))) := opB0 fun _ _ _ _ _ _ _ q => gt_int q
theorem op_ge : OpR X (compareOp .GtE) (rI0 fun i j => .bl (decide (j ≤ i))) := opB0 fun _ _ _ _ _ _ _ q => ge_int q
/-- two rules for one operation: by cases -/
theorem OpR.or {f : Value → Value → Sem Value} {r r' : R2} (h : OpR X f r) (h' : OpR X f r') : OpR X f (fun x y H Q => r x y H Q ∨ r' x y H Q) := by
  intro pins s σ H x y v u Q I rx ry q
  rcases q with q | q
  · exact h pins s σ H x y v u Q I rx ry q
  · exact h' pins s σ H x y v u Q I rx ry q
theorem nomark (b : Expr) {op : CmpOp} (h : op ≠ .In := by decide) (h2 : op ≠ .NotIn := by decide) : behindInMarks op b = false := by
  have e1 : (op == CmpOp.In) = false := by cases op <;> first | rfl | exact absurd rfl h
  have e2 : (op == CmpOp.NotIn) = false := by cases op <;> first | rfl | exact absurd rfl h2
  cases b <;> simp [behindInMarks, e1, e2]
/-- a comparison as a value; hm: nomark b, or (for in, not in) by with_unfolding_all rfl -/
theorem pe_cmpR {op : CmpOp} {r : R2} (ho : OpR X (compareOp op) r) (ha : PE X a ta) (hb : PE X b tb) (hm : behindInMarks op b = false) : PE X (.Compare a [op] [b] pos) (tOp r ta tb) := by
  intro pins s σ H Q I h
  exact wpAny_Compare1 (binT ha hb I h fun v u s2 x y H2 I2 rx ry q => ho pins s2 σ H2 x y v u Q I2 rx ry q) hm
/-- a reading of a value as a test -/
def tTest (t : TE) : TT := fun σ H Q => t σ H fun x H' => ∃ k, x = .bl k ∧ Q k H'
theorem pt_cmpR {op : CmpOp} {r : R2} (ho : OpR X (compareOp op) r) (ha : PE X a ta) (hb : PE X b tb) (hm : behindInMarks op b = false) : PT X (.Compare a [op] [b] pos) (tTest (tOp r ta tb)) := by
  intro pins s σ H Q I h
  refine wpAny_isTrue_Compare1 (thn (ha pins s σ H _ I h) fun v s1 ⟨x, H1, I1, r1, q1⟩ => thn (hb pins s1 σ H1 _ I1 q1) fun u s2 ⟨y, H2, I2, r2, q2⟩ =>
    thn (ho pins s2 σ H2 x y v u _ I2 r1 r2 q2) fun c s3 ⟨z, H3, I3, r3, k, e, q3⟩ => ?_) hm
  subst e
  cases r3
  exact wpAny_truthy_bool ⟨H3, I3, q3⟩
/-- a op1 b op2 c -/
def tChain (r r' : R2) (ta tb tc : TE) : TE := fun σ H Q => ta σ H fun x H1 => tb σ H1 fun y H2 => r x y H2 fun z H3 => ∃ k, z = .bl k ∧
  (if k = true then tc σ H3 fun w' H4 => r' y w' H4 Q else Q (.bl false) H3)
theorem pe_chain {op op' : CmpOp} {r r' : R2} (ho : OpR X (compareOp op) r) (ho' : OpR X (compareOp op') r') (ha : PE X a ta) (hb : PE X b tb) (hc : PE X c tc)
    (hm : lastMarks [op, op'] [b, c] = false := by with_unfolding_all rfl) : PE X (.Compare a [op, op'] [b, c] pos) (tChain r r' ta tb tc) := by
  intro pins s σ H Q I h
  refine Compare_chain (thn (ha pins s σ H _ I h) fun v s1 ⟨x, H1, I1, r1, q1⟩ => chain_link (thn (hb pins s1 σ H1 _ I1 q1) fun u s2 ⟨y, H2, I2, r2, q2⟩ =>
    thn (ho pins s2 σ H2 x y v u _ I2 r1 r2 q2) fun d s3 ⟨z, H3, I3, r3, k, e, q3⟩ => ?_)) hm
  subst e
  cases r3
  refine wpAny_truthy_bool ?_
  cases k with
  | false => exact ite_ff ⟨.bl false, H3, I3, rfl, q3⟩
  | true => exact ite_tt (chain_last (thn (hc pins s3 σ H3 _ I3 q3) fun w' s4 ⟨z', H4, I4, r4, q4⟩ => ho' pins s4 σ H4 y z' u w' Q I4 r2 r4 q4))
theorem line63 : (sizeLine : Nat) < 2 ^ 63 := by rw [sizeLine_eq]; decide
/-! ### scalar builtins, by CallR -/
theorem vals1 {x : V} {us : List Value} (r : Vals [x] us) : ∃ u, us = [u] ∧ RelV x u := by
  cases r with
  | cons r1 r2 => cases r2; exact ⟨_, rfl, r1⟩
theorem vals2 {x y : V} {us : List Value} (r : Vals [x, y] us) : ∃ u w', us = [u, w'] ∧ RelV x u ∧ RelV y w' := by
  cases r with
  | cons r1 r2 =>
    cases r2 with
    | cons r3 r4 => cases r4; exact ⟨_, _, rfl, r1, r3⟩
theorem call_abs : CallR X (.builtin "abs") (fun xs H Q => ∃ i, xs = [.int i] ∧ Q (.int (if i < 0 then -i else i)) H) := by
  intro pins s σ H xs us Q I r h
  obtain ⟨i, rfl, q⟩ := h
  obtain ⟨u, rfl, t, rfl⟩ := vals1 r
  exact call_abs_int fun u tk => ⟨.int (if i < 0 then -i else i), H, I.tok _, ⟨_, rfl⟩, q⟩
theorem call_max2 (hc : X.calm = true) : CallR X (.builtin "max") (fun xs H Q => ∃ i j, xs = [.int i, .int j] ∧ Q (.int (if j > i then j else i)) H) := by
  intro pins s σ H xs us Q I r h
  obtain ⟨i, j, rfl, q⟩ := h
  obtain ⟨u, w', rfl, ⟨t, rfl⟩, ⟨t', rfl⟩⟩ := vals2 r
  refine max_two_ints (I.ok.hd hc) fun h' tk k => ⟨_, H, I.kept k, ?_, q⟩
  by_cases hj : j > i
  · rw [if_pos hj, if_pos hj]; exact ⟨_, rfl⟩
  · rw [if_neg hj, if_neg hj]; exact ⟨_, rfl⟩
theorem call_min2 (hc : X.calm = true) : CallR X (.builtin "min") (fun xs H Q => ∃ i j, xs = [.int i, .int j] ∧ Q (.int (if j < i then j else i)) H) := by
  intro pins s σ H xs us Q I r h
  obtain ⟨i, j, rfl, q⟩ := h
  obtain ⟨u, w', rfl, ⟨t, rfl⟩, ⟨t', rfl⟩⟩ := vals2 r
  refine min_two_ints (I.ok.hd hc) fun h' tk k => ⟨_, H, I.kept k, ?_, q⟩
  by_cases hj : j < i
  · rw [if_pos hj, if_pos hj]; exact ⟨_, rfl⟩
  · rw [if_neg hj, if_neg hj]; exact ⟨_, rfl⟩
end
end L2
namespace L2
open PySem PySem.Spec PyProof.Rows
/-! ### an instance, its attributes a map -/
structure ObjM (h : Heap) (x dx C : Addr) (mA : Str → Option Value) : Prop where
  obj : h.get? x = some (PySem.W.instObj C dx)
  ns : h.Ns1 dx mA
  ne : dx ≠ x
theorem lookIn_ns {h : Heap} {dx : Addr} {mA : Str → Option Value} (n : h.Ns1 dx mA) : ∃ od, h.get? dx = some od ∧ ∀ name, PySem.W.lookIn name od = some (mA name) := by
  obtain ⟨o, es, ep, ho, hd, hk, _, hm⟩ := n
  refine ⟨o, ho, fun name => ?_⟩
  have e := hm name
  unfold nsFind findBy at e
  rw [← Array.find?_toList] at e
  unfold PySem.W.lookIn
  rw [hd]
  dsimp only
  split
  · rename_i y q
    rw [q] at e
    exact congrArg some e
  · rename_i q
    rw [q] at e
    have a : es.toList.any (·.refKey) = false := by
      rw [List.any_eq_false]
      intro y hy
      obtain ⟨z, t, hkey⟩ := hk y (Array.mem_toList_iff.mp hy)
      simp [DictEntry.refKey, hkey]
    have a' : ¬ es.toList.any (·.refKey) = true := by rw [a]; exact Bool.false_ne_true
    rw [if_neg a']
    exact congrArg some e
theorem ObjM.look {h : Heap} {x dx C : Addr} {mA : Str → Option Value} (I : ObjM h x dx C mA) : ∃ od, PySem.W.InstAt h x (PySem.W.instObj C dx) C (some od) ∧ ∀ name, PySem.W.lookIn name od = some (mA name) :=
  let ⟨od, ho, hl⟩ := lookIn_ns I.ns
  ⟨od, ⟨I.obj, rfl, rfl, ho⟩, hl⟩
section
variable {prog : Program} {w : World} {A : Around} {E : Value → Shared → Prop} {s : Shared} {K : PySem.W.Frag} {x dx C f : Addr} {mA : Str → Option Value} {name : Str} {v : Value}
theorem get_map {expr : Bool} {Q : Value → Shared → Prop} (X : K.In s.heap) (I : ObjM s.heap x dx C mA) (hg : PySem.W.plainGet K C name = true) (hh : PySem.W.hasDictIn K C = true)
    (ha : PySem.W.findIn K (.ref C) name = some none) (hv : mA name = some v) (hv' : PySem.W.handedIn v = true) (h : Q v { s with toks := s.toks + 1 }) :
    wpAny (model prog w) A (getAttr (.ref x) name expr) Q E s := by
  obtain ⟨od, J, hl⟩ := I.look
  exact PySem.W.get_value X J (PySem.W.plainGet_of hg).1 (PySem.W.findObj_own hh ha rfl (by rw [hl, hv])) hv' h
theorem get_meth {pl : Sem Bool} {Q : Value × List Value → Shared → Prop} (X : K.In s.heap) (I : ObjM s.heap x dx C mA) (hg : PySem.W.plainGet K C name = true)
    (hf : PySem.W.findIn K (.ref C) name = some (some (.ref f))) (ht : PySem.W.isFn K (.ref f) = true) (hv : mA name = none) (h : Q (.ref f, [.ref x]) s) :
    wpAny (model prog w) A (getMethod (.ref x) name pl) Q E s := by
  obtain ⟨od, J, hl⟩ := I.look
  exact PySem.W.method_fn X J (PySem.W.plainGet_of hg).1 (PySem.W.plainGet_of hg).2 hf (beq_iff_eq.mp ht) (by show (PySem.W.lookIn name od).map (·.isSome) = some false; rw [hl, hv]; rfl) h
theorem set_map {ns : List Str} {Q : Unit → Shared → Prop} (X : K.In s.heap) (I : ObjM s.heap x dx C mA)
    (hs : PySem.W.findIn K (.ref C) "__setattr__" = some (some (.builtin "object.__setattr__"))) (hp : PySem.W.plainOver K C = true) (ht : PySem.W.takerIn K C name = some none) (hh : PySem.W.hasDictIn K C = true)
    (hw : PySem.Within mA ns) (hsz : ns.length ≤ sizeLine)
    (h : ∀ h', ObjM h' x dx C (fun y => if y = name then some v else mA y) → Heap.SameBut dx s.heap h' → Q () { s with heap := h', toks := s.toks + 2 }) :
    wpAny (model prog w) A (setAttr (.ref x) name v) Q E s := by
  obtain ⟨od, J, hl⟩ := I.look
  refine PySem.W.set_plain X J hs (PySem.W.osa_open (s := { s with toks := s.toks + 1 }) (r := none) X J hp ht fun b => ?_)
  obtain ⟨cd, hc, hd'⟩ := PySem.W.any_some hh
  have hx : s.heap.get? x = some ⟨.ref C, some dx, .plain, #[]⟩ := I.obj
  refine wpAny_bind (wpAny_pure (wpAny_bind (wpAny_bind (wpAny_loadPart hx (wpAny_bind (PySem.W.Looks.here (s := { s with toks := s.toks + 1 }) (PySem.W.looks_clsIn X hc) ?_))))))
  rw [hd']
  refine wpAny_pure (a := some dx) (wpAny_bind (wpAny_pure (wpAny_bind ?_)))
  refine wpAny_nsSet1 (s := { s with toks := s.toks + 1 }) I.ns fun h' hn2 hs2 => ?_
  obtain ⟨oD, esD, epD, hoD, hdD, hcD⟩ := hn2.count (PySem.Within.cons name v hw)
  refine wpAny_bind (wpAny_lookBehind hoD (by rw [hdD]; exact pastItsLine_dict (Nat.le_trans hcD (by rw [List.length_cons]; omega))) ?_)
  exact wpAny_pure (h _ ⟨(hs2.2 _ (Ne.symm I.ne)).trans I.obj, hn2, I.ne⟩ hs2)
/-- C(..): the dict at the heap's end, the instance behind it; then its __init__ -/
theorem make_map {R : Result → Shared → Prop} {vs : List Value} {kw : List (Str × Value)} (X : K.In s.heap) (hm : PySem.W.makesIn K C = true)
    (hi : PySem.W.findIn K (.ref C) "__init__" = some (some (.ref f))) (hf : PySem.W.typeIn K (.ref f) = some (.type "function"))
    (h : codeAny (model prog w) (A.under (.builtin "type.__call__" ⟨.ref C :: vs, kw⟩)) (.call (.ref f) ⟨.ref (s.heap.objs.size + 1) :: vs, kw⟩) (PySem.W.InitBack (s.heap.objs.size + 1) R)
      { s with heap := (s.heap.push PySem.W.emptyDict).push (PySem.W.instObj C s.heap.objs.size) }) :
    codeAny (model prog w) A (.call (.ref C) ⟨vs, kw⟩) R s := by
  obtain ⟨hh, g, d, t, os⟩ := s
  exact PySem.W.make_core (PySem.W.makes_of X hm) (PySem.W.looks_findIn X hi) (fun self => PySem.W.bind_fn X self hf) (.inl rfl) h
end
/-! ### the attributes as a list of pairs -/
def putF (f : Str) (v : V) : List (Str × V) → List (Str × V)
  | [] => [(f, v)]
  | (g, x) :: r => if g = f then (g, v) :: r else (g, x) :: putF f v r
theorem lookup_putF (f g : Str) (v : V) : ∀ fs : List (Str × V), (putF f v fs).lookup g = if g = f then some v else fs.lookup g
  | [] => by
    show List.lookup g [(f, v)] = _
    by_cases h : g = f
    · have hb : (g == f) = true := beq_iff_eq.mpr h
      simp only [List.lookup, hb, if_pos h]
    · have hb : (g == f) = false := beq_eq_false_iff_ne.mpr h
      simp only [List.lookup, hb, if_neg h]
  | (k, x) :: r => by
    have ih := lookup_putF f g v r
    rw [show putF f v ((k, x) :: r) = (if k = f then (k, v) :: r else (k, x) :: putF f v r) from rfl]
    by_cases hk : k = f
    · rw [if_pos hk]
      by_cases h : g = k
      · have hb : (g == k) = true := beq_iff_eq.mpr h
        simp only [List.lookup, hb, if_pos (h.trans hk)]
      · have hb : (g == k) = false := beq_eq_false_iff_ne.mpr h
        simp only [List.lookup, hb, if_neg (fun e : g = f => h (e.trans hk.symm))]
    · rw [if_neg hk]
      by_cases h : g = k
      · have hb : (g == k) = true := beq_iff_eq.mpr h
        simp only [List.lookup, hb, if_neg (fun e : g = f => hk (h.symm.trans e))]
      · have hb : (g == k) = false := beq_eq_false_iff_ne.mpr h
        simp only [List.lookup, hb]
        exact ih
theorem keys_putF (f : Str) (v : V) : ∀ fs : List (Str × V), f ∈ (putF f v fs).map (·.1) ∧ ∀ g, g ∈ fs.map (·.1) → g ∈ (putF f v fs).map (·.1)
  | [] => ⟨by simp [putF], fun g h => by simp at h⟩
  | (k, x) :: r => by
    obtain ⟨i1, i2⟩ := keys_putF f v r
    rw [show putF f v ((k, x) :: r) = (if k = f then (k, v) :: r else (k, x) :: putF f v r) from rfl]
    by_cases hk : k = f
    · rw [if_pos hk]
      subst hk
      exact ⟨by simp, fun g h => by simpa using h⟩
    · rw [if_neg hk]
      refine ⟨?_, fun g h => ?_⟩
      · rw [List.map_cons]
        exact List.mem_cons_of_mem _ i1
      · rw [List.map_cons] at h ⊢
        rcases List.mem_cons.mp h with e | e
        · exact List.mem_cons.mpr (.inl e)
        · exact List.mem_cons_of_mem _ (i2 g e)
theorem length_putF (f : Str) (v : V) : ∀ fs : List (Str × V), (putF f v fs).length ≤ fs.length + 1
  | [] => by simp [putF]
  | (k, x) :: r => by
    have ih := length_putF f v r
    rw [show putF f v ((k, x) :: r) = (if k = f then (k, v) :: r else (k, x) :: putF f v r) from rfl]
    by_cases hk : k = f
    · rw [if_pos hk, List.length_cons, List.length_cons]; omega
    · rw [if_neg hk, List.length_cons, List.length_cons]; omega
theorem RelO.some_of {v : V} {o : Option Value} (r : RelO (some v) o) : ∃ u, o = some u ∧ RelV v u := by
  cases o with
  | none => exact (show False from r).elim
  | some u => exact ⟨u, rfl, r⟩
theorem RelO.none_of {o : Option Value} (r : RelO none o) : o = none := by
  cases o with
  | none => rfl
  | some u => exact (show False from r).elim
theorem handed_of {v : V} {u : Value} (r : RelV v u) : PySem.W.handedIn u = true := by
  cases v with
  | non => cases (show u = Value.none from r); rfl
  | bl b => cases (show u = Value.bool b from r); rfl
  | int i => obtain ⟨t, e⟩ := (show ∃ t, u = Value.int i t from r); cases e; rfl
  | str x => obtain ⟨t, e⟩ := (show ∃ t, u = Value.str x t from r); cases e; rfl
  | byt b => obtain ⟨t, e⟩ := (show ∃ t, u = Value.bytes b t from r); cases e; rfl
  | flt b => obtain ⟨t, e⟩ := (show ∃ t, u = Value.float b t from r); cases e; rfl
  | ref a => cases (show u = Value.ref a from r); rfl
  | ty n => cases (show u = Value.type n from r); rfl
section
variable {P : Program} {w : World} {H H' : Hp} {h h' : Heap} {a C dx : Addr} {fs fs' : List (Str × V)}
theorem ins_get (hok : HOk P w H h) (e : H a = some (.ins C dx fs)) : ∃ mA, ObjM h a dx C mA ∧ (∀ f, RelO (fs.lookup f) (mA f)) ∧ PySem.Within mA (fs.map (·.1)) ∧ fs.length ≤ 1000 ∧ H dx = some (.own a) := by
  obtain ⟨d, z, ne, ob, mA, n, r, q⟩ := (show ObjOk P w H h a (.ins C dx fs) from hok a _ e)
  exact ⟨mA, ⟨ob, n, ne⟩, r, q, z, d⟩
end
/-! ### what of the text a class must have -/
structure Cls (K : PySem.W.Frag) (C : Addr) : Prop where
  pg : PySem.W.plainGet K C Str.empty = true
  hd : PySem.W.hasDictIn K C = true
  po : PySem.W.plainOver K C = true
  sa : PySem.W.findIn K (.ref C) "__setattr__" = some (some (.builtin "object.__setattr__"))
theorem Cls.get {K : PySem.W.Frag} {C : Addr} (c : Cls K C) (f : Str) : PySem.W.plainGet K C f = true := c.pg
/-- no class of it has the name -/
def NoAttr (K : PySem.W.Frag) (C : Addr) (f : Str) : Prop := PySem.W.findIn K (.ref C) f = some none
theorem NoAttr.taker {K : PySem.W.Frag} {C : Addr} {f : Str} (n : NoAttr K C f) : PySem.W.takerIn K C f = some none := by
  unfold PySem.W.takerIn
  rw [show PySem.W.findIn K (.ref C) f = some none from n]
  rfl
/-- a constant of the class -/
structure Con (K : PySem.W.Frag) (C : Addr) (f : Str) (v : V) (u : Value) : Prop where
  at_ : PySem.W.findIn K (.ref C) f = some (some u)
  rel : RelV v u
  get : PySem.W.specialIn K u "__get__" = some none
  cp : PySem.W.copiedNames.contains f = false
/-- a method: a plain def of the class or of one above it -/
structure Meth (K : PySem.W.Frag) (C : Addr) (m : Str) (f : Addr) : Prop where
  at_ : PySem.W.findIn K (.ref C) m = some (some (.ref f))
  fn : PySem.W.isFn K (.ref f) = true
  kp : PySem.W.keepIn K (.ref f) = true
section
variable {X : Cx} {pins : List (Addr × Obj)} {σ : St} {H : Hp} {s : Shared} {a C dx : Addr} {fs : List (Str × V)} {f : Str} {v : V} {A : Around} {E : Value → Shared → Prop}
theorem getattr_ok {b : Bool} {Q : Value → Shared → Prop} (I : Inv X pins σ H s) (e : H a = some (.ins C dx fs)) (c : Cls X.K C) (n : NoAttr X.K C f) (l : fs.lookup f = some v)
    (h : ∀ u s', Inv X pins σ H s' → RelV v u → Q u s') : wpAny (model X.prog X.w) A (getAttr (.ref a) f b) Q E s := by
  obtain ⟨mA, O, r, _, _, _⟩ := ins_get I.hok e
  obtain ⟨u, hu, ru⟩ := RelO.some_of (v := v) (o := mA f) (by rw [← l]; exact r f)
  exact get_map I.kIn O (c.get f) c.hd n hu (handed_of ru) (h u _ (I.tok _) ru)
theorem getmeth_ok {m : Str} {g : Addr} {pl : Sem Bool} {Q : Value × List Value → Shared → Prop} (I : Inv X pins σ H s) (e : H a = some (.ins C dx fs)) (c : Cls X.K C) (k : Meth X.K C m g) (l : fs.lookup m = none)
    (h : Q (.ref g, [.ref a]) s) : wpAny (model X.prog X.w) A (getMethod (.ref a) m pl) Q E s := by
  obtain ⟨mA, O, r, _, _, _⟩ := ins_get I.hok e
  have hn : mA m = none := RelO.none_of (by rw [← l]; exact r m)
  exact get_meth I.kIn O (c.get m) k.at_ k.fn hn h
theorem setattr_ok {y : V} {u : Value} {Q : Unit → Shared → Prop} (I : Inv X pins σ H s) (e : H a = some (.ins C dx fs)) (c : Cls X.K C) (n : NoAttr X.K C f) (hl : fs.length < 1000) (ry : RelV y u)
    (h : ∀ s', Inv X pins σ (upd H a (.ins C dx (putF f y fs))) s' → Q () s') : wpAny (model X.prog X.w) A (setAttr (.ref a) f u) Q E s := by
  obtain ⟨mA, O, r, wi, _, ho⟩ := ins_get I.hok e
  have hz : (fs.map (·.1)).length ≤ sizeLine := by rw [List.length_map, sizeLine_eq]; omega
  refine set_map I.kIn O c.sa c.po n.taker c.hd wi hz fun h' O' sb => h _ ?_
  have hd : ∃ o, h'.get? dx = some o := let ⟨o, _, _, e', _⟩ := O'.ns; ⟨o, e'⟩
  refine I.write (x := a) (e := dx) (by rw [e]; exact True.intro) (.inr ho) (fun b q hb z => (sb.2 b hb).trans z) hd ?_
  refine ⟨by rw [upd_ne O.ne]; exact ho, ?_, O.ne, O'.obj, _, O'.ns, fun g => ?_, fun g hg => ?_⟩
  · have := length_putF f y fs; omega
  · show RelO ((putF f y fs).lookup g) (if g = f then some u else mA g)
    rw [lookup_putF]
    by_cases q : g = f
    · rw [if_pos q, if_pos q]; exact ry
    · rw [if_neg q, if_neg q]; exact r g
  · by_cases q : g = f
    · rw [q]; exact (keys_putF f y fs).1
    · refine (keys_putF f y fs).2 g (wi g fun z => hg ?_)
      show (if g = f then some u else mA g) = none
      rw [if_neg q]; exact z
/-- a new instance, tracked, without attributes -/
theorem Inv.made (I : Inv X pins σ H s) : Inv X pins σ (upd (upd H s.heap.objs.size (.own (s.heap.objs.size + 1))) (s.heap.objs.size + 1) (.ins C s.heap.objs.size []))
    { s with heap := (s.heap.push PySem.W.emptyDict).push (PySem.W.instObj C s.heap.objs.size) } := by
  have e1 : (s.heap.push PySem.W.emptyDict).get? s.heap.objs.size = some PySem.W.emptyDict := Heap.get?_push_size s.heap rfl
  have e2 : ((s.heap.push PySem.W.emptyDict).push (PySem.W.instObj C s.heap.objs.size)).get? (s.heap.objs.size + 1) = some (PySem.W.instObj C s.heap.objs.size) := by
    have := Heap.get?_push_size (s.heap.push PySem.W.emptyDict) (o := PySem.W.instObj C s.heap.objs.size) rfl
    rwa [Heap.size_push] at this
  have e3 : (s.heap.push PySem.W.emptyDict).Ns s.heap.objs.size (fun _ => none) := ⟨PySem.W.emptyDict, #[], _, e1, rfl, (fun e he => absurd he (by simp)), fun _ => rfl⟩
  have I1 := I.laid (a := s.heap.objs.size) (o := .own (s.heap.objs.size + 1)) (h' := s.heap.push PySem.W.emptyDict) (t' := s.toks) (fun b u q => Heap.get?_push_of_some _ q) (Nat.le_refl _) ⟨_, e1⟩
  refine I1.laid (a := s.heap.objs.size + 1) (o := .ins C s.heap.objs.size []) (t' := s.toks) (fun b u q => Heap.get?_push_of_some _ q) (Nat.le_of_eq (Heap.size_push _ _)) ?_
  have ne : s.heap.objs.size ≠ s.heap.objs.size + 1 := Nat.ne_of_lt (Nat.lt_succ_self _)
  refine ⟨by rw [upd_ne ne, upd_same], Nat.zero_le _, ne, e2, fun _ => none, (Heap.Ns1.of_empty e3).at fun o q => Heap.get?_push_of_some _ q, fun _ => True.intro, fun y hy => absurd rfl hy⟩
/-- e.f where nothing but the object is asked: through attributeBase (super) and the last hold -/
theorem attr_of {prog : Program} {w : World} {env : Env} {e : Expr} {f : Str} {pos : Pos} {s : Shared} {Q : Value → Shared → Prop} (hb : attributeBase e f env (eval e env) = eval e env)
    (h : wpAny (model prog w) A (eval e env) (fun o s₁ => wpAny (model prog w) A (getAttr o f true) Q E s₁) E s) : wpAny (model prog w) A (eval (.Attribute e f pos) env) Q E s :=
  Attribute_any_ h (by rw [arm_eval_Attribute, hb])
end
/-! ### readings and rules -/
/-- e.f, an attribute of the instance -/
def tFld (K : PySem.W.Frag) (ta : TE) (f : Str) : TE := fun σ H Q => ta σ H fun x H1 => ∃ a C dx fs v, x = .ref a ∧ H1 a = some (.ins C dx fs) ∧ Cls K C ∧ NoAttr K C f ∧ fs.lookup f = some v ∧ Q v H1
/-- e.f = value -/
def sFld (K : PySem.W.Frag) (ta tv : TE) (f : Str) : TS := fun D σ H => tv σ H fun y H1 => ta σ H1 fun x H2 => ∃ a C dx fs, x = .ref a ∧ H2 a = some (.ins C dx fs) ∧ Cls K C ∧ NoAttr K C f ∧ fs.length < 1000 ∧
  D.nx σ (upd H2 a (.ins C dx (putF f y fs)))
section
variable {X : Cx} {o e value : Expr} {f : Str} {pos pos' tpos : Pos} {ta tv : TE}
theorem pe_fld (he : PE X e ta) (hb : attributeBase e f X.env (eval e X.env) = eval e X.env) : PE X (.Attribute e f pos) (tFld X.K ta f) := by
  intro pins s σ H Q I h
  refine attr_of hb (thn (he pins s σ H _ I h) fun u s1 ⟨x, H1, I1, rx, a, C, dx, fs, v, ex, ea, c, n, l, q⟩ => ?_)
  subst ex
  obtain rfl : u = Value.ref a := rx
  exact getattr_ok I1 ea c n l fun u' s2 I2 ru => ⟨v, H1, I2, ru, q⟩
theorem ps_fld (ha : PE X o ta) (hv : PE X value tv) (hs : swapsWith value (some (.Attribute o f pos')) pos.line X.env = pure false) : PS X (.Assign [.Attribute o f pos'] value pos) (sFld X.K ta tv f) := by
  intro pins s σ H D I h
  refine plainObj_wpAny_Assign_Attribute (thn (hv pins s σ H _ I h) fun u s1 ⟨y, H1, I1, ry, q⟩ => thn (ha pins s1 σ H1 _ I1 q) fun ov s2 ⟨x, H2, I2, rx, a, C, dx, fs, ex, ea, c, n, l, q2⟩ => ?_) hs
  subst ex
  obtain rfl : ov = Value.ref a := rx
  exact setattr_ok I2 ea c n l ry fun s3 I3 => ⟨σ, _, I3, q2⟩
end
/-! ### isinstance -/
section
variable {X : Cx} {pins : List (Addr × Obj)} {σ : St} {H : Hp} {s : Shared} {A : Around} {E : Value → Shared → Prop} {Q : Value → Shared → Prop} {c : Value} {b : Bool}
/-- the type of a value, as the fragment's deciders take it; for an instance its class -/
inductive TyOf (K : PySem.W.Frag) (H : Hp) : V → Value → Prop where
  | non : TyOf K H .non (.type "NoneType")
  | bl (x : Bool) : TyOf K H (.bl x) (.type "bool")
  | int (i : Int) : TyOf K H (.int i) (.type "int")
  | str (x : Str) : TyOf K H (.str x) (.type "str")
  | flt (x : UInt64) : TyOf K H (.flt x) (.type "float")
  | lst {a : Addr} {xs : List V} (e : H a = some (.lst xs)) : TyOf K H (.ref a) (.type "list")
  | frz {a : Addr} {o : Obj} {xs : List V} (e : H a = some (.frz o (.lst xs))) : TyOf K H (.ref a) (.type "list")
  | tup {a : Addr} {xs : List V} (e : H a = some (.tup xs)) : TyOf K H (.ref a) (.type "tuple")
  | dK {a : Addr} {kvs : List (Key × V)} (e : H a = some (.dK kvs)) : TyOf K H (.ref a) (.type "dict")
  | dT {a : Addr} {kvs : List (List Key × V)} (e : H a = some (.dT kvs)) : TyOf K H (.ref a) (.type "dict")
  | ins {a C dx : Addr} {fs : List (Str × V)} (e : H a = some (.ins C dx fs)) (cl : Cls K C) (ha : PySem.W.findIn K (.ref C) "__class__" = some (some (.builtin "object.__class__")))
      (hn : PySem.W.specialIn K (.builtin "object.__class__") "__get__" = some (some (.builtin "getset_descriptor.__get__"))) (htk : PySem.W.takesIn K (.builtin "object.__class__") = some true)
      (hm : PySem.W.mroIn K C (.type "object") = some true) : TyOf K H (.ref a) (.ref C)
end
end L2
namespace L2
open PySem PySem.Spec PyProof.Rows
/-! ### room -/
structure Room (k : Nat) (A : Around) : Prop where
  hd : A.handled = none
  dp : A.depth + 3 * k + 5 < recursionLimit
  un : A.units + 16 * k + 200 < cLine
theorem Room.mono {j k : Nat} {A : Around} (r : Room k A) (h : j ≤ k) : Room j A := ⟨r.hd, by have := r.dp; omega, by have := r.un; omega⟩
theorem Room.deeper {k : Nat} {A : Around} (r : Room (k + 1) A) (env : Env) : Room k (A.deeper env) :=
  ⟨r.hd, by have := r.dp; show A.depth + 1 + 3 * k + 5 < _; omega, by have := r.un; show A.units + 3 + 16 * k + 200 < _; omega⟩
theorem Room.in1 {k : Nat} {A : Around} (r : Room (k + 1) A) : Room k A.in1 :=
  ⟨r.hd, by have := r.dp; show A.depth + 3 * k + 5 < _; omega, by have := r.un; show A.units + 1 + 16 * k + 200 < _; omega⟩
theorem make_depth {A : Around} {C : Addr} {us : List Value} {kw : List (Str × Value)} : (A.under (.builtin "type.__call__" ⟨.ref C :: us, kw⟩)).depth = A.depth + 1 := by
  first | rfl | simp [Around.under, Code.weight, Code.isCreation, Code.isGuard, Code.isCaller, Code.frames, Code.isFrame, guardIds]
theorem make_units {A : Around} {C : Addr} {us : List Value} {kw : List (Str × Value)} : (A.under (.builtin "type.__call__" ⟨.ref C :: us, kw⟩)).units = A.units + 1 := by
  first | rfl | simp [Around.under, Code.cUnits, Code.frames, Code.isFrame]
theorem Room.make {k : Nat} {A : Around} (r : Room (k + 1) A) (C : Addr) (us : List Value) (kw : List (Str × Value)) : Room k (A.under (.builtin "type.__call__" ⟨.ref C :: us, kw⟩)) :=
  ⟨r.hd, by have := r.dp; rw [make_depth]; omega, by have := r.un; rw [make_units]; omega⟩
theorem Room.depth {k : Nat} {A : Around} (r : Room k A) : A.depth < recursionLimit := by have := r.dp; omega
theorem Room.units {k : Nat} {A : Around} (r : Room k A) : A.units + 64 < cLine := by have := r.un; omega
/-! ### argument lists and displays -/
def tNil : TA := fun _ H Q => Q [] H
def tCons (ta : TE) (tr : TA) : TA := fun σ H Q => ta σ H fun x H1 => tr σ H1 fun xs H2 => Q (x :: xs) H2
section
variable {X : Cx} {e : Expr} {es : List Expr} {te : TE} {t : TA} {pos : Pos}
theorem pa_nil : PA X [] tNil := fun _ _ _ _ H Q I h => Calls.spliced_nil ⟨[], H, I, .nil, h⟩
theorem pa_cons (ha : PE X e te) (hr : PA X es t) (hs : starEach (e :: es) X.env = (false, eval e X.env) :: starEach es X.env := by rfl) : PA X (e :: es) (tCons te t) := by
  intro pos pins s σ H Q I h
  rw [hs]
  show wpAny _ _ (spliced ((false, eval e X.env) :: backTo pos (starEach es X.env))) _ _ s
  refine Calls.spliced_cons (thn (ha pins s σ H _ I h) fun u s1 ⟨x, H1, I1, r1, q1⟩ => ?_)
  exact thn (hr pos pins s1 σ H1 _ I1 q1) fun us s2 ⟨xs, H2, I2, r2, q2⟩ => ⟨x :: xs, H2, I2, .cons r1 r2, q2⟩
/-- a tuple, a list of written items -/
def tTup (t : TA) : TE := fun σ H Q => t σ H fun xs H1 => xs.length ≤ sizeLine ∧ ∀ p, H1 p = none → Q (.ref p) (upd H1 p (.tup xs))
def tLst (t : TA) : TE := fun σ H Q => t σ H fun xs H1 => xs.length ≤ sizeLine ∧ ∀ p, H1 p = none → Q (.ref p) (upd H1 p (.lst xs))
theorem pe_tup {x1} (h : PA X es t) : PE X (.Tuple es x1 pos) (tTup t) := by
  intro pins s σ H Q I hq
  refine wpAny_Tuple_spliced (thn (h pos pins s σ H _ I hq) fun us s1 ⟨xs, H1, I1, r, z, q⟩ => ⟨by rw [← r.length]; exact z, ?_⟩)
  have hf : H1 s1.heap.objs.size = none := I1.hok.fresh (Nat.le_refl _)
  refine ⟨.ref s1.heap.objs.size, upd H1 s1.heap.objs.size (.tup xs), I1.laid (t' := s1.toks) (fun b u e => Heap.get?_push_of_some _ e) (Nat.le_refl _) ?_, rfl, q _ hf⟩
  exact ⟨z, us, r, ⟨_, Heap.get?_push_size _ rfl, rfl, _, rfl⟩⟩
theorem pe_lst (h : PA X es t) : PE X (.List es pos) (tLst t) := by
  intro pins s σ H Q I hq
  refine wpAny_List_spliced (thn (h pos pins s σ H _ I hq) fun us s1 ⟨xs, H1, I1, r, z, q⟩ => ⟨by rw [← r.length]; exact z, ?_⟩)
  have hf : H1 s1.heap.objs.size = none := I1.hok.fresh (Nat.le_refl _)
  refine ⟨.ref s1.heap.objs.size, upd H1 s1.heap.objs.size (.lst xs), I1.laid (t' := s1.toks) (fun b u e => Heap.get?_push_of_some _ e) (Nat.le_refl _) ?_, rfl, q _ hf⟩
  exact ⟨z, us, 0, r, Heap.get?_push_size _ rfl⟩
end
/-! ### what a def promises -/
/-- a def's promise: the bound arguments in the parameters' order, the heap, the wanted end, the wanted exception -/
abbrev Sp := List V → Hp → VK → XK → Prop
/-- how an exception lies behind a call (file 08 gives it): the callers' frames, abstract heap and state ahead of the call, the wish, the exception, the state -/
abbrev CXT := List Env → Hp → Shared → XK → Value → Shared → Prop
/-- the state at a call -/
structure Env0 (P : Program) (w : World) (K : PySem.W.Frag) (mg : Str → Option Value) (base : Heap) (A : Around) (outer : List Env) (s : Shared) (H : Hp) : Prop where
  frames : A.frames = some outer
  mod : Mod K mg base
  bs : ∀ b o, base.get? b = some o → s.heap.get? b = some o ∧ H b = none
  bsz : base.objs.size ≤ s.heap.objs.size
  funs : s.heap.FunFrames base outer
  frf : ∀ b ∈ frs outer, H b = none
  hok : HOk P w H s.heap
  bare : AllBare s.gens
/-- a call's end -/
def CE (outer : List Env) (P : Program) (w : World) (H : Hp) (s : Shared) (Q : VK) (u : Value) (s' : Shared) : Prop :=
  ∃ v H', s'.os = s.os ∧ AllBare s'.gens ∧ Un (frs outer) [] H H' s.heap s'.heap ∧ HOk P w H' s'.heap ∧ RelV v u ∧ Q v H'
def CR (CX : CXT) (outer : List Env) (P : Program) (w : World) (H : Hp) (s : Shared) (Q : VK) (E : XK) (r : Result) (s' : Shared) : Prop :=
  match r with
  | .ok (.ret u) => CE outer P w H s Q u s'
  | .ok _ => False
  | .error e => CX outer H s E e s'
structure FnOk (P : Program) (w : World) (K : PySem.W.Frag) (mg : Str → Option Value) (base : Heap) (CX : CXT) (k : Nat) (f : Addr) (fd : FuncData) (ps : List Str) (sp : Sp) : Prop where
  len : ∀ vs H Q E, sp vs H Q E → vs.length = ps.length
  run : ∀ (A : Around) (outer : List Env) (s : Shared) (H : Hp) (args : Args) (us : List Value) (vs : List V) (Q : VK) (E : XK), Room k A → Env0 P w K mg base A outer s H → BindsTo s fd args (ps.zip us) → Vals vs us → sp vs H Q E →
    codeAny (model P w) A (.call (.ref f) args) (CR CX outer P w H s Q E) s
theorem FnOk.mono {P : Program} {w : World} {K : PySem.W.Frag} {mg : Str → Option Value} {base : Heap} {CX : CXT} {j k : Nat} {f : Addr} {fd : FuncData} {ps : List Str} {sp : Sp} (F : FnOk P w K mg base CX j f fd ps sp) (h : j ≤ k) :
    FnOk P w K mg base CX k f fd ps sp := ⟨F.len, fun A outer s H args us vs Q E hr => F.run A outer s H args us vs Q E (hr.mono h)⟩
/-- a weaker promise -/
theorem FnOk.imp {P : Program} {w : World} {K : PySem.W.Frag} {mg : Str → Option Value} {base : Heap} {CX : CXT} {k : Nat} {f : Addr} {fd : FuncData} {ps : List Str} {sp sp' : Sp} (F : FnOk P w K mg base CX k f fd ps sp)
    (h : ∀ vs H Q E, sp' vs H Q E → sp vs H Q E) : FnOk P w K mg base CX k f fd ps sp' :=
  ⟨fun vs H Q E q => F.len vs H Q E (h _ _ _ _ q), fun A outer s H args us vs Q E hr he hb hv hs => F.run A outer s H args us vs Q E hr he hb hv (h _ _ _ _ hs)⟩
theorem Env0.make {P : Program} {w : World} {K : PySem.W.Frag} {mg : Str → Option Value} {base : Heap} {A : Around} {outer : List Env} {s : Shared} {H : Hp} (e : Env0 P w K mg base A outer s H) (C : Addr) (us : List Value) (kw : List (Str × Value)) :
    Env0 P w K mg base (A.under (.builtin "type.__call__" ⟨.ref C :: us, kw⟩)) outer s H := ⟨by first | exact e.frames | (simpa [Around.under, Code.envs, Code.isFrame, pushEnvs] using e.frames), e.mod, e.bs, e.bsz, e.funs, e.frf, e.hok, e.bare⟩
theorem Env0.in1 {P : Program} {w : World} {K : PySem.W.Frag} {mg : Str → Option Value} {base : Heap} {A : Around} {outer : List Env} {s : Shared} {H : Hp} (e : Env0 P w K mg base A outer s H) :
    Env0 P w K mg base A.in1 outer s H := ⟨e.frames, e.mod, e.bs, e.bsz, e.funs, e.frf, e.hok, e.bare⟩
section
variable {X : Cx} {pins : List (Addr × Obj)} {σ : St} {H : Hp} {s s' : Shared}
/-- from a body: what a callee wants -/
theorem Inv.env0 (I : Inv X pins σ H s) : Env0 X.prog X.w X.K X.mg X.base X.A X.stack s H :=
  ⟨I.ok.frames, I.ok.mod, I.bs, Nat.le_trans I.ok.bsz I.sz, I.stack, I.stkFree, I.hok, I.bare⟩
/-- behind a call -/
theorem Inv.after {Q : VK} {u : Value} (I : Inv X pins σ H s) (h : CE X.stack X.prog X.w H s Q u s') : EP X pins σ Q u s' := by
  obtain ⟨v, H', os, bare, un, hok, r, q⟩ := h
  obtain ⟨hh, g, d, t, os'⟩ := s'
  obtain rfl : os' = s.os := os
  exact ⟨v, H', I.call (h' := hh) (g' := g) (d' := d) (t' := t) (ch := []) un hok bare (fun b z => absurd z (by simp)), r, q⟩
end
/-! ### calls -/
/-- f(..): the written arguments, then the defaults dvs; E: what is wanted of an exception -/
def tCall (sp : Sp) (dvs : List V) (E : XK) (t : TA) : TE := fun σ H Q => t σ H fun vs H1 => sp (vs ++ dvs) H1 Q E
/-- o.m(..) of an instance of the class at C -/
def tMeth (C : Addr) (m : Str) (sp : Sp) (dvs : List V) (E : XK) (ta : TE) (t : TA) : TE := fun σ H Q => ta σ H fun x H1 => ∃ a dx fs, x = .ref a ∧ H1 a = some (.ins C dx fs) ∧ fs.lookup m = none ∧
  t σ H1 fun vs H2 => sp (x :: (vs ++ dvs)) H2 Q E
/-- C(..): a new instance and its dict, then __init__ -/
def tMake (C : Addr) (sp : Sp) (dvs : List V) (E : XK) (t : TA) : TE := fun σ H Q => t σ H fun vs H1 => ∀ x dx, H1 x = none → H1 dx = none → dx ≠ x →
  sp (.ref x :: (vs ++ dvs)) (upd (upd H1 dx (.own x)) x (.ins C dx [])) (fun v H2 => v = .non ∧ Q (.ref x) H2) E
/-- how the parameters are bound: us the positional arguments, kw the keywords' values by name, ds the defaults that fill up -/
def Binds (K : PySem.W.Frag) (fd : FuncData) (ps : List Str) (ds : List Value) : Prop :=
  ∀ (s : Shared) (us : List Value), K.In s.heap → (us ++ ds).length = ps.length → BindsTo s fd ⟨us, []⟩ (ps.zip (us ++ ds))
/-- every parameter is given -/
theorem Binds.all {K : PySem.W.Frag} {fd : FuncData} {ps : List Str} (h : ∀ us : List Value, us.length = ps.length → bindArgs fd ⟨us, []⟩ = pure (ps.zip us)) : Binds K fd ps [] := fun s us _ hl => by
  rw [List.append_nil] at hl ⊢
  exact .of_eq (h us hl)
/-- an exception of a callee reaches what this body wants of exceptions -/
def Passes (CX : CXT) (X : Cx) (E : XK) : Prop := ∀ (pins : List (Addr × Obj)) (σ : St) (H : Hp) (s : Shared) (e : Value) (s' : Shared), Inv X pins σ H s → CX X.stack H s E e s' → X.xe e s'
section
variable {X : Cx} {CX : CXT} {k : Nat} {f C : Addr} {fd : FuncData} {ps : List Str} {sp : Sp} {dvs : List V} {ds : List Value} {E : XK} {x m : Str} {p pos apos : Pos} {e o : Expr} {es : List Expr} {ta : TE} {t : TA}
/-- the callee runs -/
theorem run_fn {pins : List (Addr × Obj)} {σ : St} {H : Hp} {s : Shared} {Q : VK} {us : List Value} {vs : List V} (F : FnOk X.prog X.w X.K X.mg X.base CX k f fd ps sp) (hr : Room k X.A) (hb : Binds X.K fd ps ds) (hd : Vals dvs ds) (hx : Passes CX X E)
    (I : Inv X pins σ H s) (r : Vals vs us) (h : sp (vs ++ dvs) H Q E) : wpAny (model X.prog X.w) X.A (call (.ref f) us) (EP X pins σ Q) X.xe s := by
  have r2 : Vals (vs ++ dvs) (us ++ ds) := r.append hd
  have hl : (us ++ ds).length = ps.length := by rw [← r2.length]; exact F.len _ _ _ _ h
  refine wpAny_call (codeAny_mono (F.run X.A X.stack s H ⟨us, []⟩ (us ++ ds) (vs ++ dvs) Q E hr I.env0 (hb s us I.kIn hl) r2 h) fun r s' hq => ?_)
  cases r with
  | error e => exact hx pins σ H s e s' I hq
  | ok fl =>
    cases fl with
    | ret u => exact I.after hq
    | next => exact False.elim hq
    | brk => exact False.elim hq
    | cont => exact False.elim hq
theorem pe_call (F : FnOk X.prog X.w X.K X.mg X.base CX k f fd ps sp) (hr : Room k X.A) (hg : Gl X x) (hm : X.mg x = some (.ref f)) (hk : PySem.W.keepIn X.K (.ref f) = true) (hb : Binds X.K fd ps ds) (hd : Vals dvs ds) (hx : Passes CX X E)
    (ha : PA X (e :: es) t) (hdb : (x == ("__debug__" : Str)) = false := by decide) (he : starEach (e :: es) X.env = (false, eval e X.env) :: starEach es X.env := by rfl) (hpl : (backTo pos (starEach es X.env)).any (·.1) = false := by rfl) :
    PE X (.Call (.Name x p) (e :: es) [] pos) (tCall sp dvs E t) := by
  intro pins s σ H Q I h
  refine wpAny_Call_Name_kw (ld_glob I hg hm ?_ hdb)
  refine PySem.W.callWith_K (h₀ := X.base) I.ok.mod.kin hk (thn (ha pos pins s σ H _ I h) fun us s1 ⟨vs, H1, I1, r, q⟩ => ⟨I1.kIn, ?_⟩) he hpl
  exact run_fn F hr hb hd hx I1 r q
/-- o.m(e, ..) -/
theorem pe_meth {pl : Sem Bool} (he : PE X o ta) (c : Cls X.K C) (hm : Meth X.K C m f) (F : FnOk X.prog X.w X.K X.mg X.base CX k f fd ps sp) (hr : Room k X.A) (hb : Binds X.K fd ps ds) (hd : Vals dvs ds) (hx : Passes CX X E) (ha : PA X (e :: es) t)
    (hst : starEach (e :: es) X.env = (false, eval e X.env) :: starEach es X.env := by rfl) (hpl : (backTo pos (starEach es X.env)).any (·.1) = false := by rfl)
    (ht : eval (.Call (.Attribute o m apos) (e :: es) [] pos) X.env = (do
      let ov ← eval o X.env
      standAt apos.atName
      let (f, first) ← holding [ov] (getMethod ov m pl)
      callWith pos f first (backTo pos (starEach (e :: es) X.env)) (backToKw pos (keywordEach [] X.env))) := by rfl) :
    PE X (.Call (.Attribute o m apos) (e :: es) [] pos) (tMeth C m sp dvs E ta t) := by
  intro pins s σ H Q I h
  refine PySem.W.methodCall_KW (pl := pl) (thn (he pins s σ H _ I h) fun u s1 ⟨x, H1, I1, rx, a, dx, fs, ex, ea, l, q⟩ => ?_) ht
  subst ex
  obtain rfl : u = Value.ref a := rx
  refine getmeth_ok I1 ea c hm l ?_
  refine PySem.W.callWith_K (first := [.ref a]) (h₀ := X.base) I.ok.mod.kin hm.kp (thn (ha pos pins s1 σ H1 _ I1 q) fun us s2 ⟨vs, H2, I2, r, q2⟩ => ⟨I2.kIn, ?_⟩) hst hpl
  exact run_fn (us := .ref a :: us) (vs := .ref a :: vs) F hr hb hd hx I2 (.cons rfl r) q2
/-- o.m() -/
theorem pe_meth0 {pl : Sem Bool} (he : PE X o ta) (c : Cls X.K C) (hm : Meth X.K C m f) (F : FnOk X.prog X.w X.K X.mg X.base CX k f fd ps sp) (hr : Room k X.A) (hb : Binds X.K fd ps ds) (hd : Vals dvs ds) (hx : Passes CX X E)
    (ht : eval (.Call (.Attribute o m apos) [] [] pos) X.env = (do
      let ov ← eval o X.env
      standAt apos.atName
      let (f, first) ← holding [ov] (getMethod ov m pl)
      callWith pos f first (backTo pos (starEach [] X.env)) (backToKw pos (keywordEach [] X.env))) := by rfl) :
    PE X (.Call (.Attribute o m apos) [] [] pos) (tMeth C m sp dvs E ta tNil) := by
  intro pins s σ H Q I h
  refine PySem.W.methodCall_KW (pl := pl) (thn (he pins s σ H _ I h) fun u s1 ⟨x, H1, I1, rx, a, dx, fs, ex, ea, l, q⟩ => ?_) ht
  subst ex
  obtain rfl : u = Value.ref a := rx
  refine getmeth_ok I1 ea c hm l ?_
  exact PySem.W.callWith_K0 (first := [.ref a]) I1.kIn hm.kp (run_fn (us := [.ref a]) (vs := [.ref a]) F hr hb hd hx I1 (.cons rfl .nil) q)
/-- what a class must have to be made -/
structure Mk (K : PySem.W.Frag) (C f : Addr) : Prop where
  makes : PySem.W.makesIn K C = true
  init : PySem.W.findIn K (.ref C) "__init__" = some (some (.ref f))
  fn : PySem.W.isFn K (.ref f) = true
  kp : PySem.W.keepIn K (.ref C) = true
theorem run_make {pins : List (Addr × Obj)} {σ : St} {H : Hp} {s : Shared} {Q : VK} {us : List Value} {vs : List V} (M : Mk X.K C f) (F : FnOk X.prog X.w X.K X.mg X.base CX k f fd ps sp) (hr : Room (k + 1) X.A) (hb : Binds X.K fd ps ds) (hd : Vals dvs ds)
    (hx : Passes CX X E) (I : Inv X pins σ H s) (r : Vals vs us)
    (h : ∀ x dx, H x = none → H dx = none → dx ≠ x → sp (.ref x :: (vs ++ dvs)) (upd (upd H dx (.own x)) x (.ins C dx [])) (fun v H2 => v = .non ∧ Q (.ref x) H2) E) :
    wpAny (model X.prog X.w) X.A (call (.ref C) us) (EP X pins σ Q) X.xe s := by
  have hq := h (s.heap.objs.size + 1) s.heap.objs.size (I.hok.fresh (Nat.le_succ _)) (I.hok.fresh (Nat.le_refl _)) (Nat.ne_of_lt (Nat.lt_succ_self _))
  have I2 := Inv.made (C := C) I
  have r2 : Vals (V.ref (s.heap.objs.size + 1) :: (vs ++ dvs)) (Value.ref (s.heap.objs.size + 1) :: (us ++ ds)) := .cons rfl (r.append hd)
  have hl : (Value.ref (s.heap.objs.size + 1) :: us ++ ds).length = ps.length := by
    have e := r2.length
    rw [F.len _ _ _ _ hq] at e
    exact e.symm
  refine wpAny_call (make_map (f := f) I.kIn M.makes M.init (beq_iff_eq.mp M.fn) (codeAny_mono (F.run _ X.stack _ _ ⟨Value.ref (s.heap.objs.size + 1) :: us, []⟩ (Value.ref (s.heap.objs.size + 1) :: (us ++ ds)) _ _ E (hr.make C us [])
    (I2.env0.make C us []) (hb _ (Value.ref (s.heap.objs.size + 1) :: us) I2.kIn hl) r2 hq) fun r s' hq' => ?_))
  cases r with
  | error e => exact hx pins σ _ _ e s' I2 hq'
  | ok fl =>
    cases fl with
    | ret u =>
      obtain ⟨v, H', I3, rv, ev, q3⟩ := I2.after hq'
      subst ev
      exact ⟨rv, ⟨V.ref (s.heap.objs.size + 1), H', I3, rfl, q3⟩⟩
    | next => exact False.elim hq'
    | brk => exact False.elim hq'
    | cont => exact False.elim hq'
theorem pe_make (M : Mk X.K C f) (F : FnOk X.prog X.w X.K X.mg X.base CX k f fd ps sp) (hr : Room (k + 1) X.A) (hg : Gl X x) (hm : X.mg x = some (.ref C)) (hb : Binds X.K fd ps ds) (hd : Vals dvs ds) (hx : Passes CX X E)
    (ha : PA X (e :: es) t) (hdb : (x == ("__debug__" : Str)) = false := by decide) (he : starEach (e :: es) X.env = (false, eval e X.env) :: starEach es X.env := by rfl) (hpl : (backTo pos (starEach es X.env)).any (·.1) = false := by rfl) :
    PE X (.Call (.Name x p) (e :: es) [] pos) (tMake C sp dvs E t) := by
  intro pins s σ H Q I h
  refine wpAny_Call_Name_kw (ld_glob I hg hm ?_ hdb)
  refine PySem.W.callWith_K (h₀ := X.base) I.ok.mod.kin M.kp (thn (ha pos pins s σ H _ I h) fun us s1 ⟨vs, H1, I1, r, q⟩ => ⟨I1.kIn, ?_⟩) he hpl
  exact run_make M F hr hb hd hx I1 r q
end
/-! ### keywords -/
/-- the values of the keywords, from the left -/
def PK (X : Cx) (kws : List Keyword) (t : TA) : Prop :=
  ∀ (pos : Pos) (pins : List (Addr × Obj)) (s : Shared) (σ : St) (H : Hp) (Q : List V → Hp → Prop), Inv X pins σ H s → t σ H Q → wpAny (model X.prog X.w) X.A (evalAll ((backToKw pos (keywordEach kws X.env)).map (·.2))) (AP X pins σ Q) X.xe s
section
variable {X : Cx} {CX : CXT} {k : Nat} {f C : Addr} {fd : FuncData} {ps ks : List Str} {sp : Sp} {E : XK} {x m : Str} {p pos apos kpos : Pos} {e o : Expr} {es : List Expr} {kws : List Keyword} {te ta : TE} {t tk : TA} {nm : Option Str}
/-- how a call with keywords binds: g puts the positional values us and the keywords' values ws (names ks) in the parameters' order, defaults among them -/
structure KBinds (K : PySem.W.Frag) (fd : FuncData) (ps ks : List Str) (g : List Value → List Value → List Value) (gV : List V → List V → List V) : Prop where
  to : ∀ (s : Shared) (us ws : List Value), K.In s.heap → (g us ws).length = ps.length → BindsTo s fd ⟨us, ks.zip ws⟩ (ps.zip (g us ws))
  rel : ∀ {vs : List V} {us : List Value} {zs : List V} {ws : List Value}, Vals vs us → Vals zs ws → Vals (gV vs zs) (g us ws)
variable {g : List Value → List Value → List Value} {gV : List V → List V → List V}
end
/-! ### a def's body keeps its promise -/
/-- names: the parameters first -/
structure FnScope (N P : List Str) (sc : Scope) : Prop where
  kind : sc.kind = .function
  co : sc.isCoroutine = false
  gen : sc.isGenerator = false
  nd : N.Nodup
  pre : N.take P.length = P
  par : ∀ x ∈ P, sc.names.lookup x = some .local ∨ sc.names.lookup x = some .cell
  nofree : ∀ y ∈ sc.names, y.2 ≠ .free
theorem bindL_out {kindOf : Str → Option NameKind} {x : Str} : ∀ {binds : List (Str × Value)} {m : Str → Option Value}, (∀ v, (x, v) ∉ binds) → bindL kindOf binds m x = m x
  | [], _, _ => rfl
  | (n, v) :: r, m, h => by
    unfold bindL
    rw [bindL_out fun w hw => h w (List.mem_cons_of_mem _ hw)]
    split
    · have : x ≠ n := by rintro rfl; exact h v List.mem_cons_self
      simp [this]
    · rfl
theorem bindC_out {kindOf : Str → Option NameKind} {x : Str} : ∀ {binds : List (Str × Value)} {m : Str → Option Value}, (∀ v, (x, v) ∉ binds) → bindC kindOf binds m x = m x
  | [], _, _ => rfl
  | (n, v) :: r, m, h => by
    unfold bindC
    rw [bindC_out fun w hw => h w (List.mem_cons_of_mem _ hw)]
    split
    · rfl
    · have : x ≠ n := by rintro rfl; exact h v List.mem_cons_self
      simp [this]
theorem bindL_get {kindOf : Str → Option NameKind} {x : Str} {v : Value} : ∀ {P : List Str} {vs : List Value} {i : Nat} {m : Str → Option Value}, P.Nodup → P[i]? = some x → vs[i]? = some v → kindOf x = some .local →
    bindL kindOf (P.zip vs) m x = some v
  | [], _, _, _, _, h, _, _ => by simp at h
  | _ :: _, [], _, _, _, _, h, _ => by simp at h
  | p :: P, w :: vs, 0, m, nd, h1, h2, hk => by
    simp at h1 h2; subst h1; subst h2
    show bindL kindOf ((p, w) :: P.zip vs) m p = _
    unfold bindL
    rw [bindL_out fun v hv => (List.nodup_cons.mp nd).1 (List.of_mem_zip hv).1, if_pos hk]
    simp
  | p :: P, w :: vs, i + 1, m, nd, h1, h2, hk => by
    show bindL kindOf ((p, w) :: P.zip vs) m x = _
    unfold bindL
    exact bindL_get (i := i) (List.nodup_cons.mp nd).2 (by simpa using h1) (by simpa using h2) hk
theorem bindC_get {kindOf : Str → Option NameKind} {x : Str} {v : Value} : ∀ {P : List Str} {vs : List Value} {i : Nat} {m : Str → Option Value}, P.Nodup → P[i]? = some x → vs[i]? = some v → kindOf x ≠ some .local →
    bindC kindOf (P.zip vs) m x = some v
  | [], _, _, _, _, h, _, _ => by simp at h
  | _ :: _, [], _, _, _, _, h, _ => by simp at h
  | p :: P, w :: vs, 0, m, nd, h1, h2, hk => by
    simp at h1 h2; subst h1; subst h2
    show bindC kindOf ((p, w) :: P.zip vs) m p = _
    unfold bindC
    rw [bindC_out fun v hv => (List.nodup_cons.mp nd).1 (List.of_mem_zip hv).1, if_neg hk]
    simp
  | p :: P, w :: vs, i + 1, m, nd, h1, h2, hk => by
    show bindC kindOf ((p, w) :: P.zip vs) m x = _
    unfold bindC
    exact bindC_get (i := i) (List.nodup_cons.mp nd).2 (by simpa using h1) (by simpa using h2) hk
/-- the names' values at the entry -/
def start (N : List Str) (vs : List V) : St := vs.map some ++ List.replicate (N.length - vs.length) none
/-- the context of a def's body, at its entry; an exception leaves the frame, then lies as CX says -/
def cxOf (CX : CXT) (P : Program) (w : World) (K : PySem.W.Frag) (mg : Str → Option Value) (base : Heap) (N : List Str) (qual : Str) (scope : Scope) (f : Addr) (cd : Value) (A : Around) (outer : List Env) (s : Shared) (H : Hp) (E : XK) : Cx where
  prog := P
  w := w
  K := K
  mg := mg
  base := base
  A := A.deeper (envOfC qual scope s.heap.objs.size f cd)
  N := N
  s₀ := s
  H₀ := H
  env := envOfC qual scope s.heap.objs.size f cd
  outer := outer
  stack := envOfC qual scope s.heap.objs.size f cd :: outer
  ex := []
  calm := true
  fn := fun _ => true
  pn := []
  xe := fun e s' => wpAny (model P w) (A.deeper (envOfC qual scope s.heap.objs.size f cd)) (leaving (envOfC qual scope s.heap.objs.size f cd) e) (fun _ s'' => CX outer H s E e s'') (fun e' s'' => CX outer H s E e' s'') s'
theorem cell_has {sc : Scope} {n : Nat} {x : Str} (h : sc.names.lookup x = some .cell) : ∃ c, (cellsFrom n sc.names []).lookup x = some c := by
  have q := PySem.W.cellsFrom_some sc.names n [] (.inl h)
  exact Option.isSome_iff_exists.mp q
theorem inv_start {CX : CXT} {P : Program} {w : World} {K : PySem.W.Frag} {mg : Str → Option Value} {base : Heap} {N ps : List Str} {qual : Str} {scope : Scope} {f : Addr} {cd : Value} {A : Around} {outer : List Env} {s s1 : Shared} {H : Hp} {E : XK} {us : List Value} {vs : List V}
    (S : FnScope N ps scope) (hd : A.handled = none) (e0 : Env0 P w K mg base A outer s H) (hl : vs.length = ps.length) (r : Vals vs us)
    (x : InCallC s s.heap.objs.size (bindL (envOfC qual scope s.heap.objs.size f cd).kindOf (ps.zip us) fun _ => none) (cellsFrom (s.heap.objs.size + 1) scope.names []) (bindC (envOfC qual scope s.heap.objs.size f cd).kindOf (ps.zip us) fun _ => none) s1) :
    Inv (cxOf CX P w K mg base N qual scope f cd A outer s H E) [] (start N vs) H s1 := by
  have hpl : ps.length ≤ N.length := by have := congrArg List.length S.pre; rw [List.length_take] at this; omega
  obtain ⟨h1, tk, rfl, hk⟩ := x.done
  have noA : ∀ b : Addr, b ∉ (cxOf CX P w K mg base N qual scope f cd A outer s H E).ex := fun b z => absurd (show b ∈ ([] : List Addr) from z) (by simp)
  refine ⟨⟨e0.mod, S.kind, rfl, rfl, Nat.le_refl _, fun y z c h1 h2 => ?_, fun y hy => ?_, fun y c _ h => ?_, fun _ => hd, Around.frames_deeper e0.frames, .inr ⟨rfl, rfl⟩, fun b z => absurd z (noA b), e0.bs, e0.bsz, fun b _ _ => noA b, fun b z => absurd z (noA b), e0.funs, e0.frf⟩,
    rfl, e0.bare, Un.kept hk, ⟨_, x.toInCall.ns, fun i y v h1 h2 h3 => ?_⟩, fun y c h => ⟨_, x.cell y c h⟩, e0.hok.fresh (Nat.le_refl _), fun y c h => ?_, fun p hp => absurd (show p ∈ ([] : List (Addr × Obj)) from hp) (by simp), e0.hok.kept hk, ?_⟩
  · exact name_of_addr x.apart (PySem.mem_of_lookup h1) (PySem.mem_of_lookup h2)
  · have hy : scope.names.lookup y = some .cell ∨ scope.names.lookup y = some .free := hy
    rcases hy with hy | hy
    · exact cell_has hy
    · exact absurd rfl (S.nofree _ (PySem.mem_of_lookup hy))
  · exact Nat.le_of_lt (x.above y c (PySem.mem_of_lookup h))
  · have hi : i < vs.length := by
      unfold start at h2
      by_cases hi : i < vs.length
      · exact hi
      · rw [List.getElem?_append_right (by simpa using hi)] at h2
        rw [List.getElem?_replicate] at h2
        split at h2 <;> cases h2
    have ha : vs[i]? = some v := by
      unfold start at h2
      rw [List.getElem?_append_left (by simpa using hi), List.getElem?_map] at h2
      cases e : vs[i]? with
      | none => rw [e] at h2; cases h2
      | some a => rw [e] at h2; cases h2; rfl
    obtain ⟨u, hu, rv⟩ := r.get ha
    have hp : ps[i]? = some y := by
      rw [← S.pre, List.getElem?_take_of_lt (by omega)]; exact h1
    have ndP : ps.Nodup := by rw [← S.pre]; exact S.nd.sublist (List.take_sublist _ _)
    refine ⟨u, rv, ?_⟩
    rcases S.par y (List.mem_of_getElem? hp) with k | k
    · exact .inl ⟨k, bindL_get ndP hp hu k⟩
    · obtain ⟨c, e⟩ := cell_has (n := s.heap.objs.size + 1) k
      refine .inr ⟨.inl k, c, e, ?_⟩
      have q := x.cell y c e
      rw [bindC_get ndP hp hu (by show scope.names.lookup y ≠ _; rw [k]; decide)] at q
      exact q
  · exact e0.hok.fresh (Nat.le_of_lt (x.above y c (PySem.mem_of_lookup h)))
  · unfold start
    show _ = N.length
    rw [List.length_append, List.length_map, List.length_replicate]
    omega
/-- THE RULE: a def (or a method) of the text, by its body. The body's reading t is chosen for each entry; it is run at the parameters' values -/
theorem fn_of {CX : CXT} {P : Program} {w : World} {K : PySem.W.Frag} {mg : Str → Option Value} {base : Heap} {k : Nat} {f : Addr} {name qual : Str} {params : Arguments} {body : List Stmt} {scope : Scope} {dV kV doc pm cdv ct oc : Value} {an od : Option Addr}
    {osl : Array (Option Value)} {N ps : List Str} {sp : Sp} (lk : K.lookup f = some ⟨oc, od, .func (PySem.W.fnOf name qual params body scope dV kV doc pm an cdv ct), osl⟩) (hcd : PySem.W.codeIn K cdv qual = true) (S : FnScope N ps scope)
    (len : ∀ vs H Q E, sp vs H Q E → vs.length = ps.length)
    (hbody : ∀ (A : Around) (outer : List Env) (s : Shared) (H : Hp) (vs : List V) (Q : VK) (E : XK), Room k (A.deeper (envOfC qual scope s.heap.objs.size f cdv)) → sp vs H Q E →
      ∃ t, PSs (cxOf CX P w K mg base N qual scope f cdv A outer s H E) body t ∧ t { nx := fun _ H' => Q .non H', rt := Q } (start N vs) H) :
    FnOk P w K mg base CX (k + 1) f (PySem.W.fnOf name qual params body scope dV kV doc pm an cdv ct) ps sp := by
  refine ⟨len, fun A outer s H args us vs Q E hr e0 hb r hsp => ?_⟩
  have hl := len _ _ _ _ hsp
  have KX : K.In s.heap := e0.mod.kin.keeps fun b o e => (e0.bs b o e).1
  have lim : s.heap.NoLimit := e0.mod.nolimit.keeps fun b o e => (e0.bs b o e).1
  have hkind : ∀ y ∈ ps.zip us, scope.names.lookup y.1 = some .local ∨ (scope.names.lookup y.1 = some .cell ∧ ((cellsFrom (s.heap.objs.size + 1) scope.names []).lookup y.1).isSome = true) := fun ⟨n, v⟩ hy => by
    rcases S.par n (List.of_mem_zip hy).1 with q | q
    · exact .inl q
    · exact .inr ⟨q, PySem.W.cellsFrom_some _ _ _ (.inl q)⟩
  refine codeAny_call_function hr.depth (KX _ _ lk) rfl S.co S.gen rfl (PySem.W.codeRec_of KX hcd) (hb _ _ _ _ ?_)
  refine wpAny_newFunctionEnv_cells S.kind hkind fun env he s1 x => ?_
  subst he
  refine ⟨lim.keeps x.toInCall.keep, codeAny_func ?_⟩
  obtain ⟨t, ht, hq⟩ := hbody A outer s H vs Q E (hr.deeper _) hsp
  have I : Inv (cxOf CX P w K mg base N qual scope f cdv A outer s H E) [] (start N vs) H s1 := inv_start S hr.hd e0 hl r x
  refine wpAny_mono (ht [] s1 (start N vs) H _ I hq) (fun fl s' hs => ?_) fun e s' hs => hs
  have fin : ∀ {σ' : St} {H' : Hp} {v : V} {u : Value}, Inv (cxOf CX P w K mg base N qual scope f cdv A outer s H E) [] σ' H' s' → RelV v u → Q v H' → CE outer P w H s Q u s' :=
    fun {σ' H' v u} J rv q => ⟨v, H', J.os, J.bare, J.base, J.hok, rv, q⟩
  cases fl with
  | ret u =>
    obtain ⟨v, σ', H', J, rv, q⟩ := hs
    exact fin J rv q
  | next =>
    obtain ⟨σ', H', J, q⟩ := hs
    exact fin (v := V.non) (u := Value.none) J rfl q
  | brk =>
    obtain ⟨_, _, _, q⟩ := hs
    exact False.elim q
  | cont =>
    obtain ⟨_, _, _, q⟩ := hs
    exact False.elim q
end L2
namespace L2
open PySem PySem.Spec PyProof.Rows
section
variable {X : Cx} {x : Str} {p pos : Pos} {e : Expr} {es : List Expr} {t : TA} {id T : String} {r : List V → Hp → VK → Prop}
def tCB (r : List V → Hp → VK → Prop) (t : TA) : TE := fun σ H Q => t σ H fun vs H1 => r vs H1 Q
/-- f(e, ..), f a built-in function -/
theorem pe_callB (hc : CallR X (.builtin id) r) (hg : Gl X x) (hm : X.mg x = none) (hv : bootBuiltins x = some (.builtin id)) (ha : PA X (e :: es) t) (hn : x ≠ "__name__" := by decide) (hdb : (x == ("__debug__" : Str)) = false := by decide)
    (he : starEach (e :: es) X.env = (false, eval e X.env) :: starEach es X.env := by rfl) (hpl : (backTo pos (starEach es X.env)).any (·.1) = false := by rfl) : PE X (.Call (.Name x p) (e :: es) [] pos) (tCB r t) := by
  intro pins s σ H Q I h
  refine wpAny_Call_Name_kw (ld_blt I hg hm hv ?_ hn hdb)
  exact PyProof.Rows.callWith_builtin1 (thn (ha pos pins s σ H _ I h) fun us s1 ⟨vs, H1, I1, r1, q1⟩ => hc pins s1 σ H1 vs us Q I1 r1 q1) he hpl
/-- T(e, ..), T a built-in type -/
theorem pe_callTy (hc : CallR X (.type T) r) (hg : Gl X x) (hm : X.mg x = none) (hv : bootBuiltins x = some (.type T)) (ha : PA X (e :: es) t) (hn : x ≠ "__name__" := by decide) (hdb : (x == ("__debug__" : Str)) = false := by decide)
    (he : starEach (e :: es) X.env = (false, eval e X.env) :: starEach es X.env := by rfl) (hpl : (backTo pos (starEach es X.env)).any (·.1) = false := by rfl) : PE X (.Call (.Name x p) (e :: es) [] pos) (tCB r t) := by
  intro pins s σ H Q I h
  refine wpAny_Call_Name_kw (ld_blt I hg hm hv ?_ hn hdb)
  exact PyProof.Rows.callWith_type1 (thn (ha pos pins s σ H _ I h) fun us s1 ⟨vs, H1, I1, r1, q1⟩ => hc pins s1 σ H1 vs us Q I1 r1 q1) he hpl
end
end L2
namespace HT
open PySem PyProof.Rows
section
variable {prog : Program} {w : World} {A : Around} {E : Value → Shared → Prop} {s : Shared}
/-- t + u, t not empty -/
theorem cat_tup {t b : Addr} {vs ws : List Value} {Q : Value → Shared → Prop} (ht : IsTup s.heap t vs.toArray) (hb : IsTup s.heap b ws.toArray) (hv : vs ≠ [])
    (h1 : ws = [] → Q (.ref t) s) (h2 : ws ≠ [] → Q (.ref s.heap.objs.size) { s with heap := s.heap.push { cls := .type "tuple", data := .seq (vs ++ ws).toArray } })
    (hsz : vs.length + ws.length ≤ sizeLine) : wpAny (model prog w) A (binaryOp .Add (.ref t) (.ref b)) Q E s := by
  obtain ⟨⟨cls, dd, data, sl⟩, ho, hc, n, hd⟩ := id ht
  obtain ⟨⟨cls2, dd2, data2, sl2⟩, ho2, hc2, n2, hd2⟩ := id hb
  simp only at hc hd hc2 hd2
  subst hc hd hc2 hd2
  have e : vs.toArray ++ ws.toArray = (vs ++ ws).toArray := by simp
  by_cases hw : ws = []
  · exact concat_meets ⟨_, ho, rfl⟩ ⟨_, ho2, rfl⟩ noFill_tuple_add seq_tuple_add PySem.F.slot_tuple_add PySem.F.entry_tuple_add (PySem.F.args_tuple_add_2 _ _)
      (tuple_addW1 t b vs.toArray ws.toArray n n2 dd dd2 sl sl2 (by simpa using hv) (by simp [hw])) ⟨ho, ho2, h1 hw⟩
  · refine concat_meets ⟨_, ho, rfl⟩ ⟨_, ho2, rfl⟩ noFill_tuple_add seq_tuple_add PySem.F.slot_tuple_add PySem.F.entry_tuple_add (PySem.F.args_tuple_add_2 _ _)
      (tuple_addW2 t b vs.toArray ws.toArray n n2 dd dd2 sl sl2 (by simpa using hv) (by simpa using hw) (by rw [List.size_toArray, List.size_toArray]; exact hsz)) ⟨ho, ho2, ?_⟩
    rw [e]
    exact h2 hw
/-! ### t[a:b], not the whole -/
/-- a slice's bound as a place among n (d where it is left out) -/
def sIx (n d : Nat) : Option Int → Nat
  | none => d
  | some v => if v < 0 then (v + (n : Int)).toNat else min v.toNat n
theorem sIx_le (n d : Nat) (hd : d ≤ n) (o : Option Int) : sIx n d o ≤ n := by
  cases o with
  | none => exact hd
  | some v =>
    show (if v < 0 then (v + (n : Int)).toNat else min v.toNat n) ≤ n
    by_cases hv : v < 0
    · rw [if_pos hv]; omega
    · rw [if_neg hv]; exact Nat.min_le_right _ _
theorem clip_eq (v : Int) (n d : Nat) : (if v < 0 then max (v + (n : Int)) 0 else min v (n : Int)) = ((sIx n d (some v) : Nat) : Int) := by
  show (if v < 0 then max (v + (n : Int)) 0 else min v (n : Int)) = (((if v < 0 then (v + (n : Int)).toNat else min v.toNat n) : Nat) : Int)
  by_cases hv : v < 0
  · simp only [if_pos hv]; omega
  · simp only [if_neg hv]; omega
theorem adjust_gen (lo hi : Option Int) (n : Nat) : Builtin.Slice.sliceAdjust lo hi 1 (n : Int) = (((sIx n 0 lo : Nat) : Int), ((sIx n n hi : Nat) : Int)) := by
  have h1 : ¬ ((1 : Int) < 0) := by omega
  unfold Builtin.Slice.sliceAdjust
  simp only [h1, if_false]
  refine Prod.ext ?_ ?_
  · cases lo with
    | none => rfl
    | some v => exact clip_eq v n 0
  · cases hi with
    | none => rfl
    | some v => exact clip_eq v n n
theorem places_gen (i j : Nat) : Builtin.Slice.slicePlaces (i : Int) (j : Int) 1 = j - i := by
  unfold Builtin.Slice.slicePlaces
  have h1 : (1 : Int) > 0 := by omega
  simp only [h1, if_true, Int.ediv_one]
  split <;> omega
theorem slicePart_ {v : Value} {o : Option Int} {Q : Option Int → Shared → Prop} (p : IsPart v o) (h : Q o s) : wpAny (model prog w) A (Builtin.Slice.slicePartIndex v) Q E s := by
  cases p with
  | none => exact slicePart_none h
  | int i t => exact slicePart_int h
theorem sliceApplied_gen {sl : Addr} {vl vu : Value} {lo hi : Option Int} {n : Nat} {Q : Int × Int × Nat → Shared → Prop} (hs : s.heap.IsSliceOf sl vl vu .none) (pl : IsPart vl lo) (pu : IsPart vu hi)
    (h : Q (((sIx n 0 lo : Nat) : Int), 1, sIx n n hi - sIx n 0 lo) s) : wpAny (model prog w) A (Builtin.Slice.sliceApplied (.ref sl) (pure (n : Int))) Q E s := by
  obtain ⟨os, hos, hcs, hds⟩ := id hs
  unfold Builtin.Slice.sliceApplied Builtin.Slice.sliceFields
  refine wpAny_bind (wpAny_bind (wpAny_field hos hds (x := vl) rfl (wpAny_bind (wpAny_field hos hds (x := vu) rfl (wpAny_bind (wpAny_field hos hds (x := .none) rfl (wpAny_pure ?_)))))))
  refine wpAny_bind (slicePart_none ?_)
  show wpAny _ _ (if ((1 : Int) == 0) = true then _ else _) _ _ s
  rw [if_neg (by decide)]
  refine wpAny_bind (slicePart_ pl (wpAny_bind (slicePart_ pu (wpAny_bind (wpAny_pure ?_)))))
  show wpAny _ _ (match Builtin.Slice.sliceAdjust lo hi 1 (n : Int) with | (lo, hi) => pure (lo, (1 : Int), Builtin.Slice.slicePlaces lo hi 1)) _ _ s
  rw [adjust_gen lo hi n]
  show wpAny _ _ (pure (((sIx n 0 lo : Nat) : Int), (1 : Int), Builtin.Slice.slicePlaces ((sIx n 0 lo : Nat) : Int) ((sIx n n hi : Nat) : Int) 1)) _ _ s
  rw [places_gen]
  exact wpAny_pure h
theorem pick_gen (xs : Array Value) (i k : Nat) : ((List.range k).filterMap fun (m : Nat) => xs[((i : Int) + (m : Int) * 1).toNat]?).toArray = ((xs.toList.drop i).take k).toArray := by
  have e : (fun (m : Nat) => xs[((i : Int) + (m : Int) * 1).toNat]?) = fun m => xs[i + m]? := by
    funext m
    have : ((i : Int) + (m : Int) * 1).toNat = i + m := by omega
    rw [this]
  rw [e]
  have := pick_run xs i k
  rw [List.filterMap_map] at this
  have e2 : ((fun x => xs[x]?) ∘ fun x => i + x) = fun m => xs[i + m]? := rfl
  rw [e2] at this
  rw [this]
theorem getItem_tuple_cut {t sl : Addr} {items : Array Value} {vl vu : Value} {lo hi : Option Int} {Q : Value → Shared → Prop} (ht : IsTup s.heap t items) (hs : s.heap.IsSliceOf sl vl vu .none) (pl : IsPart vl lo) (pu : IsPart vu hi)
    (hw : ¬ (sIx items.size 0 lo = 0 ∧ sIx items.size items.size hi = items.size))
    (h : Q (.ref s.heap.objs.size) { s with heap := s.heap.push { cls := .type "tuple", data := .seq ((items.toList.drop (sIx items.size 0 lo)).take (sIx items.size items.size hi - sIx items.size 0 lo)).toArray } })
    (hsz : items.size ≤ sizeLine) : wpAny (model prog w) A (getItem (.ref t) (.ref sl)) Q E s := by
  have htake : sizeOk (.seq ((items.toList.drop (sIx items.size 0 lo)).take (sIx items.size items.size hi - sIx items.size 0 lo)).toArray) := by
    show ((items.toList.drop (sIx items.size 0 lo)).take (sIx items.size items.size hi - sIx items.size 0 lo)).toArray.size ≤ sizeLine
    rw [List.size_toArray, List.length_take, List.length_drop, Array.length_toList]
    omega
  have hj : sIx items.size items.size hi ≤ items.size := sIx_le _ _ (Nat.le_refl _) hi
  obtain ⟨os, hos, hcs, hds⟩ := id hs
  have hTs : s.TypeIs (.ref sl) "slice" := ⟨os, hos, hcs⟩
  unfold getItem
  try with_reducible refine wpAny_holding ?_
  first | refine wpAny_bind (wpAny_pure ?_) | skip
  refine wpAny_bind (wpAny_sequenceKey ht.typeIs (by decide) ?_)
  refine wpAny_bind (wpAny_callSpecial?_slot (name := Str.ofString "__getitem__") ht.typeIs PyProof.Rows.slot_tuple_getitem
    (wpAny_call_entry PyProof.Rows.slot_tuple_getitem ht.typeIs entry_tuple_getitem ?_ (args_tuple_getitem _ _)))
  show wpAny _ _ (Builtin.Tuple.tupleItemsOf (.ref t) >>= _) _ _ s
  refine wpAny_bind (tupleItemsOf_ ht ?_)
  refine wpAny_bind (wpAny_typeOf hTs ?_)
  rw [if_pos (by decide)]
  refine wpAny_bind (sliceApplied_gen hs pl pu ?_)
  have hno : ¬ ((((sIx items.size 0 lo : Nat) : Int) == 0 && (1 : Int) == 1 && (sIx items.size items.size hi - sIx items.size 0 lo) == items.size) = true) := by
    intro q
    rw [Bool.and_eq_true, Bool.and_eq_true] at q
    have q1 : ((sIx items.size 0 lo : Nat) : Int) = 0 := eq_of_beq q.1.1
    have q2 : sIx items.size items.size hi - sIx items.size 0 lo = items.size := eq_of_beq q.2
    exact hw ⟨by omega, by omega⟩
  show wpAny _ _ (if (((sIx items.size 0 lo : Nat) : Int) == 0 && (1 : Int) == 1 && (sIx items.size items.size hi - sIx items.size 0 lo) == items.size) = true then _ else _) _ _ s
  rw [if_neg hno, pick_gen]
  first
    | exact wpAny_bind (m := Builtin.Tuple.tupleExact _) (wpAny_newObj_type (wpAny_pure ⟨_, rfl, wpAny_pure h⟩) htake)
    | exact wpAny_bind (m := Builtin.Tuple.tupleExact _) (wpAny_newObj_type (wpAny_bind (wpAny_pure (wpAny_pure ⟨_, rfl, wpAny_pure h⟩))) htake)
    | exact wpAny_bind (wpAny_bind (m := Builtin.Tuple.tupleExact _) (wpAny_newObj_type (wpAny_pure (wpAny_pure ⟨_, rfl, wpAny_pure h⟩)) htake))
    | exact wpAny_bind (wpAny_bind (m := Builtin.Tuple.tupleExact _) (wpAny_newObj_type (wpAny_pure ⟨_, rfl, wpAny_pure h⟩) htake))
end
end HT
namespace L2
open PySem PySem.Spec PyProof.Rows
/-! ### the parts of a slice -/
abbrev TO := St → Hp → (Option Int → Hp → Prop) → Prop
/-- a slice's part (left out, or an int) -/
def PO (X : Cx) (e : Option Expr) (t : TO) : Prop :=
  ∀ (pins : List (Addr × Obj)) (s : Shared) (σ : St) (H : Hp) (Q : Option Int → Hp → Prop), Inv X pins σ H s → t σ H Q →
    wpAny (model X.prog X.w) X.A (evalPart e X.env) (fun u s' => ∃ o H', Inv X pins σ H' s' ∧ IsPart u o ∧ Q o H') X.xe s
def tNoPart : TO := fun _ H Q => Q none H
def tPart (t : TE) : TO := fun σ H Q => t σ H fun x H1 => ∃ i, x = .int i ∧ Q (some i) H1
section
variable {X : Cx} {e : Expr} {te : TE} {lo hi : Option Expr} {tl th : TO} {pos p2 : Pos}
theorem po_none : PO X none tNoPart := by
  intro pins s σ H Q I h
  rw [evalPart_none]
  exact wpAny_pure ⟨none, H, I, .none, h⟩
theorem po_some (h : PE X e te) : PO X (some e) (tPart te) := by
  intro pins s σ H Q I hw
  rw [evalPart_some]
  refine thn (h pins s σ H _ I hw) fun u s1 ⟨x, H1, I1, r1, q1⟩ => ?_
  obtain ⟨i, rfl, q⟩ := q1
  obtain ⟨t, rfl⟩ := r1
  exact ⟨some i, H1, I1, .int i t, q⟩
/-- what a slice of a value is, by values: the slice object stands at sl -/
def SlR (X : Cx) (r : V → Option Int → Option Int → Hp → VK → Prop) : Prop :=
  ∀ (pins : List (Addr × Obj)) (s : Shared) (σ : St) (H : Hp) (x : V) (v vl vu : Value) (lo hi : Option Int) (sl : Addr) (Q : VK), Inv X pins σ H s → RelV x v → s.heap.IsSliceOf sl vl vu .none → IsPart vl lo → IsPart vu hi → r x lo hi H Q →
    ∃ T id, typeLookup (.type T) "__getitem__" = pure (some (.builtin id)) ∧ s.TypeIs v T ∧ wpAny (model X.prog X.w) X.A (getItem v (.ref sl)) (EP X pins σ Q) X.xe s
theorem SlR.or {r r' : V → Option Int → Option Int → Hp → VK → Prop} (h : SlR X r) (h' : SlR X r') : SlR X (fun x lo hi H Q => r x lo hi H Q ∨ r' x lo hi H Q) := by
  intro pins s σ H x v vl vu lo hi sl Q I rx hs pl pu q
  rcases q with q | q
  · exact h pins s σ H x v vl vu lo hi sl Q I rx hs pl pu q
  · exact h' pins s σ H x v vl vu lo hi sl Q I rx hs pl pu q
def tSl (r : V → Option Int → Option Int → Hp → VK → Prop) (te : TE) (tl th : TO) : TE := fun σ H Q => te σ H fun x H1 => tl σ H1 fun l H2 => th σ H2 fun u H3 => r x l u H3 Q
/-- a[lo:hi], any a -/
theorem pe_slice {r : V → Option Int → Option Int → Hp → VK → Prop} (hr : SlR X r) (he : PE X e te) (hl : PO X lo tl) (hu : PO X hi th) : PE X (.Subscript e (.Slice lo hi none p2) pos) (tSl r te tl th) := by
  intro pins s σ H Q I h
  refine Subscript_ (thn (he pins s σ H _ I h) fun v s1 ⟨x, H1, I1, r1, q1⟩ => ?_)
  refine wpAny_Slice (thn (hl pins s1 σ H1 _ I1 q1) fun vl s2 ⟨l, H2, I2, pl, q2⟩ => thn (hu pins s2 σ H2 _ I2 q2) fun vu s3 ⟨u, H3, I3, pu, q3⟩ => ?_)
  rw [evalPart_none]
  refine wpAny_pure ?_
  have I4 : Inv X pins σ H3 { s3 with heap := s3.heap.push { cls := .type "slice", data := .fields #[vl, vu, .none] } } := I3.kept (t' := s3.toks) fun b ob q => Heap.get?_push_of_some _ q
  obtain ⟨T, id, hT, ht, hg⟩ := hr pins { s3 with heap := s3.heap.push { cls := .type "slice", data := .fields #[vl, vu, .none] } } σ H3 x v vl vu l u s3.heap.objs.size Q I4 r1 (Heap.IsSliceOf.new ..) pl pu q3
  show wpAny (model X.prog X.w) X.A (subscriptTail e (.Slice lo hi none p2) v (.ref s3.heap.objs.size)) (EP X pins σ Q) X.xe { s3 with heap := s3.heap.push { cls := .type "slice", data := .fields #[vl, vu, .none] } }
  exact tail_any (ops := [.ref s3.heap.objs.size, v]) ht hT hg (by with_unfolding_all rfl)
/-- the items of xs[lo:hi] -/
def cutV (xs : List V) (lo hi : Option Int) : List V := (xs.drop (HT.sIx xs.length 0 lo)).take (HT.sIx xs.length xs.length hi - HT.sIx xs.length 0 lo)
theorem cutV_length (xs : List V) (lo hi : Option Int) : (cutV xs lo hi).length ≤ xs.length := by
  unfold cutV
  rw [List.length_take, List.length_drop]
  omega
/-- t[lo:hi], not the whole of it (the whole would be t itself) -/
def rSlT (K : PySem.W.Frag) : V → Option Int → Option Int → Hp → VK → Prop := fun x lo hi H Q => ∃ a xs, x = .ref a ∧ SqT K H a xs ∧
  ¬ (HT.sIx xs.length 0 lo = 0 ∧ HT.sIx xs.length xs.length hi = xs.length) ∧ ∀ p, H p = none → Q (.ref p) (upd H p (.tup (cutV xs lo hi)))
theorem sl_tup : SlR X (rSlT X.K) := by
  intro pins s σ H x v vl vu lo hi sl Q I rx hs pl pu h
  obtain ⟨a, xs, rfl, hx, hw, q⟩ := h
  cases rx
  obtain ⟨its, r, ht, hz⟩ := I.tuple hx
  have hlen : its.toArray.size = xs.length := by rw [List.size_toArray]; exact r.length.symm
  refine ⟨"tuple", _, PyProof.Rows.slot_tuple_getitem.lookup, ht.typeIs, ?_⟩
  refine HT.getItem_tuple_cut ht hs pl pu (by rw [hlen]; exact hw) ?_ (by rw [hlen]; exact hz)
  rw [hlen]
  refine ⟨.ref s.heap.objs.size, _, I.laid (t' := s.toks) (o := .tup (cutV xs lo hi)) (fun b ob q => Heap.get?_push_of_some _ q) (Nat.le_refl _) ?_, rfl, q _ (I.hok.fresh (Nat.le_refl _))⟩
  exact ⟨Nat.le_trans (cutV_length xs lo hi) hz, _, (r.drop (HT.sIx xs.length 0 lo)).take (HT.sIx xs.length xs.length hi - HT.sIx xs.length 0 lo), IsTup.new _ _⟩
/-- t + u, t not empty: u empty gives t itself -/
def rCatT (K : PySem.W.Frag) : R2 := fun x y H Q => ∃ a b xs ys, x = .ref a ∧ y = .ref b ∧ SqT K H a xs ∧ SqT K H b ys ∧ xs ≠ [] ∧ xs.length + ys.length ≤ sizeLine ∧
  (ys = [] → Q (.ref a) H) ∧ (ys ≠ [] → ∀ p, H p = none → Q (.ref p) (upd H p (.tup (xs ++ ys))))
theorem Vals.nil_iff {xs : List V} {us : List Value} (r : Vals xs us) : us = [] ↔ xs = [] := by
  cases r with
  | nil => simp
  | cons _ _ => simp
theorem op_catT : OpR X (binaryOp .Add) (rCatT X.K) := by
  intro pins s σ H x y v u Q I rx ry h
  obtain ⟨a, b, xs, ys, rfl, rfl, ha, hb, hx, hz, q1, q2⟩ := h
  cases rx
  cases ry
  obtain ⟨its, r1, p1, _⟩ := I.tuple ha
  obtain ⟨its2, r2, p2, _⟩ := I.tuple hb
  refine HT.cat_tup p1 p2 (fun z => hx (r1.nil_iff.mp z)) (fun z => ⟨.ref a, H, I, rfl, q1 (r2.nil_iff.mp z)⟩) (fun z => ?_) (by rw [← r1.length, ← r2.length]; exact hz)
  refine ⟨.ref s.heap.objs.size, _, I.laid (t' := s.toks) (o := .tup (xs ++ ys)) (fun b ob q => Heap.get?_push_of_some _ q) (Nat.le_refl _) ?_, rfl, q2 (fun w => z (r2.nil_iff.mpr w)) _ (I.hok.fresh (Nat.le_refl _))⟩
  exact ⟨by rw [List.length_append]; exact hz, _, r1.append r2, IsTup.new _ _⟩
end
end L2
namespace L2
open PySem PySem.Spec PyProof.Rows
/-! ### places -/
/-- the place that an index of any sign means -/
def ixN (n : Nat) (i : Int) : Option Nat := if 0 ≤ i then (if i < n then some i.toNat else none) else if -(n : Int) ≤ i then some (i + n).toNat else none
def atI {α : Type} (xs : List α) (i : Int) : Option α := (ixN xs.length i).bind fun j => xs[j]?
theorem ixN_seq {n : Nat} {i : Int} {j : Nat} (h : ixN n i = some j) : seqIndex? i n = some j ∧ j < n ∧ -(n : Int) ≤ i ∧ i < n := by
  unfold ixN at h
  by_cases h0 : 0 ≤ i
  · rw [if_pos h0] at h
    by_cases h1 : i < n
    · rw [if_pos h1] at h
      have e : i.toNat = j := Option.some.inj h
      exact ⟨by rw [seqIndex_of h0 h1, e], by omega, by omega, h1⟩
    · rw [if_neg h1] at h; cases h
  · rw [if_neg h0] at h
    by_cases h1 : -(n : Int) ≤ i
    · rw [if_pos h1] at h
      have e : (i + n).toNat = j := Option.some.inj h
      exact ⟨by rw [seqIndex_neg (by omega) h1, e], by omega, h1, by omega⟩
    · rw [if_neg h1] at h; cases h
theorem atI_get {α : Type} {xs : List α} {i : Int} {v : α} (h : atI xs i = some v) : ∃ j, seqIndex? i xs.length = some j ∧ xs[j]? = some v ∧ j < xs.length ∧ -(xs.length : Int) ≤ i ∧ i < xs.length := by
  unfold atI at h
  cases e : ixN xs.length i with
  | none => rw [e] at h; cases h
  | some j =>
    rw [e] at h
    obtain ⟨h1, h2, h3, h4⟩ := ixN_seq e
    exact ⟨j, h1, h, h2, h3, h4⟩
theorem atI_nat {α : Type} {xs : List α} {j : Nat} {v : α} (h : xs[j]? = some v) : atI xs (j : Int) = some v := by
  have hj : j < xs.length := (List.getElem?_eq_some_iff.mp h).1
  have e : ixN xs.length (j : Int) = some j := by
    unfold ixN
    rw [if_pos (by omega), if_pos (by omega)]; simp
  unfold atI; rw [e]; exact h
theorem atI_last {α : Type} (xs : List α) (v : α) : atI (xs ++ [v]) (-1) = some v := by
  have hl : (xs ++ [v]).length = xs.length + 1 := by simp
  have e : ixN (xs ++ [v]).length (-1) = some xs.length := by
    unfold ixN
    rw [hl, if_neg (by decide), if_pos (by omega)]
    congr 1
    omega
  unfold atI
  rw [e]
  show (xs ++ [v])[xs.length]? = some v
  simp
/-! ### what may be subscripted -/
/-- what stands as an index of a plain subscript -/
def PlainIx (b : Expr) : Prop := ∀ o i, subscripted b false o i = operate [o, i] (getItem o i)
/-- a subscript by values -/
def IxR (X : Cx) (r : R2) : Prop :=
  ∀ (value slice : Expr) (pins : List (Addr × Obj)) (s : Shared) (σ : St) (H : Hp) (x y : V) (v u : Value) (Q : VK), Inv X pins σ H s → RelV x v → RelV y u → r x y H Q →
    subscripted slice false v u = operate [v, u] (getItem v u) → wpAny (model X.prog X.w) X.A (subscriptTail value slice v u) (EP X pins σ Q) X.xe s
/-- a call of a builtin's method by values: the receiver, the arguments -/
def MtR (X : Cx) (id : String) (r : V → List V → Hp → VK → Prop) : Prop :=
  ∀ (pins : List (Addr × Obj)) (s : Shared) (σ : St) (H : Hp) (x : V) (xs : List V) (v : Value) (us : List Value) (Q : VK), Inv X pins σ H s → RelV x v → Vals xs us → r x xs H Q →
    wpAny (model X.prog X.w) X.A (call (.builtin id) (v :: us)) (EP X pins σ Q) X.xe s
section
variable {X : Cx} {a b : Expr} {ta tb : TE} {pos : Pos}
theorem IxR.or {r r' : R2} (h : IxR X r) (h' : IxR X r') : IxR X (fun x y H Q => r x y H Q ∨ r' x y H Q) := by
  intro value slice pins s σ H x y v u Q I rx ry q hs
  rcases q with q | q
  · exact h value slice pins s σ H x y v u Q I rx ry q hs
  · exact h' value slice pins s σ H x y v u Q I rx ry q hs
theorem MtR.or {id : String} {r r' : V → List V → Hp → VK → Prop} (h : MtR X id r) (h' : MtR X id r') : MtR X id (fun x xs H Q => r x xs H Q ∨ r' x xs H Q) := by
  intro pins s σ H x xs v us Q I rx rs q
  rcases q with q | q
  · exact h pins s σ H x xs v us Q I rx rs q
  · exact h' pins s σ H x xs v us Q I rx rs q
/-- a[b] -/
theorem pe_ix {r : R2} (hr : IxR X r) (ha : PE X a ta) (hb : PE X b tb) (hs : PlainIx b) : PE X (.Subscript a b pos) (tOp r ta tb) := by
  intro pins s σ H Q I h
  exact Subscript_ (binT ha hb I h fun v u s2 x y H2 I2 rx ry q => hr a b pins s2 σ H2 x y v u Q I2 rx ry q (hs _ _))
def rIxL (K : PySem.W.Frag) : R2 := fun x y H Q => ∃ p xs i v, x = .ref p ∧ y = .int i ∧ SqL K H p xs ∧ atI xs i = some v ∧ Q v H
def rIxT (K : PySem.W.Frag) : R2 := fun x y H Q => ∃ p xs i v, x = .ref p ∧ y = .int i ∧ SqT K H p xs ∧ atI xs i = some v ∧ Q v H
theorem ix_list : IxR X (rIxL X.K) := by
  intro value slice pins s σ H x y v u Q I rx ry h hs
  obtain ⟨p, xs, i, z, rfl, rfl, hq, he, q⟩ := h
  cases rx
  obtain ⟨t, rfl⟩ := ry
  obtain ⟨its, r, pl, hz⟩ := I.list hq
  obtain ⟨j, h1, h2, h3, h4, h5⟩ := atI_get he
  obtain ⟨w, ew, rw'⟩ := r.get h2
  have hl := r.length
  have hn := line63
  have fin : EP X pins σ Q w s := ⟨z, H, I, rw', q⟩
  by_cases h0 : 0 ≤ i
  · have hj : i.toNat = j := by
      rw [seqIndex_of h0 h5] at h1
      exact Option.some.inj h1
    exact item_listR pl.isList h0 (by omega) (by rw [hj]; simpa using ew) fin hs
  · have hj : (i + (its.toArray.size : Int)).toNat = j := by
      rw [seqIndex_neg (by omega) h4] at h1
      rw [List.size_toArray, ← hl]
      exact Option.some.inj h1
    exact subscriptTail_builtinR (x := w) pl.isList.typeIs slot_list_getitem.lookup
      (wpAny_getItem_list_neg (Q := fun r s' => r = w ∧ EP X pins σ Q r s') pl.isList (by omega) (by rw [List.size_toArray] <;> omega) (by omega) (by rw [hj]; simpa using ew) ⟨rfl, fin⟩) hs
theorem ix_tup : IxR X (rIxT X.K) := by
  intro value slice pins s σ H x y v u Q I rx ry h hs
  obtain ⟨p, xs, i, z, rfl, rfl, hq, he, q⟩ := h
  cases rx
  obtain ⟨t, rfl⟩ := ry
  obtain ⟨its, r, pl, hz⟩ := I.tuple hq
  obtain ⟨j, h1, h2, h3, h4, h5⟩ := atI_get he
  obtain ⟨w, ew, rw'⟩ := r.get h2
  have hl := r.length
  have hn := line63
  have fin : EP X pins σ Q w s := ⟨z, H, I, rw', q⟩
  exact subscriptTail_builtinR (x := w) pl.typeIs slot_tuple_getitem.lookup
    (getItem_tuple (j := j) (Q := fun r s' => r = w ∧ EP X pins σ Q r s') pl (by omega) (by omega) (by rw [List.size_toArray, ← hl]; exact h1) (by simpa using ew) ⟨rfl, fin⟩) hs
theorem Inv.lst {pins : List (Addr × Obj)} {σ : St} {H : Hp} {s : Shared} {p : Addr} {xs : List V} (I : Inv X pins σ H s) (h : H p = some (.lst xs)) :
    ∃ (its : List Value) (n : Nat), Vals xs its ∧ s.heap.get? p = some { cls := .type "list", data := .seq its.toArray n } ∧ xs.length ≤ sizeLine := by
  obtain ⟨z, its, n, r, e⟩ := I.hok p _ h
  exact ⟨its, n, r, e, z⟩
/-! ### slices -/
theorem slice_bounds (lo hi : Option Int) (n : Nat) : (sliceBounds lo hi none n).1 = ((HT.sIx n 0 lo : Nat) : Int) ∧ (sliceBounds lo hi none n).2.1 = ((HT.sIx n n hi : Nat) : Int) ∧ (sliceBounds lo hi none n).2.2 = 1 := by
  refine ⟨?_, ?_, rfl⟩
  · cases lo with
    | none => simp [sliceBounds, HT.sIx]
    | some i =>
      simp only [sliceBounds, HT.sIx, Option.getD_none, show (1 : Int) > 0 by decide, if_true]
      by_cases h : i < 0
      · simp only [h, if_true] <;> omega
      · simp only [h, if_false] <;> omega
  · cases hi with
    | none => simp [sliceBounds, HT.sIx]
    | some i =>
      simp only [sliceBounds, HT.sIx, Option.getD_none, show (1 : Int) > 0 by decide, if_true]
      by_cases h : i < 0
      · simp only [h, if_true] <;> omega
      · simp only [h, if_false] <;> omega
theorem slicePick_cut (its : List Value) (lo hi : Option Int) : slicePick its.toArray lo hi none = ((its.drop (HT.sIx its.length 0 lo)).take (HT.sIx its.length its.length hi - HT.sIx its.length 0 lo)).toArray := by
  obtain ⟨h1, h2, h3⟩ := slice_bounds lo hi its.toArray.size
  unfold slicePick
  rw [h1, h2, h3]
  simp only [sliceRange_one, pick_run, List.size_toArray] <;> rfl
/-- xs[lo:hi] of a list: a new list -/
def rSlL (K : PySem.W.Frag) : V → Option Int → Option Int → Hp → VK → Prop := fun x lo hi H Q => ∃ a xs, x = .ref a ∧ SqL K H a xs ∧ ∀ p, H p = none → Q (.ref p) (upd H p (.lst (cutV xs lo hi)))
theorem sl_list : SlR X (rSlL X.K) := by
  intro pins s σ H x v vl vu lo hi sl Q I rx hs pl pu h
  obtain ⟨a, xs, rfl, hx, q⟩ := h
  cases rx
  obtain ⟨its, r, ht, hz⟩ := I.list hx
  have hlen := r.length
  refine ⟨"list", _, slot_list_getitem.lookup, ht.isList.typeIs, ?_⟩
  refine wpAny_getItem_list_slice ht.isList hs pl pu .none (by simp) ?_ (by rw [List.size_toArray] <;> omega)
  rw [slicePick_cut, ← hlen]
  refine ⟨.ref s.heap.objs.size, _, I.laid (t' := s.toks) (o := .lst (cutV xs lo hi)) (fun b ob q => Heap.get?_push_of_some _ q) (Nat.le_refl _) ?_, rfl, q _ (I.hok.fresh (Nat.le_refl _))⟩
  exact ⟨Nat.le_trans (cutV_length xs lo hi) hz, _, 0, (r.drop (HT.sIx xs.length 0 lo)).take (HT.sIx xs.length xs.length hi - HT.sIx xs.length 0 lo), Heap.get?_push_size _ rfl⟩
/-! ### len, list(x), tuple(x) of any list or tuple that is read -/
theorem call_len_seq : CallR X (.builtin "len") (fun xs H Q => ∃ p ys, xs = [.ref p] ∧ (SqL X.K H p ys ∨ SqT X.K H p ys) ∧ Q (.int ys.length) H) := by
  intro pins s σ H xs us Q I r h
  obtain ⟨p, ys, rfl, hq, q⟩ := h
  obtain ⟨u, rfl, rx⟩ := vals1 r
  cases rx
  have hn := line63
  rcases hq with hq | hq
  · obtain ⟨its, r', pl, hz⟩ := I.list hq
    have hlen := r'.length
    exact Calls.call_len_list pl.isList (by simp only [List.size_toArray] <;> omega) ⟨.int ys.length, H, I.tok _, ⟨s.toks + 1, by rw [List.size_toArray, hlen]⟩, q⟩
  · obtain ⟨its, r', pl, hz⟩ := I.tuple hq
    have hlen := r'.length
    exact len_tuple pl (by simp only [List.size_toArray] <;> omega) ⟨.int ys.length, H, I.tok _, ⟨s.toks + 1, by rw [List.size_toArray, hlen]⟩, q⟩
theorem CallR.or {f : Value} {r r' : List V → Hp → VK → Prop} (h : CallR X f r) (h' : CallR X f r') : CallR X f (fun xs H Q => r xs H Q ∨ r' xs H Q) := by
  intro pins s σ H xs us Q I rs q
  rcases q with q | q
  · exact h pins s σ H xs us Q I rs q
  · exact h' pins s σ H xs us Q I rs q
theorem call_list_of : CallR X (.type "list") (fun xs H Q => ∃ p ys, xs = [.ref p] ∧ (SqL X.K H p ys ∨ SqT X.K H p ys) ∧ ∀ l, H l = none → Q (.ref l) (upd H l (.lst ys))) := by
  intro pins s σ H xs us Q I r h
  obtain ⟨p, ys, rfl, hq, q⟩ := h
  obtain ⟨u, rfl, rx⟩ := vals1 r
  cases rx
  have fin : ∀ (its : List Value), Vals ys its → ys.length ≤ sizeLine → ∀ (h' : Heap) (c' : Nat), (∀ b o', s.heap.get? b = some o' → h'.get? b = some o') →
      h'.get? s.heap.objs.size = some { cls := .type "list", dict := none, data := .seq its.toArray c', slots := #[] } → EP X pins σ Q (.ref s.heap.objs.size) { s with heap := h' } := fun its r' hz h' c' kp e =>
    ⟨.ref s.heap.objs.size, _, I.laid (t' := s.toks) kp (Nat.le_refl _) (show ObjOk X.prog X.w _ h' _ (.lst ys) from ⟨hz, its, c', r', e⟩), rfl, q _ (I.hok.fresh (Nat.le_refl _))⟩
  rcases hq with hq | hq
  · obtain ⟨its, r', pl, hz⟩ := I.list hq
    have hlen := r'.length
    obtain ⟨o, ho, hc, n, hd⟩ := pl.isList
    exact call_list_seq p (.inl rfl) ho hc hd (fun h' c' kp e => fin its r' hz h' c' kp e) (by simp only [List.size_toArray] <;> omega)
  · obtain ⟨its, r', pl, hz⟩ := I.tuple hq
    have hlen := r'.length
    obtain ⟨o, ho, hc, n, hd⟩ := pl
    exact call_list_seq p (.inr rfl) ho hc hd (fun h' c' kp e => fin its r' hz h' c' kp e) (by simp only [List.size_toArray] <;> omega)
theorem call_tuple_of : CallR X (.type "tuple") (fun xs H Q => ∃ p ys, xs = [.ref p] ∧ ((SqL X.K H p ys ∧ ∀ l, H l = none → Q (.ref l) (upd H l (.tup ys))) ∨ (SqT X.K H p ys ∧ Q (.ref p) H))) := by
  intro pins s σ H xs us Q I r h
  obtain ⟨p, ys, rfl, h⟩ := h
  obtain ⟨u, rfl, rx⟩ := vals1 r
  cases rx
  rcases h with ⟨hq, q⟩ | ⟨hq, q⟩
  · obtain ⟨its, r', pl, hz⟩ := I.list hq
    have hlen := r'.length
    refine call_tuple_list pl.isList (fun h' kp => ?_) (by simp only [List.size_toArray] <;> omega)
    have I1 : Inv X pins σ H { s with heap := h' } := I.kept (t' := s.toks) kp
    have I2 : Inv X pins σ (upd H h'.objs.size (.tup ys)) { s with heap := h'.push { cls := .type "tuple", data := .seq its.toArray } } :=
      I1.laid (t' := s.toks) (fun b o e => Heap.get?_push_of_some _ e) (Nat.le_refl _) (show ObjOk X.prog X.w _ _ _ (.tup ys) from ⟨hz, its, r', IsTup.new _ _⟩)
    exact ⟨.ref h'.objs.size, _, I2, rfl, q _ (I1.hok.fresh (Nat.le_refl _))⟩
  · obtain ⟨its, r', pl, hz⟩ := I.tuple hq
    exact call_tuple_same pl ⟨.ref p, H, I, rfl, q⟩
/-! ### the call of a builtin's method: o.m(..) -/
/-- the value is of that builtin type -/
def tyV (K : PySem.W.Frag) (T : String) (x : V) (H : Hp) : Prop := match x with
  | .str _ => T = "str"
  | .int _ => T = "int"
  | .ref p => (T = "list" ∧ ∃ xs, SqL K H p xs) ∨ (T = "tuple" ∧ ∃ o, K.lookup p = some o ∧ o.cls = .type "tuple" ∧ o.dict = none) ∨
      (T = "dict" ∧ ((∃ kvs, H p = some (.dK kvs)) ∨ ∃ kvs, H p = some (.dT kvs))) ∨ (T = "set" ∧ ∃ S n, H p = some (.set S n))
  | _ => False
theorem tyV_is {pins : List (Addr × Obj)} {σ : St} {H : Hp} {s : Shared} {T : String} {x : V} {v : Value} (I : Inv X pins σ H s) (r : RelV x v) (ty : tyV X.K T x H) :
    s.TypeIs v T ∧ ∀ a, v = .ref a → ∃ ob, s.heap.get? a = some ob ∧ ob.dict = none := by
  cases x with
  | str z =>
    obtain ⟨t, rfl⟩ := r
    cases (show T = "str" from ty)
    exact ⟨typeIs_str s z t, fun _ e => nomatch e⟩
  | int i =>
    obtain ⟨t, rfl⟩ := r
    cases (show T = "int" from ty)
    exact ⟨typeIs_int s i t, fun _ e => nomatch e⟩
  | ref p =>
    cases r
    rcases ty with ⟨rfl, xs, hq⟩ | ⟨rfl, o, hk, hc, hd⟩ | ⟨rfl, hk⟩ | ⟨rfl, S, n, hk⟩
    · obtain ⟨its, _, pl, _⟩ := I.list hq
      refine ⟨pl.isList.typeIs, fun a e => ?_⟩
      cases e
      obtain ⟨o, n, e, c, hd, _⟩ := pl
      exact ⟨o, e, hd⟩
    · refine ⟨⟨o, I.kIn p o hk, hc⟩, fun a e => ?_⟩
      cases e
      exact ⟨o, I.kIn _ o hk, hd⟩
    · have z : ∃ o, s.heap.get? p = some o ∧ o.ExactDict := by
        rcases hk with ⟨kvs, hk⟩ | ⟨kvs, hk⟩
        · obtain ⟨_, _, _, _, o, _, _, e, ex, _⟩ := I.hok p _ hk
          exact ⟨o, e, ex⟩
        · obtain ⟨_, _, _, _, o, _, _, e, ex, _⟩ := I.hok p _ hk
          exact ⟨o, e, ex⟩
      obtain ⟨o, e, ex⟩ := z
      refine ⟨⟨o, e, ex.1⟩, fun a e2 => ?_⟩
      cases e2
      exact ⟨o, e, ex.2.1⟩
    · obtain ⟨o, _, _, _, e, ex, _⟩ := I.hok p _ hk
      refine ⟨⟨o, e, ex.1⟩, fun a e2 => ?_⟩
      cases e2
      exact ⟨o, e, ex.2.1⟩
  | _ => exact False.elim ty
def tBM (K : PySem.W.Frag) (T : String) (r : V → List V → Hp → VK → Prop) (to : TE) (t : TA) : TE := fun σ H Q => to σ H fun x H1 => tyV K T x H1 ∧ t σ H1 fun xs H2 => r x xs H2 Q
variable {o e : Expr} {es : List Expr} {to : TE} {t : TA} {name : Str} {apos cpos : Pos} {T id : String} {r : V → List V → Hp → VK → Prop}
theorem pe_bm (pa : PlainAttrs T) (slot : Slot T name id) (hty : typeOf (.builtin id) = pure (.type "method_descriptor")) (hm : MtR X id r) (ho : PE X o to) (ha : PA X (e :: es) t)
    (hbase : attributeBase o name X.env (eval o X.env) = eval o X.env := by rfl)
    (hfew : ((backTo cpos (starEach (e :: es) X.env)).all (fun x => !x.1) && (backToKw cpos (keywordEach [] X.env)).all (fun x => x.1.isSome)
      && decide ((e :: es).length + ([] : List Keyword).length + (if ([] : List Keyword).isEmpty then 0 else 1) < 30)) = true := by rfl)
    (hline : (apos.endLine == cpos.line) = true := by rfl) (hs : starEach (e :: es) X.env = (false, eval e X.env) :: starEach es X.env := by rfl) (hplain : (backTo cpos (starEach es X.env)).any (·.1) = false := by rfl) :
    PE X (.Call (.Attribute o name apos) (e :: es) [] cpos) (tBM X.K T r to t) := by
  intro pins s σ H Q I h
  refine wpAny_Call_method_late hbase hfew hline rfl (thn (ho pins s σ H _ I h) fun v s1 ⟨x, H1, I1, r1, ty, q1⟩ => ?_)
  obtain ⟨h1, h2⟩ := tyV_is I1 r1 ty
  refine ⟨T, id, pa, slot, hty, h1, h2, ?_⟩
  have hA := ha cpos pins s1 σ H1 _ I1 q1
  rw [hs] at hA ⊢
  refine Calls.callWith_builtin (by show (false || (backTo cpos (starEach es X.env)).any (·.1)) = false; rw [hplain] <;> rfl) (Calls.evalArgs_plain ?_)
  exact thn hA fun us s2 ⟨vs, H2, I2, r2, q2⟩ => hm pins s2 σ H2 x vs v us Q I2 r1 r2 q2
/- xs.append(e), list.index on a module's tuple .. are MtR facts of 06m -/
end
end L2
namespace L2
open PySem PySem.Spec PyProof.Rows
def MtM (X : Cx) (id : String) (r : V → List V → Hp → VK → Prop) : Prop :=
  ∀ (pins : List (Addr × Obj)) (s : Shared) (σ : St) (H : Hp) (x : V) (xs : List V) (v : Value) (us : List Value) (Q : VK), Inv X pins σ H s → RelV x v → Vals xs us → r x xs H Q →
    wpAny (model X.prog X.w) X.A (call (.builtin id) (v :: us)) (EP X pins σ Q) X.xe s
/-! ### lists of values -/
theorem Vals.one : ∀ {x : V} {us : List Value}, Vals [x] us → ∃ u, us = [u] ∧ RelV x u
  | _, _, .cons r .nil => ⟨_, rfl, r⟩
theorem Vals.two : ∀ {x y : V} {us : List Value}, Vals [x, y] us → ∃ u v, us = [u, v] ∧ RelV x u ∧ RelV y v
  | _, _, _, .cons r (.cons q .nil) => ⟨_, _, rfl, r, q⟩
theorem Vals.zero : ∀ {us : List Value}, Vals [] us → us = []
  | _, .nil => rfl
theorem Vals.rep {xs : List V} {us : List Value} (h : Vals xs us) : ∀ k : Nat, Vals (List.replicate k xs).flatten (List.replicate k us).flatten
  | 0 => .nil
  | k + 1 => by
    rw [List.replicate_succ, List.replicate_succ, List.flatten_cons, List.flatten_cons]
    exact Vals.append h (Vals.rep h k)
section
variable {X : Cx} {pins : List (Addr × Obj)} {σ : St} {H : Hp} {s : Shared} {l b : Addr} {xs ys zs : List V}
/-! ### the two steps: a tracked list is rewritten, a new list is laid -/
theorem Inv.lset {its its' : List Value} {n : Nat} {f : Array Value → Array Value} {t' : Nat} (I : Inv X pins σ H s) (hH : H l = some (.lst xs))
    (e : s.heap.get? l = some { cls := .type "list", data := .seq its.toArray n }) (hf : f its.toArray = its'.toArray) (hv : Vals ys its') (hz : ys.length ≤ sizeLine) :
    Inv X pins σ (upd H l (.lst ys)) { s with heap := s.heap.update l (Obj.mapSeq f), toks := t' } := by
  have q := PySem.IsL.update e f
  rw [hf] at q
  refine I.write (x := l) (e := l) (by rw [hH]; exact trivial) (.inl rfl) (fun b' u hb hu => (Heap.get?_update_other s.heap (Obj.mapSeq f) (Ne.symm hb)).trans hu) ⟨_, q⟩ ?_
  exact ⟨hz, its', _, hv, q⟩
theorem Inv.fresh (I : Inv X pins σ H s) : H s.heap.objs.size = none := I.hok.fresh (Nat.le_refl _)
theorem Inv.lstM (I : Inv X pins σ H s) (hH : H l = some (.lst xs)) : xs.length ≤ sizeLine ∧ ∃ (its : List Value) (n : Nat), Vals xs its ∧ xs.length = its.length ∧ s.heap.get? l = some { cls := .type "list", data := .seq its.toArray n } := by
  obtain ⟨z, its, n, r, e⟩ := I.hok l _ hH
  exact ⟨z, its, n, r, r.length, e⟩
end
section
variable {X : Cx}
/-! ### methods -/
def rAppend : V → List V → Hp → VK → Prop := fun x vs H Q => ∃ l xs y, x = .ref l ∧ vs = [y] ∧ H l = some (.lst xs) ∧ xs.length < sizeLine ∧ Q .non (upd H l (.lst (xs ++ [y])))
theorem mt_append : MtM X "list.append" rAppend := by
  intro pins s σ H x vs v us Q I rx rv h
  obtain ⟨l, xs, y, rfl, rfl, hH, hz, q⟩ := h
  cases rx
  obtain ⟨u, rfl, ru⟩ := rv.one
  obtain ⟨z, its, n, r, hl, e⟩ := I.lstM hH
  refine call_meets F.slot_list_append ⟨_, e, rfl⟩ F.entry_list_append (F.args_list_append_2 _ _) (PySem.list_append l its.toArray n u (by rw [List.size_toArray]; omega)) ⟨e, ?_⟩
  refine ⟨.non, _, I.lset (its' := its ++ [u]) hH e (by simp) (r.append (.cons ru .nil)) ?_, rfl, q⟩
  rw [List.length_append, List.length_singleton]
  omega
end
/-! ### xs[a:b] = ys -/
end L2
namespace Att
open PySem PySem.W PySem.Calls PyProof.Rows
/-! ### the script -/
theorem ints_of_wellAll {P : Params} {h : Heap} : ∀ (ns : List Int) (vs : List Value), WellAll P h vs (ns.map WData.int) → IntsAre vs ns := by
  intro ns
  induction ns with
  | nil =>
    intro vs w
    rw [List.map_nil] at w
    cases w
    exact .nil
  | cons n ns ih =>
    intro vs w
    rw [List.map_cons] at w
    cases w with
    | cons a b =>
      cases a
      exact .cons _ _ (ih _ b)
theorem script_of {l : OpenLaw} {n : Nat} (hn : l.most = some n) {P : Params} {h : Heap} {args : List WData} {vals : List Value}
    (hpre : l.row.toRowW.claim.pre args = true) (hwl : WellAll P h vals args) :
    ∃ a vs ns, vals = [Value.ref a] ∧ args = [WData.list (ns.map WData.int)] ∧ h.get? a = some { cls := .type "list", data := .seq vs.toArray } ∧ IntsAre vs ns ∧ ns.length ≤ n := by
  have hsh : WShape.hasAll [] args [.list .int] = true := (pre_splitW hpre).1
  have hc : l.pre.holds [] { args := args } = true := (pre_splitW hpre).2
  obtain ⟨d, r, rfl, h1, h2⟩ := hasAllW_cons hsh
  obtain rfl := hasAllW_nil h2
  obtain ⟨xs, rfl, h3⟩ := hasW_list h1
  obtain ⟨ns, rfl⟩ := items_int h3
  have hlen : ns.length ≤ n := by
    unfold OpenLaw.pre at hc
    have h4 : (WTm.not (.lt (.lit (.int (n : Int))) (.len (.arg 0)))).holds [] { args := [.list (ns.map .int)] } = true := by
      have h4 := (holds_andW hc).1
      rw [hn] at h4
      exact h4
    have h5 := condW_of h4 (w_not (w_lt w_lit (w_len_list (w_arg rfl))))
    rw [List.length_map] at h5
    refine Nat.le_of_not_lt fun q => ?_
    have q' : (n : Int) < ((ns.length : Nat) : Int) := by omega
    first
      | (rw [decide_eq_true q'] at h5; exact absurd h5 (by decide))
      | (simp at h5; omega)
  cases hwl with
  | cons w1 w2 =>
    cases w2
    cases w1 with
    | list ho hall => exact ⟨_, _, ns, rfl, rfl, ho, ints_of_wellAll ns _ hall, hlen⟩
theorem post_true (l : OpenLaw) (args : List WData) : l.row.toRowW.claim.post args (.bool true) args = true :=
  postW_of (r := l.row.toRowW) (X := (true == true))
    (show WShape.has [] (.bool true) .bool = true by first | rfl | decide | simp [WShape.has, WShape.arms, WShape.armsAll])
    (show (WTm.eq .res (.lit (.bool true))).value [] { args := args, res := some (.bool true), after := args } = some (.bool (true == true)) from w_eq_bool (w_res rfl) w_lit) rfl
/-- the same from a codeAny of the CALL (for a layer whose function contracts speak of calls) -/
theorem attach_call {l : OpenLaw} {n : Nat} {q : Program} {loose : List Str} {XP : (Str → Option Value) → Heap → Prop} {YP : World → Heap → Prop} {d : DefRec}
    (hn : l.most = some n) (hdf : d.params.defaults = [])
    (call : ∀ (w : World) (s₀ s₁ : Shared) (mg mb : Str → Option Value) (fa : Addr) (o : Obj) (pm cd doc : Value) (a : Addr) (vs : List Value) (ns : List Int),
      Ground q loose [] XP w s₀ mg mb s₁.heap → YP w s₁.heap →
      s₁.heap.get? fa = some o → o.data = .func (docDef d.name d.params d.body d.scope pm cd doc) → s₁.heap.CodeRec cd d.name → mg d.name = some (.ref fa) →
      s₁.heap.get? a = some { cls := .type "list", data := .seq vs.toArray } → IntsAre vs ns → ns.length ≤ n → s₁.gens = #[] →
      codeAny (model l.prog w) callerA (.call (.ref fa) ⟨[.ref a], []⟩) (fun r s' => r = .ok (.ret (.bool true)) ∧ OldK s₁.heap s'.heap ∧ s'.os = s₁.os ∧ AllBare s'.gens) s₁) :
    WalkO q loose XP YP l.row.toRowW d [] (fun f vs => PySem.call f vs) := by
  intro w s₀ s₁ mg mb G Y fa o pm cd doc dV kV ho hd hcd hD hmg hg args vals as hpre hlay hrd hwl hlo
  obtain rfl : dV = .none := Dflts.none hD hdf
  obtain rfl : kV = .none := Dflts.noKw hD
  obtain ⟨a, vs, ns, rfl, rfl, hobj, hints, hlen⟩ := script_of hn hpre hwl
  refine enter_call (codeAny_mono (call w s₀ s₁ mg mb fa o pm cd doc a vs ns G Y ho (fd_plain hd) hcd hmg hobj hints hlen hg) fun r s' hq => ?_)
  obtain ⟨rfl, h2, h3, h4⟩ := hq
  exact ⟨.inl ⟨.bool true, .bool true, [], rfl, fun _ => rfl, .bool true, post_true l _, fun _ => ⟨List.Pairwise.nil, fun _ hm => (nomatch hm)⟩⟩, h2, h3, h4⟩
/-! ### rules over ANY heap (no ledger) from facts about the written part K: the library's own take a ledger (News) for what they write -/
end Att
namespace L2
open PySem PySem.Spec PyProof.Rows
theorem vals_ints : ∀ {vs : List Value} {ns : List Int}, IntsAre vs ns → Vals (ns.map V.int) vs
  | _, _, .nil => .nil
  | _, _, .cons n t h => .cons ⟨t, rfl⟩ (vals_ints h)
/-- nothing is tracked but the script, known to the object (or it is an object of the module) -/
def Only (H : Hp) : Prop := ∀ b, H b = none ∨ ∃ o xs, H b = some (.frz o (.lst xs))
/-- THE HEAD: the law's promise, at the heap behind the top. F, the promise of the law's def, may use that base is part of the heap (so K.In base, base.Ns mainGlobals mg stand in Mod) -/
theorem law_call {P : Program} {w : World} {K : PySem.W.Frag} {mg mb : Str → Option Value} {CX : CXT} {k : Nat} {fa a : Addr} {fd : FuncData} {x : Str} {sp : Sp} {s₁ : Shared} {vs : List Value} {ns : List Int}
    (KX : K.In s₁.heap) (hns : s₁.heap.Ns mainGlobals mg) (hb : s₁.heap.Ns builtinsNs mb) (hbb : ∀ x : Str, x ≠ "__name__" → mb x = bootBuiltins x) (hlim : s₁.heap.NoLimit) (hg : s₁.gens = #[])
    (ha : s₁.heap.get? a = some { cls := .type "list", data := .seq vs.toArray }) (hi : IntsAre vs ns) (hl : ns.length ≤ sizeLine) (hr : Room k callerA)
    (F : ∀ base : Heap, K.In base → base.Ns mainGlobals mg → FnOk P w K mg base CX k fa fd [x] sp) (hbind : ∀ (s : Shared) (u : Value), BindsTo s fd ⟨[u], []⟩ [(x, u)])
    (hsp : ∀ H : Hp, Only H → SqL K H a (ns.map V.int) → sp [.ref a] H (fun v _ => v = .bl true) fun _ _ _ => False)
    (hCX : ∀ H e s', CX [] H s₁ (fun _ _ _ => False) e s' → False) :
    codeAny (model P w) callerA (.call (.ref fa) ⟨[.ref a], []⟩) (fun r s' => r = .ok (.ret (.bool true)) ∧ OldK s₁.heap s'.heap ∧ s'.os = s₁.os ∧ AllBare s'.gens) s₁ := by
  have rv := vals_ints hi
  have lenV := hi.length
  -- from an abstract heap in which nothing but the script may be tracked
  have core : ∀ H : Hp, Only H → SqL K H a (ns.map V.int) → HOk P w H s₁.heap → (∀ b, H b ≠ none → b = a) → (H a ≠ none → K.lookup a = none) →
      codeAny (model P w) callerA (.call (.ref fa) ⟨[.ref a], []⟩) (fun r s' => r = .ok (.ret (.bool true)) ∧ OldK s₁.heap s'.heap ∧ s'.os = s₁.os ∧ AllBare s'.gens) s₁ := by
    intro H hO hS hok hA hK
    have base_of : ∀ {b : Addr} {o : Obj}, s₁.heap.get? b = some o → H b = none → (hidT s₁.heap H).get? b = some o := fun e n => hidT_get e n
    have noA : ∀ {b : Addr} {o : Obj} {es : Array DictEntry} {ep : Nat}, s₁.heap.get? b = some o → o.data = .dict es ep → H b = none := fun {b o es ep} e d => by
      cases q : H b with
      | none => rfl
      | some u =>
        have e' : b = a := hA b (by rw [q]; simp)
        subst e'
        rw [ha] at e; cases e
        have d' : Data.seq vs.toArray _ = Data.dict es ep := d
        cases d'
    have nsK : ∀ {b : Addr} {m : Str → Option Value}, s₁.heap.Ns b m → (hidT s₁.heap H).Ns b m := fun {b m} ⟨o, es, ep, e, d, r⟩ => ⟨o, es, ep, base_of e (noA e d), d, r⟩
    have hKb : K.In (hidT s₁.heap H) := fun b o e => base_of (KX b o e) (by
      cases q : H b with
      | none => rfl
      | some u =>
        have e' : b = a := hA b (by rw [q]; simp)
        subst e'
        rw [hK (by rw [q]; simp)] at e; cases e)
    have hM : Mod K mg (hidT s₁.heap H) := ⟨hKb, nsK hns, ⟨mb, nsK hb, hbb⟩, let ⟨mc, h1, h2⟩ := hlim; ⟨mc, nsK h1, h2⟩⟩
    have e0 : Env0 P w K mg (hidT s₁.heap H) callerA [] s₁ H := ⟨rfl, hM, fun b o e => of_hidT e, Nat.le_of_eq (hidT_size _ _), trivial, fun b hb => absurd (show b ∈ ([] : List Addr) from hb) (by simp), hok, .of_eq hg⟩
    refine codeAny_mono ((F _ hKb (nsK hns)).run callerA [] s₁ H ⟨[.ref a], []⟩ [.ref a] [.ref a] _ _ hr e0 (hbind s₁ (.ref a)) (.cons rfl .nil) (hsp H hO hS)) fun r s' h => ?_
    cases r with
    | error e => exact (hCX H e s' h).elim
    | ok fl =>
      cases fl with
      | next => exact False.elim h
      | brk => exact False.elim h
      | cont => exact False.elim h
      | ret u =>
        obtain ⟨v, H', os, bare, un, hok', r', q⟩ := h
        have q' : v = .bl true := q
        subst q'
        obtain rfl : u = Value.bool true := r'
        refine ⟨rfl, OldK.of_keep fun b o e => ?_, os, bare⟩
        cases q : H b with
        | none => exact un.keep b o e q (by intro z; exact absurd (show b ∈ ([] : List Addr) from z) (by simp)) (by simp)
        | some u =>
          rcases hO b with z | ⟨ob, xs, z⟩
          · rw [q] at z; cases z
          · have z2 := un.frzs b ob _ z
            obtain ⟨e1, _⟩ := hok b _ z
            obtain ⟨e2, _⟩ := hok' b _ z2
            rw [e] at e1; cases e1
            exact e2
  cases hk : K.lookup a with
  | some o =>
    -- the script is one of the module's own objects
    have e := KX a o hk
    rw [ha] at e
    cases e
    refine core (fun _ => none) (fun _ => .inl rfl) (.inr ⟨_, vs.toArray, _, hk, rfl, rfl, rfl, by rw [List.size_toArray, lenV]; exact hl, by simpa using rv⟩) (fun b u z => by have z' : (none : Option HO) = some u := z; cases z') (fun b z => absurd rfl z) fun z => absurd rfl z
  | none =>
    refine core (fun b => if b = a then some (.frz { cls := .type "list", data := .seq vs.toArray } (.lst (ns.map V.int))) else none) (fun b => ?_) (.inl (.inr ⟨{ cls := .type "list", data := .seq vs.toArray }, if_pos rfl⟩)) (fun b u z => ?_) (fun b z => ?_) fun _ => hk
    · by_cases hb : b = a
      · exact .inr ⟨_, _, if_pos hb⟩
      · exact .inl (if_neg hb)
    · by_cases hb : b = a
      · have z' := (if_pos hb).symm.trans z
        cases z'
        subst hb
        exact ⟨ha, by rw [List.length_map]; exact hl, vs, _, rv, ha⟩
      · have z' := (if_neg hb).symm.trans z
        cases z'
    · by_cases hb : b = a
      · exact hb
      · exact absurd (if_neg hb) z
end L2
namespace L2
open PySem PySem.Spec PyProof.Rows
abbrev KOf {K : PySem.W.Frag} {h : Heap} (_ : K.In h) : PySem.W.Frag := K
/-- the goal that k_head leaves (case hc), from the law's promise. F gives the function object fd (K's own) once, then the promise over every base -/
theorem walk_of {l : PySem.W.OpenLaw} {n k : Nat} {q : Program} {loose : List Str} {XP : (Str → Option Value) → Heap → Prop} {YP : World → Heap → Prop} {d : DefRec} {K : Params → PySem.W.Frag} {CX : World → CXT} {sp : World → Sp} {x : Str}
    (hn : l.most = some n) (hn2 : n ≤ sizeLine) (hdf : d.params.defaults = []) (hr : Room k callerA)
    (hY : ∀ (w : World) (h : Heap), YP w h → (K w.params).In h)
    (F : ∀ (w : World) (mg : Str → Option Value) (fa : Addr) (h : Heap), (K w.params).In h → h.Ns mainGlobals mg → mg d.name = some (.ref fa) →
      ∃ fd : FuncData, (∀ (s : Shared) (u : Value), BindsTo s fd ⟨[u], []⟩ [(x, u)]) ∧
        ∀ base : Heap, (K w.params).In base → base.Ns mainGlobals mg → FnOk l.prog w (K w.params) mg base (CX w) k fa fd [x] (sp w))
    (hsp : ∀ (w : World) (H : Hp) (a : Addr) (ns : List Int), ns.length ≤ n → Only H → SqL (K w.params) H a (ns.map V.int) → sp w [.ref a] H (fun v _ => v = .bl true) fun _ _ _ => False)
    (hCX : ∀ (w : World) (H : Hp) (s : Shared) (e : Value) (s' : Shared), CX w [] H s (fun _ _ _ => False) e s' → False) :
    PySem.W.WalkO q loose XP YP l.row.toRowW d [] (fun f vs => PySem.call f vs) := by
  refine Att.attach_call hn hdf fun w s₀ s₁ mg mb fa o pm cd doc a vs ns G Y ho hd hcd hmg hobj hints hlen hg => ?_
  have KX := hY w _ Y
  obtain ⟨fd, hb, hF⟩ := F w mg fa _ KX G.T.g hmg
  exact law_call KX G.T.g G.T.b G.T.builtins G.T.nolimit hg hobj hints (Nat.le_trans hlen hn2) hr hF hb (fun H hO hS => hsp w H a ns hlen hO hS) fun H e s' => hCX w H s₁ e s'
end L2
/- THE LAST THEOREM (shape; LID, My.* are yours):
   My.Adr: a structure of the addresses that your layer names (classes, functions); My.Txt K t: a structure (Prop) of the equations over K;
   My.txt_mk : {K} {implicit addresses ..} (e1 : nsIn K mainGlobals "law" = some (some (.ref f))) (e2 : K.lookup f = some ⟨oc, od, .func (fnOf "law" "law" params body scope dV kV doc pm an cdv ct), sl⟩) (e3 : codeIn K cdv "law" = true) .. : ∃ t, My.Txt K t
set_option maxRecDepth 100000 in
set_option maxHeartbeats 0 in
theorem PySem.Challenge.cw_LID_holds : PySem.Challenge.rw_LID.Holds := by
  w_on; o_law; k_head; (case hw => w_witness2)
  k_fill
  refine L2.walk_of (l := PySem.Challenge.rw_LID) (n := 63) (k := 40) (x := "script") (CX := fun w => ..) (sp := fun _ => My.sp_law) rfl (by decide) rfl ⟨rfl, by decide, by decide⟩ (fun w h Y => PySem.W.kIn_of Y) ?F ?S ?C
  case F =>
    intro w mg fa h KX G hmg
    have T : ∃ t, My.Txt (L2.KOf KX) t := by
      dsimp only [L2.KOf]                          -- K must stand as «<heap const> w.params» for k_is
      refine' My.txt_mk ?e1 ?e2 ?e3 ..
      (case e1 => PySem.W.k_is)                    -- in the order: a name -> its address -> its object -> its parts
      (case e2 => PySem.W.k_is)
      ..
    obtain ⟨t, T⟩ := T
    have e0 := hmg.symm.trans (PySem.W.mg_of KX G T.law)
    cases e0                                       -- fa is the law's own address
    exact ⟨_, fun s u => .of_eq rfl, fun base kb nb => My.law_fn T kb nb⟩     -- if «.of_eq rfl» comes too early: refine' ⟨_, ?b, fun base kb nb => My.law_fn T kb nb⟩; exact fun s u => .of_eq rfl
  case S => exact fun w H a ns hl hO hS => ..
  case C => exact ..
(the tactic k_is has no namespace: write k_is) -/
/-! SHORT WORDS over the layer: a def of the text, its body, what a loop and a test want. -/
namespace L2
open PySem PySem.Spec PyProof.Rows
/-! ### the text by places -/
/-- the j-th statement of a class's body -/
def inClass (s : Stmt) (j : Nat) : Stmt := match s with
  | .ClassDef _ _ _ body _ _ _ _ _ _ _ => body.getD j (.Pass ⟨0, 0, 0, 0⟩)
  | _ => .Pass ⟨0, 0, 0, 0⟩
def defArgs (s : Stmt) : Arguments := match s with
  | .FunctionDef _ a _ _ _ _ _ _ _ _ => a
  | _ => { posonlyargs := [], args := [], vararg := none, kwonlyargs := [], kw_defaults := [], kwarg := none, defaults := [] }
def defBody (s : Stmt) : List Stmt := match s with
  | .FunctionDef _ _ b _ _ _ _ _ _ _ => b
  | _ => []
def defScope (s : Stmt) : Scope := match s with
  | .FunctionDef _ _ _ _ _ _ sc _ _ _ => sc
  | _ => { kind := .function, names := [], isGenerator := false, isCoroutine := false }
/-! ### no exception leaves a def -/
abbrev CX0 : CXT := fun _ _ _ _ _ _ => False
abbrev E0 : XK := fun _ _ _ => False
theorem pass0 {X : Cx} : Passes CX0 X E0 := fun _ _ _ _ _ _ _ h => h.elim
/-! ### a def (or method) of the text as it stands behind the top -/
structure Fun (K : PySem.W.Frag) (x qual : Str) (st : Stmt) (f : Addr) (fd : FuncData) : Prop where
  ex : ∃ (oc : Value) (od : Option Addr) (kV doc pm : Value) (an : Option Addr) (cdv ct : Value) (osl : Array (Option Value)),
    fd = PySem.W.fnOf x qual (defArgs st) (defBody st) (defScope st) .none kV doc pm an cdv ct ∧ K.lookup f = some ⟨oc, od, .func fd, osl⟩ ∧ PySem.W.codeIn K cdv qual = true
  kp : PySem.W.keepIn K (.ref f) = true
section
variable {P : Program} {w : World} {K : PySem.W.Frag} {mg : Str → Option Value} {base : Heap}
/-- THE RULE for a def: its body as a term of rules, and the reading of that term -/
theorem Fun.ok {x qual : Str} {st : Stmt} {f : Addr} {fd : FuncData} {N ps : List Str} {k : Nat} {sp : Sp} (F : Fun K x qual st f fd) (S : FnScope N ps (defScope st)) (len : ∀ vs H Q E, sp vs H Q E → vs.length = ps.length)
    (hbody : ∀ (cdv : Value) (A : Around) (outer : List Env) (s : Shared) (H : Hp) (vs : List V) (Q : VK) (E : XK), Room k (A.deeper (envOfC qual (defScope st) s.heap.objs.size f cdv)) → sp vs H Q E →
      ∃ t, PSs (cxOf CX0 P w K mg base N qual (defScope st) f cdv A outer s H E).nox (defBody st) t ∧ t { nx := fun _ H' => Q .non H', rt := Q } (start N vs) H) : FnOk P w K mg base CX0 (k + 1) f fd ps sp := by
  obtain ⟨oc, od, kV, doc, pm, an, cdv, ct, osl, rfl, lk, hcd⟩ := F.ex
  refine fn_of lk hcd S len fun A outer s H vs Q E hr hsp => ?_
  obtain ⟨t, h, q⟩ := hbody cdv A outer s H vs Q E hr hsp
  exact ⟨t, h.nox, q⟩
/-- how its arguments bind (no defaults): h is «fun _ _ _ _ _ _ us hl => match us, hl with | [_, _], _ => rfl», one _ a parameter -/
theorem Fun.binds {x qual : Str} {st : Stmt} {f : Addr} {fd : FuncData} {ps : List Str} (F : Fun K x qual st f fd)
    (h : ∀ (kV doc pm : Value) (an : Option Addr) (cdv ct : Value) (us : List Value), us.length = ps.length → bindArgs (PySem.W.fnOf x qual (defArgs st) (defBody st) (defScope st) .none kV doc pm an cdv ct) ⟨us, []⟩ = pure (ps.zip us)) : Binds K fd ps [] := by
  obtain ⟨oc, od, kV, doc, pm, an, cdv, ct, osl, rfl, lk, hcd⟩ := F.ex
  exact .all (h kV doc pm an cdv ct)
theorem fun_mk {x qual : Str} {st : Stmt} {f : Addr} {oc : Value} {od an : Option Addr} {osl : Array (Option Value)} {kV doc pm cdv ct : Value} (l : K.lookup f = some ⟨oc, od, .func (PySem.W.fnOf x qual (defArgs st) (defBody st) (defScope st) .none kV doc pm an cdv ct), osl⟩)
    (c : PySem.W.codeIn K cdv qual = true) (k : PySem.W.keepIn K (.ref f) = true) : Fun K x qual st f (PySem.W.fnOf x qual (defArgs st) (defBody st) (defScope st) .none kV doc pm an cdv ct) := ⟨⟨oc, od, kV, doc, pm, an, cdv, ct, osl, rfl, l, c⟩, k⟩
end
/-! ### expressions in short: the name that stands in the i-th slot -/
/-! ### tests -/
theorem iteF {A B : Prop} (h : B) : if false = true then A else B := by
  rw [if_neg Bool.false_ne_true]
  exact h
theorem iteT {A B : Prop} (h : A) : if true = true then A else B := by
  rw [if_pos rfl]
  exact h
/-! ### heaps -/
/-- all that was tracked is as it was -/
def Same (H H' : Hp) : Prop := ∀ b o, H b = some o → H' b = some o
theorem Same.refl (H : Hp) : Same H H := fun _ _ h => h
theorem Same.trans {H H1 H2 : Hp} (a : Same H H1) (b : Same H1 H2) : Same H H2 := fun c o h => b c o (a c o h)
theorem Same.free {H H' : Hp} (e : Same H H') {l : Addr} (h : H' l = Option.none) : H l = Option.none := by
  cases q : H l with
  | none => rfl
  | some o =>
    rw [e l o q] at h
    cases h
theorem Same.seq {K : PySem.W.Frag} {H H' : Hp} {a : Addr} {xs : List V} (e : Same H H') (h : SqL K H a xs) : SqL K H' a xs := by
  rcases h with (h | ⟨o, h⟩) | h
  · exact .inl (.inl (e _ _ h))
  · exact .inl (.inr ⟨o, e _ _ h⟩)
  · exact .inr h
end L2
set_option Elab.async false
set_option linter.all false
set_option maxRecDepth 100000
/-! THE HAND LAYER, for ints, bools, texts, own classes, DICTS (int and text keys), calls, loops. Paste it whole ahead of your own text; what your proof does not reach may be deleted. -/
namespace L2
open PySem PySem.Spec PyProof.Rows
/-! ### lists of pairs as tables -/
section
variable {κ : Type} [DecidableEq κ]
def valV (kvs : List (κ × V)) (k : κ) : Option V := (kvs.find? fun kv => decide (kv.1 = k)).map (·.2)
/-- in its place, or at the end -/
def putK (kvs : List (κ × V)) (k : κ) (v : V) : List (κ × V) :=
  if (kvs.any fun kv => decide (kv.1 = k)) = true then kvs.map (fun kv => if kv.1 = k then (kv.1, v) else kv) else kvs ++ [(k, v)]
def dropK (kvs : List (κ × V)) (k : κ) : List (κ × V) := kvs.filter fun kv => decide (kv.1 ≠ k)
theorem valV_pos {p : κ × V} {r : List (κ × V)} {k : κ} (e : p.1 = k) : valV (p :: r) k = some p.2 := by simp [valV, List.find?_cons, e]
theorem valV_neg {p : κ × V} {r : List (κ × V)} {k : κ} (e : ¬ p.1 = k) : valV (p :: r) k = valV r k := by simp [valV, List.find?_cons, e]
theorem valV_any (k : κ) : ∀ kvs : List (κ × V), (kvs.any fun kv => decide (kv.1 = k)) = (valV kvs k).isSome
  | [] => rfl
  | p :: r => by
    rw [List.any_cons]
    by_cases e : p.1 = k
    · simp only [valV_pos e, decide_eq_true e, Bool.true_or, Option.isSome_some]
    · rw [valV_neg e, decide_eq_false e, Bool.false_or]; exact valV_any k r
theorem RelO.isSome_eq {o : Option V} {u : Option Value} (r : RelO o u) : o.isSome = u.isSome := by
  cases o with
  | none => cases u with
    | none => rfl
    | some _ => exact (show False from r).elim
  | some _ => cases u with
    | none => exact (show False from r).elim
    | some _ => rfl
theorem RelO.getD {o : Option V} {u : Option Value} {d : V} {d' : Value} (r : RelO o u) (rd : RelV d d') : RelV (o.getD d) (u.getD d') := by
  cases o with
  | none => cases u with
    | none => exact rd
    | some _ => exact (show False from r).elim
  | some _ => cases u with
    | none => exact (show False from r).elim
    | some _ => exact r
/-- raw tables of the same keys -/
theorem KV.val {kvs : List (κ × V)} {vs : List (κ × Value)} (r : KV kvs vs) (k : κ) : RelO (valV kvs k) (valueAt vs k) := by
  unfold KV at r
  induction r with
  | nil => exact True.intro
  | @cons p q ps qs h t ih =>
    obtain ⟨h1, h2⟩ := h
    by_cases e : p.1 = k
    · have e' : q.1 = k := h1.symm.trans e
      have b : valueAt (q :: qs) k = some q.2 := by simp [valueAt, List.find?_cons, e']
      rw [valV_pos e, b]; exact h2
    · have e' : ¬ q.1 = k := fun z => e (h1.trans z)
      have b : valueAt (q :: qs) k = valueAt qs k := by simp [valueAt, List.find?_cons, e']
      rw [valV_neg e, b]; exact ih
theorem KV.any {kvs : List (κ × V)} {vs : List (κ × Value)} (r : KV kvs vs) (k : κ) : (kvs.any fun kv => decide (kv.1 = k)) = vs.any fun kv => decide (kv.1 = k) := by
  unfold KV at r
  induction r with
  | nil => rfl
  | cons h t ih => rw [List.any_cons, List.any_cons, ih, h.1]
theorem KV.repl {kvs : List (κ × V)} {vs : List (κ × Value)} (r : KV kvs vs) (k : κ) {y : V} {u : Value} (ry : RelV y u) :
    KV (kvs.map fun kv => if kv.1 = k then (kv.1, y) else kv) (vs.map fun kv => if kv.1 = k then (kv.1, u) else kv) := by
  unfold KV at r ⊢
  induction r with
  | nil => exact .nil
  | @cons p q ps qs h t ih =>
    rw [List.map_cons, List.map_cons]
    refine .cons ?_ ih
    obtain ⟨h1, h2⟩ := h
    by_cases e : p.1 = k
    · rw [if_pos e, if_pos (h1.symm.trans e)]; exact ⟨h1, ry⟩
    · rw [if_neg e, if_neg (fun z => e (h1.trans z))]; exact ⟨h1, h2⟩
theorem KV.put {kvs : List (κ × V)} {vs : List (κ × Value)} (r : KV kvs vs) (k : κ) {y : V} {u : Value} (ry : RelV y u) : KV (putK kvs k y) (stored vs k u) := by
  unfold putK stored
  rw [r.any k]
  by_cases e : (vs.any fun kv => decide (kv.1 = k)) = true
  · rw [if_pos e, if_pos e]; exact r.repl k ry
  · rw [if_neg e, if_neg e]; exact Paired.snoc r ⟨rfl, ry⟩
theorem KV.drop {kvs : List (κ × V)} {vs : List (κ × Value)} (r : KV kvs vs) (k : κ) : KV (dropK kvs k) (without vs k) := by
  unfold KV at r ⊢
  unfold dropK without
  induction r with
  | nil => exact .nil
  | @cons p q ps qs h t ih =>
    obtain ⟨h1, h2⟩ := h
    rw [List.filter_cons, List.filter_cons]
    by_cases e : p.1 = k
    · have a : ¬ decide (p.1 ≠ k) = true := by simp [e]
      have b : ¬ decide (q.1 ≠ k) = true := by simp [h1.symm.trans e]
      rw [if_neg a, if_neg b]; exact ih
    · have e' : ¬ q.1 = k := fun z => e (h1.trans z)
      have a : decide (p.1 ≠ k) = true := by simp [e]
      have b : decide (q.1 ≠ k) = true := by simp [e']
      rw [if_pos a, if_pos b]; exact .cons ⟨h1, h2⟩ ih
theorem KV.length {kvs : List (κ × V)} {vs : List (κ × Value)} (r : KV kvs vs) : kvs.length = vs.length := Paired.length r
end
/-- raw entries of a dict with tuple keys -/
abbrev KT (H : Hp) : List (List Key × V) → List (List Key × Addr × Value) → Prop := Paired fun p q => p.1 = q.1 ∧ H q.2.1 = some (.tup (p.1.map kV)) ∧ RelV p.2 q.2.2
theorem KT.val {H : Hp} {kvs : List (List Key × V)} {xs : List (List Key × Addr × Value)} (r : KT H kvs xs) (k : List Key) : RelO (valV kvs k) ((atKey xs k).map (·.2)) := by
  induction r with
  | nil => exact True.intro
  | @cons p q ps qs h t ih =>
    obtain ⟨h1, _, h2⟩ := h
    by_cases e : p.1 = k
    · have e' : q.1 = k := h1.symm.trans e
      have b : atKey (q :: qs) k = some q.2 := by simp [atKey, List.find?_cons, e']
      rw [valV_pos e, b]; exact h2
    · have e' : ¬ q.1 = k := fun z => e (h1.trans z)
      have b : atKey (q :: qs) k = atKey qs k := by simp [atKey, List.find?_cons, e']
      rw [valV_neg e, b]; exact ih
theorem KT.repl {H : Hp} {kvs : List (List Key × V)} {xs : List (List Key × Addr × Value)} (r : KT H kvs xs) (k : List Key) {y : V} {u : Value} (ry : RelV y u) :
    KT H (kvs.map fun kv => if kv.1 = k then (kv.1, y) else kv) (xs.map (putAt k u)) := by
  induction r with
  | nil => exact .nil
  | @cons p q ps qs h t ih =>
    rw [List.map_cons, List.map_cons]
    refine .cons ?_ ih
    obtain ⟨h1, h2, h3⟩ := h
    unfold putAt
    by_cases e : p.1 = k
    · rw [if_pos e, if_pos (h1.symm.trans e)]; exact ⟨h1, h2, ry⟩
    · rw [if_neg e, if_neg (fun z => e (h1.trans z))]; exact ⟨h1, h2, h3⟩
theorem KT.put {H : Hp} {kvs : List (List Key × V)} {xs : List (List Key × Addr × Value)} (r : KT H kvs xs) (k : List Key) {b : Addr} {y : V} {u : Value} (hb : H b = some (.tup (k.map kV))) (ry : RelV y u) :
    KT H (putK kvs k y) (storedH xs k b u) := by
  have e : (kvs.any fun kv => decide (kv.1 = k)) = (atKey xs k).isSome := by
    rw [valV_any, (r.val k).isSome_eq, Option.isSome_map]
  unfold putK storedH
  rw [e]
  by_cases q : (atKey xs k).isSome = true
  · rw [if_pos q, if_pos q]; exact r.repl k ry
  · rw [if_neg q, if_neg q]; exact Paired.snoc r ⟨rfl, hb, ry⟩
theorem KT.keeps {H H' : Hp} {kvs : List (List Key × V)} {xs : List (List Key × Addr × Value)} (r : KT H kvs xs) (ht : ∀ b ys, H b = some (.tup ys) → H' b = some (.tup ys)) : KT H' kvs xs :=
  Paired.mapP r fun _ _ z => ⟨z.1, ht _ _ z.2.1, z.2.2⟩
/-- what the dict at a holds at the key y -/
def DGet (H : Hp) (a : Addr) (y : V) (r : Option V) : Prop :=
  (∃ kvs k, Rd H a (.dK kvs) ∧ y = kV k ∧ r = valV kvs k) ∨ ∃ kvs k b, Rd H a (.dT kvs) ∧ y = .ref b ∧ H b = some (.tup (k.map kV)) ∧ r = valV kvs k
/-- the heap behind a[y] = v -/
def DPut (H : Hp) (a : Addr) (y v : V) (H' : Hp) : Prop :=
  (∃ kvs k, H a = some (.dK kvs) ∧ y = kV k ∧ kvs.length < sizeLine ∧ H' = upd H a (.dK (putK kvs k v))) ∨
  ∃ kvs k b, H a = some (.dT kvs) ∧ y = .ref b ∧ H b = some (.tup (k.map kV)) ∧ kvs.length < sizeLine ∧ H' = upd H a (.dT (putK kvs k v))
theorem DGet.k {H : Hp} {a : Addr} {kvs : List (Key × V)} {k : Key} (e : H a = some (.dK kvs)) : DGet H a (kV k) (valV kvs k) := .inl ⟨kvs, k, .inl e, rfl, rfl⟩
theorem DGet.t {H : Hp} {a b : Addr} {kvs : List (List Key × V)} {k : List Key} (e : H a = some (.dT kvs)) (eb : H b = some (.tup (k.map kV))) : DGet H a (.ref b) (valV kvs k) := .inr ⟨kvs, k, b, .inl e, rfl, eb, rfl⟩
theorem DPut.k {H : Hp} {a : Addr} {kvs : List (Key × V)} {k : Key} {v : V} (e : H a = some (.dK kvs)) (hl : kvs.length < sizeLine) : DPut H a (kV k) v (upd H a (.dK (putK kvs k v))) := .inl ⟨kvs, k, e, rfl, hl, rfl⟩
theorem DPut.t {H : Hp} {a b : Addr} {kvs : List (List Key × V)} {k : List Key} {v : V} (e : H a = some (.dT kvs)) (eb : H b = some (.tup (k.map kV))) (hl : kvs.length < sizeLine) :
    DPut H a (.ref b) v (upd H a (.dT (putK kvs k v))) := .inr ⟨kvs, k, b, e, rfl, eb, hl, rfl⟩
section
variable {X : Cx} {pins : List (Addr × Obj)} {σ : St} {H : Hp} {s : Shared} {a : Addr} {y v : V} {u r : Value} {o : Option V} {A : Around} {E : Value → Shared → Prop}
theorem Inv.big (I : Inv X pins σ H s) : sysModules < s.heap.objs.size := by
  have h : mainGlobals < s.heap.objs.size := (I.mod.glob.keeps I.bk).lt
  exact Nat.lt_trans (by decide) h
end
/-! ### displays -/
theorem dk_empty {P : Program} {w : World} {H : Hp} (h : Heap) (hb : sysModules < h.objs.size) : ObjOk P w H (h.push { cls := .type "dict", data := .dict #[] }) h.objs.size (.dK []) :=
  ⟨Nat.zero_le _, beq_eq_false_iff_ne.mpr (Ne.symm (Nat.ne_of_lt hb)), [], .nil, Heap.DictOf.new h⟩
/-- {}, to be a dict of the kind that is wanted -/
def tDNewK : TE := fun _ H Q => ∀ p, H p = none → Q (.ref p) (upd H p (.dK []))
section
variable {X : Cx} {pos : Pos}
theorem pe_dnewK : PE X (.Dict [] [] pos) tDNewK := fun pins s σ H Q I h =>
  wpAny_Dict_empty ⟨.ref s.heap.objs.size, _, I.laid (a := s.heap.objs.size) (o := .dK []) (t' := s.toks) (fun _ _ q => Heap.get?_push_of_some _ q) (Nat.le_refl _) (dk_empty s.heap I.big), rfl, h _ (I.hok.fresh (Nat.le_refl _))⟩
end
/-! ### methods -/
/-- a method call o.m(e) of a built-in, with one argument: what must be seen of the text -/
structure M1 (X : Cx) (o : Expr) (m : Str) (apos : Pos) (e : Expr) (cpos : Pos) : Prop where
  base : attributeBase o m X.env (eval o X.env) = eval o X.env
  few : ((backTo cpos (starEach [e] X.env)).all (fun x => !x.1) && (backToKw cpos (keywordEach [] X.env)).all (fun x => x.1.isSome)
    && decide (([e] : List Expr).length + ([] : List Keyword).length + (if ([] : List Keyword).isEmpty then 0 else 1) < 30)) = true
  line : (apos.endLine == cpos.line) = true
  trees : backTo cpos (starEach [e] X.env) = [(false, eval e X.env)]
structure M2 (X : Cx) (o : Expr) (m : Str) (apos : Pos) (e f : Expr) (cpos : Pos) : Prop where
  base : attributeBase o m X.env (eval o X.env) = eval o X.env
  few : ((backTo cpos (starEach [e, f] X.env)).all (fun x => !x.1) && (backToKw cpos (keywordEach [] X.env)).all (fun x => x.1.isSome)
    && decide (([e, f] : List Expr).length + ([] : List Keyword).length + (if ([] : List Keyword).isEmpty then 0 else 1) < 30)) = true
  line : (apos.endLine == cpos.line) = true
  trees : backTo cpos (starEach [e, f] X.env) = [(false, eval e X.env), (false, eval f X.env)]
/-! ### dict(d): a copy -/
end L2
set_option Elab.async false
set_option linter.all false
/-! closures and the environment of a comprehension's block (with cells of its own) -/
namespace CT
open PySem
/-- the closure of a comprehension's scope: the cells of its free names -/
def clOf (env : Env) : List (Str × NameKind) → List (Str × Addr) → List (Str × Addr)
  | [], acc => acc
  | (n, k) :: r, acc => if k == .free then clOf env r ((n, (env.cells.lookup n).getD 0) :: acc) else clOf env r acc
theorem clFor {env : Env} (f : Str × NameKind → List (Str × Addr) → Sem (ForInStep (List (Str × Addr))))
    (hf : ∀ n k acc, f (n, k) acc = if k == .free then (do let c ← cellOf env n; pure (.yield ((n, c) :: acc))) else pure (.yield acc)) :
    ∀ (names : List (Str × NameKind)) (acc : List (Str × Addr)), (∀ x ∈ names, x.2 = .free → ∃ c, env.cells.lookup x.1 = some c) → forIn names acc f = pure (clOf env names acc)
  | [], acc, _ => by rw [List.forIn_nil]; rfl
  | (n, k) :: r, acc, h => by
    have hr : ∀ x ∈ r, x.2 = .free → ∃ c, env.cells.lookup x.1 = some c := fun x hx => h x (List.mem_cons_of_mem _ hx)
    rw [List.forIn_cons, hf]
    unfold clOf
    by_cases hk : (k == NameKind.free) = true
    · rw [if_pos hk, if_pos hk]
      obtain ⟨c, hc⟩ := h (n, k) List.mem_cons_self (beq_iff_eq.mp hk)
      have hc' : env.cells.lookup n = some c := hc
      rw [hc']
      simp only [cellOf, hc', pure_bind, Option.getD_some]
      exact clFor f hf r _ hr
    · rw [if_neg hk, if_neg hk]
      simp only [pure_bind]
      exact clFor f hf r _ hr
theorem closureFor_eq {scope : Scope} {env : Env} (h : ∀ x ∈ scope.names, x.2 = .free → ∃ c, env.cells.lookup x.1 = some c) : closureFor scope env = pure (clOf env scope.names []) := by
  simp only [closureFor]
  rw [clFor (env := env) _ (fun n k acc => by cases hk : k == NameKind.free <;> simp [hk]) _ _ h]
  rfl
theorem lookup_of_mem {α : Type} {x : Str} {v : α} : ∀ {l : List (Str × α)}, (l.map (·.1)).Nodup → (x, v) ∈ l → l.lookup x = some v
  | (k, u) :: r, hn, hm => by
    rw [List.map_cons, List.nodup_cons] at hn
    rw [List.lookup_cons]
    rcases List.mem_cons.mp hm with e | hm
    · cases e; simp
    · have : x ≠ k := fun e => hn.1 (e ▸ List.mem_map.mpr ⟨(x, v), hm, rfl⟩)
      rw [beq_false_of_ne this]
      exact lookup_of_mem hn.2 hm
theorem some_of_mem {α : Type} {x : Str} {v : α} : ∀ {l : List (Str × α)}, (x, v) ∈ l → ∃ u, l.lookup x = some u
  | (k, u) :: r, hm => by
    rw [List.lookup_cons]
    rcases List.mem_cons.mp hm with e | hm
    · cases e; exact ⟨v, by simp⟩
    · cases x == k with
      | true => exact ⟨u, rfl⟩
      | false => exact some_of_mem hm
theorem clOf_acc {env : Env} {p : Str × Addr} : ∀ {names : List (Str × NameKind)} {acc : List (Str × Addr)}, p ∈ acc → p ∈ clOf env names acc
  | [], _, h => h
  | (n, k) :: r, acc, h => by
    unfold clOf
    split
    · exact clOf_acc (List.mem_cons_of_mem _ h)
    · exact clOf_acc h
theorem clOf_mem {env : Env} {n : Str} {c : Addr} : ∀ {names : List (Str × NameKind)} {acc : List (Str × Addr)}, (∀ x ∈ names, x.2 = .free → ∃ c, env.cells.lookup x.1 = some c) → (n, c) ∈ clOf env names acc →
    (n, c) ∈ acc ∨ (env.cells.lookup n = some c ∧ (n, NameKind.free) ∈ names)
  | [], _, _, h => .inl h
  | (m, k) :: r, acc, hf, h => by
    have hr : ∀ x ∈ r, x.2 = .free → ∃ c, env.cells.lookup x.1 = some c := fun x hx => hf x (List.mem_cons_of_mem _ hx)
    unfold clOf at h
    split at h
    · rename_i hk
      have hk' : k = .free := beq_iff_eq.mp hk
      obtain ⟨c', hc⟩ := hf (m, k) List.mem_cons_self hk'
      have hc' : env.cells.lookup m = some c' := hc
      rcases clOf_mem hr h with h | ⟨h1, h2⟩
      · rcases List.mem_cons.mp h with e | h
        · rw [hc'] at e; cases e
          exact .inr ⟨hc', by rw [hk']; exact List.mem_cons_self⟩
        · exact .inl h
      · exact .inr ⟨h1, List.mem_cons_of_mem _ h2⟩
    · rcases clOf_mem hr h with h | ⟨h1, h2⟩
      · exact .inl h
      · exact .inr ⟨h1, List.mem_cons_of_mem _ h2⟩
theorem clOf_has {env : Env} {n : Str} {c : Addr} (hc : env.cells.lookup n = some c) : ∀ {names : List (Str × NameKind)} {acc : List (Str × Addr)}, (n, NameKind.free) ∈ names → (n, c) ∈ clOf env names acc
  | (m, k) :: r, acc, h => by
    unfold clOf
    rcases List.mem_cons.mp h with e | h
    · cases e
      rw [if_pos (by decide), hc]
      exact clOf_acc List.mem_cons_self
    · split <;> exact clOf_has hc h
theorem cellsFrom_app : ∀ (names : List (Str × NameKind)) (n : Nat) (acc : List (Str × Addr)), cellsFrom n names acc = cellsFrom n names [] ++ acc
  | [], _, _ => rfl
  | (m, k) :: r, n, acc => by
    unfold cellsFrom
    split
    · rw [cellsFrom_app r (n + 1) ((m, n) :: acc), cellsFrom_app r (n + 1) [(m, n)], List.append_assoc]; rfl
    · exact cellsFrom_app r n acc
theorem cellsFrom_mem {x : Str} {c : Addr} : ∀ {names : List (Str × NameKind)} {n : Nat} {acc : List (Str × Addr)}, (x, c) ∈ cellsFrom n names acc → (x, c) ∈ acc ∨ (x, NameKind.cell) ∈ names
  | [], _, _, h => .inl h
  | (m, k) :: r, n, acc, h => by
    unfold cellsFrom at h
    split at h
    · rename_i hk
      have hk' : k = .cell := beq_iff_eq.mp hk
      rcases cellsFrom_mem h with h | h
      · rcases List.mem_cons.mp h with e | h
        · cases e; exact .inr (by rw [hk']; exact List.mem_cons_self)
        · exact .inl h
      · exact .inr (List.mem_cons_of_mem _ h)
    · rcases cellsFrom_mem h with h | h
      · exact .inl h
      · exact .inr (List.mem_cons_of_mem _ h)
theorem cellsFrom_has {x : Str} : ∀ {names : List (Str × NameKind)} {n : Nat} {acc : List (Str × Addr)}, (x, NameKind.cell) ∈ names → ∃ c, (x, c) ∈ cellsFrom n names acc
  | (m, k) :: r, n, acc, h => by
    unfold cellsFrom
    rcases List.mem_cons.mp h with e | h
    · cases e
      rw [if_pos (by decide), cellsFrom_app]
      exact ⟨n, List.mem_append_right _ List.mem_cons_self⟩
    · split
      · exact cellsFrom_has h
      · exact cellsFrom_has h
theorem lookup_map2 {α β : Type} {f : Str → α → β} {x : Str} : ∀ {l : List (Str × α)}, (l.map fun p => (p.1, f p.1 p.2)).lookup x = (l.lookup x).map (f x)
  | [] => rfl
  | (n, k) :: r => by
    rw [List.map_cons, List.lookup_cons, List.lookup_cons]
    by_cases hx : x = n
    · subst hx; simp
    · rw [beq_false_of_ne hx]; exact lookup_map2
/-- a name's kind in the block -/
def kin (env : Env) (x : Str) (k : NameKind) : NameKind := if (k == NameKind.free && env.scope.kind == .function && env.kindOf x == some .cell) = true then .cell else k
theorem relabel_lookup {env : Env} {x : Str} {names : List (Str × NameKind)} :
    (names.map fun (n, k) => if (k == NameKind.free && env.scope.kind == .function && env.kindOf n == some .cell) then (n, NameKind.cell) else (n, k)).lookup x = (names.lookup x).map (kin env x) := by
  rw [← lookup_map2 (f := kin env)]
  congr 1
  refine List.map_congr_left fun p _ => ?_
  obtain ⟨n, k⟩ := p
  show (if _ then _ else _) = (n, if _ then _ else _)
  split <;> rfl
theorem wpAny_compEnv {M : Model} {A : Around} {E : Value → Shared → Prop} {s : Shared} {scope : Scope} {globals : Addr} {cl : List (Str × Addr)} {qual : Str} {env : Env} {Q : Env → Shared → Prop}
    (h : Q { scope := scope, locals := s.heap.objs.size, globals := globals, cells := cellsFrom (s.heap.objs.size + 1) scope.names cl, qual := qual, func := none, code := env.code, frame := env.frame, builtins := env.builtins }
      { s with heap := pushCells (s.heap.push { cls := .type "dict", data := .dict #[] }) scope.names }) :
    wpAny M A (newFunctionEnv scope globals cl [] qual none .none (some env)) Q E s := by
  simp only [newFunctionEnv, Option.isSome_some, if_true]
  refine wpAny_bind (wpAny_alloc ?_)
  refine wpAny_bind (wpAny_layCells _ (fun name kind cells => by cases hkc : kind == NameKind.cell <;> simp [hkc]) _ _ _ _ ?_)
  rw [show ({ s with heap := s.heap.push { cls := .type "dict", data := .dict #[] } } : Shared).heap.objs.size = s.heap.objs.size + 1 from Heap.size_push ..]
  simp only [List.forIn_nil, pure_bind]
  exact wpAny_pure h
/-- what is done in a turn of clause d behind the tests -/
def insideOf (elt : Expr) (gens : List Comprehension) (scope : Scope) (pos : Pos) (d : Nat) (acc : Value) (env : Env) : Sem Unit :=
  match gens[d + 1]? with
  | some g' => do
    let x ← eval g'.iter env
    standAt g'.iter.pos
    let x ← if g'.is_async != 0 then foldedIterable g'.iter x else foldedSetIterable g'.iter env x
    let _ ← runOwn (.compStart (.ListComp elt gens scope pos) (d + 1) (← holding [x] (if g'.is_async != 0 then asyncIter x else pyIter x)) acc env) env
  | none => do let _ ← call (.builtin "list.append") [acc, ← eval elt env]
theorem compTurn_at (elt : Expr) (gens : List Comprehension) (scope : Scope) (pos : Pos) (d : Nat) (it acc : Value) (env : Env) {tg iter : Expr} {ifs : List Expr} (hg : gens[d]? = some ⟨tg, iter, ifs, 0⟩) :
    compTurn (.ListComp elt gens scope pos) d it acc env = (standAt iter.pos >>= fun _ => pyNext it >>= fun r => match r with
      | none => pure (.done .next)
      | some v => letOwnedTupleGo tg it v >>= fun _ => assign tg env v >>= fun _ =>
        (forIn ifs true fun c r => if r = true then do let ok ← isTrue c env (eval c env); pure (ForInStep.yield ok) else pure (ForInStep.yield r)) >>= fun ok =>
          (if ok = true then insideOf elt gens scope pos d acc env else pure ()) >>= fun _ => again (.compLoop (.ListComp elt gens scope pos) d it acc env)) := by
  unfold compTurn insideOf
  simp only [hg, show ((0 : Int) != 0) = false from rfl, Bool.false_eq_true, if_false]
  congr 1
  funext _
  congr 1
  funext r
  cases r with
  | none => rfl
  | some v =>
    dsimp only
    congr 1; funext _
    congr 1; funext _
    congr 1; funext ok
    cases ok with
    | false => simp
    | true =>
      simp only [if_true]
      cases gens[d + 1]? with
      | none => rfl
      | some g' =>
        by_cases ha : (g'.is_async != 0) = true
        · simp [ha, bind_assoc]
        · simp [ha, bind_assoc]
section
variable {prog : Program} {w : World} {A : Around} {R : Result → Shared → Prop} {s : Shared}
theorem compStart_at {elt : Expr} {gens : List Comprehension} {scope : Scope} {pos : Pos} {d : Nat} {it acc : Value} {env : Env} {tg iter : Expr} {ifs : List Expr} (hg : gens[d]? = some ⟨tg, iter, ifs, 0⟩)
    (h0 : codeAny (model prog w) A (.compLoop (.ListComp elt gens scope pos) d it acc env) R s)
    (h : wpAny (model prog w) A (pyIter it) (fun it' s' => codeAny (model prog w) A (.compLoop (.ListComp elt gens scope pos) d it' acc env) R s') (notedBy (model prog w) A env fun x s' => R (.error x) s') s) :
    codeAny (model prog w) A (.compStart (.ListComp elt gens scope pos) d it acc env) R s := by
  refine codeAny_of_tree ?_
  show wpAny _ _ ((compStart (.ListComp elt gens scope pos) d it acc env).onRaise (fun x => do noteFrame x env; standAt theWindowsPlace)) _ _ s
  refine wpAny_notedAt ?_
  unfold compStart
  have e : (clausesOf (.ListComp elt gens scope pos))[d]? = some ⟨tg, iter, ifs, 0⟩ := hg
  rw [e]
  show wpAny _ _ (ask >>= _) _ _ s
  refine wpAny_bind (wpAny_askSetting (wpAny_ite ?_))
  split
  · first
      | exact wpAny_bind (wpAny_pure (wpAny_pure (And.intro rfl h0)))
      | exact wpAny_pure (And.intro rfl h0)
  · first
      | exact wpAny_bind (wpAny_rule (wpAny_bind (wpAny_standAt (wpAny_bind (wpAny_mono h (fun it' s' h' => wpAny_pure (And.intro rfl h')) fun _ _ x => x)))))
      | (refine wpAny_bind (wpAny_rule ?_); show wpAny _ _ (standAt iter.pos >>= _) _ _ s; exact wpAny_bind (wpAny_standAt (wpAny_bind (wpAny_mono h (fun it' s' h' => wpAny_pure (And.intro rfl h')) fun _ _ x => x))))
end
end CT
set_option Elab.async false
set_option linter.all false
set_option maxRecDepth 100000
set_option maxHeartbeats 4000000
namespace CT
open PySem
/-- an iterator over a list (false) or a tuple (true) -/
def Sit (h : Heap) (b : Bool) (i a : Addr) (k : Nat) : Prop := match b with | true => h.IsTupleIter i a k | false => h.IsListIter i a k
def Ssq (h : Heap) (b : Bool) (a : Addr) (xs : Array Value) : Prop := match b with | true => h.IsTuple a xs | false => h.IsList a xs
theorem Sit.at {h h' : Heap} {b : Bool} {i a : Addr} {k : Nat} (x : Sit h b i a k) (e : ∀ o, h.get? i = some o → h'.get? i = some o) : Sit h' b i a k := by
  cases b with
  | true => obtain ⟨o, ho, r⟩ := x; exact ⟨o, e o ho, r⟩
  | false => exact Heap.IsListIter.at x e
theorem Ssq.at {h h' : Heap} {b : Bool} {a : Addr} {xs : Array Value} (x : Ssq h b a xs) (e : ∀ o, h.get? a = some o → h'.get? a = some o) : Ssq h' b a xs := by
  cases b with
  | true => obtain ⟨o, ho, r⟩ := x; exact ⟨o, e o ho, r⟩
  | false => exact Heap.IsList.at x e
theorem Sit.rec {h : Heap} {b : Bool} {i a : Addr} {k : Nat} (x : Sit h b i a k) : ∃ o n vs, h.get? i = some o ∧ o.cls = .type n ∧ o.data = .fields vs := by
  cases b with
  | true => obtain ⟨o, ho, c, d⟩ := x; exact ⟨o, _, _, ho, c, d⟩
  | false => obtain ⟨o, ho, c, d⟩ := x; exact ⟨o, _, _, ho, c, d⟩
section
variable {prog : Program} {w : World} {A : Around} {E : Value → Shared → Prop} {s : Shared}
theorem nextOf_tuple_item {it t : Addr} {i : Nat} {items} {x : Value} {Q : Value → Shared → Prop} (hit : s.heap.IsTupleIter it t i) (ht : s.heap.IsTuple t items) (hx : items[i]? = some x)
    (hQ : ∀ h', h'.IsTupleIter it t (i + 1) → Heap.SameBut it s.heap h' → Q x { s with heap := h' }) : wpAny (model prog w) A (Builtin.SmallTypes.nextOf (.ref it)) Q E s := by
  obtain ⟨o, ho, hc, hd⟩ := id hit
  obtain ⟨ol, hol, _, nl, hdl⟩ := ht
  unfold Builtin.SmallTypes.nextOf
  refine wpAny_bind (wpAny_callSpecial?_slot (name := Str.ofString "__next__") hit.typeIs F.slot_tuple_iterator_next
    (wpAny_call_entry F.slot_tuple_iterator_next hit.typeIs F.entry_tuple_iterator_next ?_ (F.args_tuple_iterator_next_1 _)))
  show wpAny _ _ (field (.ref it) 0 >>= _) _ _ s
  refine wpAny_bind (wpAny_field ho hd (x := .ref t) rfl ?_)
  show wpAny _ _ (if (Value.ref t == Value.none) = true then _ else _) _ _ s
  rw [if_neg (show ¬ ((Value.ref t == Value.none) = true) from Bool.false_ne_true)]
  show wpAny _ _ (field (.ref it) 1 >>= _) _ _ s
  refine wpAny_bind (wpAny_field ho hd (x := .int i 0) rfl ?_)
  show wpAny _ _ (seqItems? (.ref t) >>= _) _ _ s
  refine wpAny_bind (wpAny_seqItems hol hdl ?_)
  simp only [Int.toNat_natCast, hx]
  refine wpAny_bind (wpAny_setField ho hd (by simp) (wpAny_pure ⟨x, rfl, wpAny_pure (hQ _ ?_ (Heap.SameBut.update ..))⟩))
  exact ⟨_, Heap.get?_update_self _ ho (Obj.isFreed_of_fields (Obj.data_mapFields hd _)), (Obj.cls_mapFields ..).trans hc, by
    rw [Obj.data_mapFields hd]; simp [rawInt]⟩
theorem nextOf_tuple_end {it t : Addr} {i : Nat} {items} {Q : Value → Shared → Prop} (hh : A.handled = none) (hit : s.heap.IsTupleIter it t i) (ht : s.heap.IsTuple t items) (hx : items[i]? = none)
    (hE : ∀ h' e, Heap.ExtBut it s.heap h' → (∃ o, h'.get? e = some o ∧ o.cls = .type "StopIteration") → E (.ref e) { s with heap := h' }) :
    wpAny (model prog w) A (Builtin.SmallTypes.nextOf (.ref it)) Q E s := by
  obtain ⟨o, ho, hc, hd⟩ := id hit
  obtain ⟨ol, hol, _, nl, hdl⟩ := ht
  unfold Builtin.SmallTypes.nextOf
  refine wpAny_bind (wpAny_callSpecial?_slot (name := Str.ofString "__next__") hit.typeIs F.slot_tuple_iterator_next
    (wpAny_call_entry F.slot_tuple_iterator_next hit.typeIs F.entry_tuple_iterator_next ?_ (F.args_tuple_iterator_next_1 _)))
  show wpAny _ _ (field (.ref it) 0 >>= _) _ _ s
  refine wpAny_bind (wpAny_field ho hd (x := .ref t) rfl ?_)
  show wpAny _ _ (if (Value.ref t == Value.none) = true then _ else _) _ _ s
  rw [if_neg (show ¬ ((Value.ref t == Value.none) = true) from Bool.false_ne_true)]
  show wpAny _ _ (field (.ref it) 1 >>= _) _ _ s
  refine wpAny_bind (wpAny_field ho hd (x := .int i 0) rfl ?_)
  show wpAny _ _ (seqItems? (.ref t) >>= _) _ _ s
  refine wpAny_bind (wpAny_seqItems hol hdl ?_)
  simp only [Int.toNat_natCast, hx]
  refine wpAny_bind (wpAny_rule (wpAny_bind (wpAny_setField ho hd (by simp) ?_)))
  show wpAny _ _ (newExc (.type "StopIteration") [] >>= _) _ _ _
  refine wpAny_bind ?_
  simp only [newExc, newTuple]
  refine wpAny_bind (wpAny_newObj_type ?_ (by size_fits))
  refine wpAny_bind (m := firstArgMember _ _) (wpAny_of_eq (a := Value.none) (by first | rfl | (simp only [firstArgMember]; rfl)) ?_)
  refine wpAny_newObj_type ?_ (by size_fits)
  simp only [raiseNew]
  refine wpAny_bind (wpAny_handled ?_)
  first | rw [show A.in1.handled = none from hh] | rw [hh]
  refine wpAny_bind (wpAny_pure (wpAny_throw ?_))
  exact hE _ _ (((Heap.SameBut.update ..).extBut.push _).push _) ⟨_, Heap.get?_push_size _ rfl, rfl⟩
theorem nextS_item {b : Bool} {it a : Addr} {i : Nat} {items : Array Value} {x : Value} {Q : Value → Shared → Prop} (hit : Sit s.heap b it a i) (hl : Ssq s.heap b a items) (hx : items[i]? = some x)
    (hQ : ∀ h', Sit h' b it a (i + 1) → Heap.SameBut it s.heap h' → Q x { s with heap := h' }) : wpAny (model prog w) A (Builtin.SmallTypes.nextOf (.ref it)) Q E s := by
  cases b with
  | true => exact nextOf_tuple_item hit hl hx hQ
  | false => exact wpAny_nextOf_list_item hit hl hx hQ
theorem nextS_end {b : Bool} {it a : Addr} {i : Nat} {items : Array Value} {Q : Value → Shared → Prop} (hh : A.handled = none) (hit : Sit s.heap b it a i) (hl : Ssq s.heap b a items) (hx : items[i]? = none)
    (hE : ∀ h' e, Heap.ExtBut it s.heap h' → (∃ o, h'.get? e = some o ∧ o.cls = .type "StopIteration") → E (.ref e) { s with heap := h' }) : wpAny (model prog w) A (Builtin.SmallTypes.nextOf (.ref it)) Q E s := by
  cases b with
  | true => exact nextOf_tuple_end hh hit hl hx hE
  | false => exact wpAny_nextOf_list_end hh hit hl hx hE
abbrev IsTupAt (h : Heap) (T : Addr) (vs : Array Value) : Prop := h.get? T = some { cls := .type "tuple", data := .seq vs }
theorem small8 : 8 ≤ sizeLine := by rw [sizeLine_eq]; decide
theorem updateSeq_tup {T : Addr} {vs : Array Value} {x : Value} {k : Nat} {Q : Unit → Shared → Prop} (hT : IsTupAt s.heap T vs) (hv : vs.size ≤ 8)
    (h : ∀ h', IsTupAt h' T (vs.setIfInBounds k x) → Heap.SameBut T s.heap h' → Q () { s with heap := h' }) : wpAny (model prog w) A (updateSeq T (·.setIfInBounds k x)) Q E s := by
  have h8 := small8
  refine wpAny_updateSeq hT rfl (h _ ?_ (Heap.SameBut.update ..)) (hz := by omega) (_hz' := by simp; omega)
  show Heap.get? _ _ = _
  rw [Heap.get?_update_self _ hT rfl]
  simp [Obj.mapSeq]
theorem ne3 {l : List Addr} {a b : Addr} (ha : a ∉ l) (hb : b ∈ l) : a ≠ b := fun e => ha (e ▸ hb)
/-! ### two -/
theorem zip2_item {z TI TO i1 i2 a1 a2 : Addr} {b1 b2 : Bool} {k : Nat} {xs ys ts : Array Value} {x y : Value} {Q : Value → Shared → Prop}
    (nd : [z, TI, TO, i1, i2].Nodup) (n1 : a1 ∉ [z, TO, i1, i2]) (n2 : a2 ∉ [z, TO, i1, i2])
    (hz : IsZip s.heap z TI TO .none) (hTI : IsTupAt s.heap TI #[.ref i1, .ref i2]) (hTO : IsTupAt s.heap TO ts) (hts : ts.size = 2)
    (h1 : Sit s.heap b1 i1 a1 k) (h2 : Sit s.heap b2 i2 a2 k) (hl1 : Ssq s.heap b1 a1 xs) (hl2 : Ssq s.heap b2 a2 ys) (hx : xs[k]? = some x) (hy : ys[k]? = some y)
    (hQ : ∀ h', IsZip h' z TI TO (rawInt s.heap.objs.size) → IsTupAt h' TO #[x, y] → Sit h' b1 i1 a1 (k + 1) → Sit h' b2 i2 a2 (k + 1) → IsTupAt h' s.heap.objs.size #[x, y] → h'.objs.size = s.heap.objs.size + 1 →
      (∀ c o, c ∉ [z, TO, i1, i2] → s.heap.get? c = some o → h'.get? c = some o) → Q (.ref s.heap.objs.size) { s with heap := h' }) :
    wpAny (model prog w) A (Builtin.«zip.__next__» ⟨[.ref z], []⟩) (fun fin s' => ∃ v, fin = .done (.ret v) ∧ Q v s') E s := by
  simp only [List.nodup_cons, List.mem_cons, List.not_mem_nil, or_false, not_or, List.nodup_nil, and_true, not_false_eq_true] at nd
  obtain ⟨⟨zTI, zTO, zi1, zi2⟩, ⟨TITO, TIi1, TIi2⟩, ⟨TOi1, TOi2⟩, i12⟩ := nd
  simp only [List.mem_cons, List.not_mem_nil, or_false, not_or] at n1 n2
  obtain ⟨a1z, a1T, a1i, a1j⟩ := n1
  obtain ⟨a2z, a2T, a2i, a2j⟩ := n2
  show wpAny _ _ (field (.ref z) 2 >>= _) _ _ _
  refine wpAny_bind (wpAny_field hz rfl (x := .bool false) rfl ?_)
  show wpAny _ _ (field (.ref z) 3 >>= _) _ _ _
  refine wpAny_bind (wpAny_field hz rfl (x := .ref TI) rfl ?_)
  refine wpAny_bind (wpAny_seqItems hTI rfl ?_)
  show wpAny _ _ (Builtin.SmallTypes.ownedTupleIsFree (.ref z) >>= _) _ _ _
  refine wpAny_bind ?_
  unfold Builtin.SmallTypes.ownedTupleIsFree
  refine wpAny_bind (wpAny_field hz rfl (x := .none) rfl (wpAny_pure ?_))
  simp only [if_true]
  refine wpAny_bind (wpAny_rule ?_)
  refine wpAny_bind (wpAny_field hz rfl (x := .ref TO) rfl ?_)
  refine wpAny_bind (wpAny_setField_rec hz (by simp) fun h₁ hz₁ hs₁ => ?_)
  replace hz₁ : IsZip h₁ z TI TO .ellipsis := hz₁
  refine wpAny_bind ?_
  simp only [List.zipIdx_cons, List.zipIdx_nil, List.forIn_cons, List.forIn_nil]
  refine wpAny_bind (wpAny_bind (wpAny_onRaise ?_))
  show wpAny _ _ (Builtin.SmallTypes.nextOf (.ref i1) >>= _) _ _ _
  refine wpAny_bind (nextS_item (h1.at fun o e => hs₁.extBut _ _ (Ne.symm zi1) e) (hl1.at fun o e => hs₁.extBut _ _ a1z e) hx fun h₂ h1₂ hs₂ => wpAny_pure ?_)
  have hTO₂ : IsTupAt h₂ TO ts := hs₂.extBut _ _ TOi1 (hs₁.extBut _ _ (Ne.symm zTO) hTO)
  refine wpAny_bind (wpAny_seqItems hTO₂ rfl ?_)
  refine wpAny_bind (updateSeq_tup hTO₂ (by omega) fun h₃ hTO₃ hs₃ => ?_)
  refine wpAny_bind (wpAny_letGo (wpAny_pure ?_))
  refine wpAny_bind (wpAny_bind (wpAny_onRaise ?_))
  show wpAny _ _ (Builtin.SmallTypes.nextOf (.ref i2) >>= _) _ _ _
  refine wpAny_bind (nextS_item (h2.at fun o e => hs₃.extBut _ _ (Ne.symm TOi2) (hs₂.extBut _ _ (Ne.symm i12) (hs₁.extBut _ _ (Ne.symm zi2) e)))
    (hl2.at fun o e => hs₃.extBut _ _ a2T (hs₂.extBut _ _ a2i (hs₁.extBut _ _ a2z e))) hy fun h₄ h2₄ hs₄ => wpAny_pure ?_)
  have hTO₄ := hs₄.extBut _ _ TOi2 hTO₃
  refine wpAny_bind (wpAny_seqItems hTO₄ rfl ?_)
  refine wpAny_bind (updateSeq_tup hTO₄ (by simp; omega) fun h₅ hTO₅ hs₅ => ?_)
  refine wpAny_bind (wpAny_letGo (wpAny_pure (wpAny_pure ?_)))
  have ets : ((ts.setIfInBounds 0 x).setIfInBounds 1 y) = #[x, y] := by
    match ts, hts with
    | ⟨[p, q]⟩, _ => rfl
  replace hTO₅ : IsTupAt h₅ TO #[x, y] := by rw [← ets]; exact hTO₅
  refine wpAny_bind (wpAny_seqItems hTO₅ rfl ?_)
  refine wpAny_bind (wpAny_newTuple ?_)
  have hsz : h₅.objs.size = s.heap.objs.size := by rw [hs₅.1, hs₄.1, hs₃.1, hs₂.1, hs₁.1]
  have hz₅ : IsZip h₅ z TI TO .ellipsis := hs₅.extBut _ _ zTO (hs₄.extBut _ _ zi2 (hs₃.extBut _ _ zTO (hs₂.extBut _ _ zi1 hz₁)))
  have hk₅ : ∀ c o, c ∉ [z, TO, i1, i2] → s.heap.get? c = some o → h₅.get? c = some o := fun c o hc e =>
    hs₅.extBut _ _ (ne3 hc (by simp)) (hs₄.extBut _ _ (ne3 hc (by simp)) (hs₃.extBut _ _ (ne3 hc (by simp)) (hs₂.extBut _ _ (ne3 hc (by simp)) (hs₁.extBut _ _ (ne3 hc (by simp)) e))))
  have h1₅ : Sit h₅ b1 i1 a1 (k + 1) := h1₂.at fun o e => hs₅.extBut _ _ (Ne.symm TOi1) (hs₄.extBut _ _ i12 (hs₃.extBut _ _ (Ne.symm TOi1) e))
  have h2₅ : Sit h₅ b2 i2 a2 (k + 1) := h2₄.at fun o e => hs₅.extBut _ _ (Ne.symm TOi2) e
  have hzlt : z < h₅.objs.size := Heap.lt_size hz₅
  have hTOlt : TO < h₅.objs.size := Heap.lt_size hTO₅
  show wpAny _ _ (Builtin.SmallTypes.ownedTupleHandOut (.ref z) (.ref h₅.objs.size) >>= _) _ _ _
  refine wpAny_bind ?_
  unfold Builtin.SmallTypes.ownedTupleHandOut
  have hz₆ : IsZip (h₅.push { cls := .type "tuple", data := .seq #[x, y] }) z TI TO .ellipsis := Heap.get?_push_of_some _ hz₅
  refine wpAny_bind (wpAny_setField_rec hz₆ (by simp) fun h₇ hz₇ hs₇ => ?_)
  replace hz₇ : IsZip h₇ z TI TO (rawInt h₅.objs.size) := hz₇
  refine wpAny_setField_rec hz₇ (by simp) fun h₈ hz₈ hs₈ => ?_
  replace hz₈ : IsZip h₈ z TI TO (rawInt h₅.objs.size) := hz₈
  have up : ∀ c o, c ≠ z → h₅.get? c = some o → h₈.get? c = some o := fun c o c1 e => hs₈.extBut _ _ c1 (hs₇.extBut _ _ c1 (Heap.get?_push_of_some _ e))
  have hT₈ : IsTupAt h₈ h₅.objs.size #[x, y] := hs₈.extBut _ _ (Nat.ne_of_gt hzlt) (hs₇.extBut _ _ (Nat.ne_of_gt hzlt) (Heap.get?_push_size _ rfl))
  have hz8 : h₈.objs.size = h₅.objs.size + 1 := by rw [hs₈.1, hs₇.1, Heap.size_push]
  rw [hsz] at hz₈ hT₈ hz8
  refine wpAny_pure ⟨_, rfl, ?_⟩
  show Q (.ref h₅.objs.size) _
  rw [hsz]
  exact hQ h₈ hz₈ (up _ _ (Ne.symm zTO) hTO₅) (h1₅.at fun o e => up _ o (Ne.symm zi1) e) (h2₅.at fun o e => up _ o (Ne.symm zi2) e) hT₈ hz8 fun c o hc e => up c o (ne3 hc (by simp)) (hk₅ c o hc e)
theorem zip2_end {z TI TO i1 i2 a1 a2 : Addr} {b1 b2 : Bool} {k : Nat} {xs ys ts : Array Value} {Q : PySem.Fin → Shared → Prop} (hh : A.handled = none)
    (nd : [z, TI, TO, i1, i2].Nodup) (n1 : a1 ∉ [z, TO, i1, i2]) (n2 : a2 ∉ [z, TO, i1, i2])
    (hz : IsZip s.heap z TI TO .none) (hTI : IsTupAt s.heap TI #[.ref i1, .ref i2]) (hTO : IsTupAt s.heap TO ts) (hts : ts.size = 2)
    (h1 : Sit s.heap b1 i1 a1 k) (h2 : Sit s.heap b2 i2 a2 k) (hl1 : Ssq s.heap b1 a1 xs) (hl2 : Ssq s.heap b2 a2 ys) (hend : xs[k]? = none ∨ ys[k]? = none)
    (hE : ∀ h' e, (∀ c o, c ∉ [z, TO, i1, i2] → s.heap.get? c = some o → h'.get? c = some o) → (∃ o, h'.get? e = some o ∧ o.cls = .type "StopIteration") → E (.ref e) { s with heap := h' }) :
    wpAny (model prog w) A (Builtin.«zip.__next__» ⟨[.ref z], []⟩) Q E s := by
  simp only [List.nodup_cons, List.mem_cons, List.not_mem_nil, or_false, not_or, List.nodup_nil, and_true, not_false_eq_true] at nd
  obtain ⟨⟨zTI, zTO, zi1, zi2⟩, ⟨TITO, TIi1, TIi2⟩, ⟨TOi1, TOi2⟩, i12⟩ := nd
  simp only [List.mem_cons, List.not_mem_nil, or_false, not_or] at n1 n2
  obtain ⟨a1z, a1T, a1i, a1j⟩ := n1
  obtain ⟨a2z, a2T, a2i, a2j⟩ := n2
  show wpAny _ _ (field (.ref z) 2 >>= _) _ _ _
  refine wpAny_bind (wpAny_field hz rfl (x := .bool false) rfl ?_)
  show wpAny _ _ (field (.ref z) 3 >>= _) _ _ _
  refine wpAny_bind (wpAny_field hz rfl (x := .ref TI) rfl ?_)
  refine wpAny_bind (wpAny_seqItems hTI rfl ?_)
  show wpAny _ _ (Builtin.SmallTypes.ownedTupleIsFree (.ref z) >>= _) _ _ _
  refine wpAny_bind ?_
  unfold Builtin.SmallTypes.ownedTupleIsFree
  refine wpAny_bind (wpAny_field hz rfl (x := .none) rfl (wpAny_pure ?_))
  simp only [if_true]
  refine wpAny_bind (wpAny_rule ?_)
  refine wpAny_bind (wpAny_field hz rfl (x := .ref TO) rfl ?_)
  refine wpAny_bind (wpAny_setField_rec hz (by simp) fun h₁ hz₁ hs₁ => ?_)
  replace hz₁ : IsZip h₁ z TI TO .ellipsis := hz₁
  refine wpAny_bind ?_
  simp only [List.zipIdx_cons, List.zipIdx_nil, List.forIn_cons, List.forIn_nil]
  refine wpAny_bind (wpAny_bind (wpAny_onRaise ?_))
  show wpAny _ _ (Builtin.SmallTypes.nextOf (.ref i1) >>= _) _ _ _
  have hi1 := h1.at (h' := h₁) fun o e => hs₁.extBut _ _ (Ne.symm zi1) e
  have hL1 := hl1.at (h' := h₁) fun o e => hs₁.extBut _ _ a1z e
  cases hx : xs[k]? with
  | none =>
    refine wpAny_bind (nextS_end hh hi1 hL1 hx fun h₂ e hs₂ he => ?_)
    obtain ⟨oe, hoe, hce⟩ := he
    have hz₂ : IsZip h₂ z TI TO .ellipsis := hs₂ _ _ zi1 hz₁
    have hez : e ≠ z := fun x => by subst x; rw [hz₂] at hoe; cases hoe; simp at hce
    refine wpAny_setField_rec hz₂ (by simp) fun h₃ _ hs₃ => hE h₃ e (fun c o hc x => hs₃.extBut _ _ (ne3 hc (by simp)) (hs₂ _ _ (ne3 hc (by simp)) (hs₁.extBut _ _ (ne3 hc (by simp)) x))) ⟨oe, hs₃.extBut _ _ hez hoe, hce⟩
  | some x =>
    have hy : ys[k]? = none := by rcases hend with h | h; rw [hx] at h; cases h; exact h
    refine wpAny_bind (nextS_item hi1 hL1 hx fun h₂ h1₂ hs₂ => wpAny_pure ?_)
    have hTO₂ : IsTupAt h₂ TO ts := hs₂.extBut _ _ TOi1 (hs₁.extBut _ _ (Ne.symm zTO) hTO)
    refine wpAny_bind (wpAny_seqItems hTO₂ rfl ?_)
    refine wpAny_bind (updateSeq_tup hTO₂ (by omega) fun h₃ hTO₃ hs₃ => ?_)
    refine wpAny_bind (wpAny_letGo (wpAny_pure ?_))
    refine wpAny_bind (wpAny_bind (wpAny_onRaise ?_))
    show wpAny _ _ (Builtin.SmallTypes.nextOf (.ref i2) >>= _) _ _ _
    refine wpAny_bind (nextS_end hh (h2.at fun o e => hs₃.extBut _ _ (Ne.symm TOi2) (hs₂.extBut _ _ (Ne.symm i12) (hs₁.extBut _ _ (Ne.symm zi2) e)))
      (hl2.at fun o e => hs₃.extBut _ _ a2T (hs₂.extBut _ _ a2i (hs₁.extBut _ _ a2z e))) hy fun h₄ e hs₄ he => ?_)
    obtain ⟨oe, hoe, hce⟩ := he
    have hz₄ : IsZip h₄ z TI TO .ellipsis := hs₄ _ _ zi2 (hs₃.extBut _ _ zTO (hs₂.extBut _ _ zi1 hz₁))
    have hez : e ≠ z := fun x => by subst x; rw [hz₄] at hoe; cases hoe; simp at hce
    refine wpAny_setField_rec hz₄ (by simp) fun h₅ _ hs₅ => hE h₅ e (fun c o hc x => hs₅.extBut _ _ (ne3 hc (by simp)) (hs₄ _ _ (ne3 hc (by simp)) (hs₃.extBut _ _ (ne3 hc (by simp)) (hs₂.extBut _ _ (ne3 hc (by simp)) (hs₁.extBut _ _ (ne3 hc (by simp)) x))))) ⟨oe, hs₅.extBut _ _ hez hoe, hce⟩
/-! ### three -/
theorem zip3_item {z TI TO i1 i2 i3 a1 a2 a3 : Addr} {b1 b2 b3 : Bool} {k : Nat} {xs ys us ts : Array Value} {x y u : Value} {Q : Value → Shared → Prop}
    (nd : [z, TI, TO, i1, i2, i3].Nodup) (n1 : a1 ∉ [z, TO, i1, i2, i3]) (n2 : a2 ∉ [z, TO, i1, i2, i3]) (n3 : a3 ∉ [z, TO, i1, i2, i3])
    (hz : IsZip s.heap z TI TO .none) (hTI : IsTupAt s.heap TI #[.ref i1, .ref i2, .ref i3]) (hTO : IsTupAt s.heap TO ts) (hts : ts.size = 3)
    (h1 : Sit s.heap b1 i1 a1 k) (h2 : Sit s.heap b2 i2 a2 k) (h3 : Sit s.heap b3 i3 a3 k) (hl1 : Ssq s.heap b1 a1 xs) (hl2 : Ssq s.heap b2 a2 ys) (hl3 : Ssq s.heap b3 a3 us)
    (hx : xs[k]? = some x) (hy : ys[k]? = some y) (hu : us[k]? = some u)
    (hQ : ∀ h', IsZip h' z TI TO (rawInt s.heap.objs.size) → IsTupAt h' TO #[x, y, u] → Sit h' b1 i1 a1 (k + 1) → Sit h' b2 i2 a2 (k + 1) → Sit h' b3 i3 a3 (k + 1) → IsTupAt h' s.heap.objs.size #[x, y, u] → h'.objs.size = s.heap.objs.size + 1 →
      (∀ c o, c ∉ [z, TO, i1, i2, i3] → s.heap.get? c = some o → h'.get? c = some o) → Q (.ref s.heap.objs.size) { s with heap := h' }) :
    wpAny (model prog w) A (Builtin.«zip.__next__» ⟨[.ref z], []⟩) (fun fin s' => ∃ v, fin = .done (.ret v) ∧ Q v s') E s := by
  simp only [List.nodup_cons, List.mem_cons, List.not_mem_nil, or_false, not_or, List.nodup_nil, and_true, not_false_eq_true] at nd
  obtain ⟨⟨zTI, zTO, zi1, zi2, zi3⟩, ⟨TITO, TIi1, TIi2, TIi3⟩, ⟨TOi1, TOi2, TOi3⟩, ⟨i12, i13⟩, i23⟩ := nd
  simp only [List.mem_cons, List.not_mem_nil, or_false, not_or] at n1 n2 n3
  obtain ⟨a1z, a1T, a1i, a1j, a1k⟩ := n1
  obtain ⟨a2z, a2T, a2i, a2j, a2k⟩ := n2
  obtain ⟨a3z, a3T, a3i, a3j, a3k⟩ := n3
  show wpAny _ _ (field (.ref z) 2 >>= _) _ _ _
  refine wpAny_bind (wpAny_field hz rfl (x := .bool false) rfl ?_)
  show wpAny _ _ (field (.ref z) 3 >>= _) _ _ _
  refine wpAny_bind (wpAny_field hz rfl (x := .ref TI) rfl ?_)
  refine wpAny_bind (wpAny_seqItems hTI rfl ?_)
  show wpAny _ _ (Builtin.SmallTypes.ownedTupleIsFree (.ref z) >>= _) _ _ _
  refine wpAny_bind ?_
  unfold Builtin.SmallTypes.ownedTupleIsFree
  refine wpAny_bind (wpAny_field hz rfl (x := .none) rfl (wpAny_pure ?_))
  simp only [if_true]
  refine wpAny_bind (wpAny_rule ?_)
  refine wpAny_bind (wpAny_field hz rfl (x := .ref TO) rfl ?_)
  refine wpAny_bind (wpAny_setField_rec hz (by simp) fun h₁ hz₁ hs₁ => ?_)
  replace hz₁ : IsZip h₁ z TI TO .ellipsis := hz₁
  refine wpAny_bind ?_
  simp only [List.zipIdx_cons, List.zipIdx_nil, List.forIn_cons, List.forIn_nil]
  refine wpAny_bind (wpAny_bind (wpAny_onRaise ?_))
  show wpAny _ _ (Builtin.SmallTypes.nextOf (.ref i1) >>= _) _ _ _
  refine wpAny_bind (nextS_item (h1.at fun o e => hs₁.extBut _ _ (Ne.symm zi1) e) (hl1.at fun o e => hs₁.extBut _ _ a1z e) hx fun h₂ h1₂ hs₂ => wpAny_pure ?_)
  have hTO₂ : IsTupAt h₂ TO ts := hs₂.extBut _ _ TOi1 (hs₁.extBut _ _ (Ne.symm zTO) hTO)
  refine wpAny_bind (wpAny_seqItems hTO₂ rfl ?_)
  refine wpAny_bind (updateSeq_tup hTO₂ (by omega) fun h₃ hTO₃ hs₃ => ?_)
  refine wpAny_bind (wpAny_letGo (wpAny_pure ?_))
  refine wpAny_bind (wpAny_bind (wpAny_onRaise ?_))
  show wpAny _ _ (Builtin.SmallTypes.nextOf (.ref i2) >>= _) _ _ _
  refine wpAny_bind (nextS_item (h2.at fun o e => hs₃.extBut _ _ (Ne.symm TOi2) (hs₂.extBut _ _ (Ne.symm i12) (hs₁.extBut _ _ (Ne.symm zi2) e)))
    (hl2.at fun o e => hs₃.extBut _ _ a2T (hs₂.extBut _ _ a2i (hs₁.extBut _ _ a2z e))) hy fun h₄ h2₄ hs₄ => wpAny_pure ?_)
  have hTO₄ := hs₄.extBut _ _ TOi2 hTO₃
  refine wpAny_bind (wpAny_seqItems hTO₄ rfl ?_)
  refine wpAny_bind (updateSeq_tup hTO₄ (by simp; omega) fun h₅ hTO₅ hs₅ => ?_)
  refine wpAny_bind (wpAny_letGo (wpAny_pure ?_))
  refine wpAny_bind (wpAny_bind (wpAny_onRaise ?_))
  show wpAny _ _ (Builtin.SmallTypes.nextOf (.ref i3) >>= _) _ _ _
  refine wpAny_bind (nextS_item (h3.at fun o e => hs₅.extBut _ _ (Ne.symm TOi3) (hs₄.extBut _ _ (Ne.symm i23) (hs₃.extBut _ _ (Ne.symm TOi3) (hs₂.extBut _ _ (Ne.symm i13) (hs₁.extBut _ _ (Ne.symm zi3) e)))))
    (hl3.at fun o e => hs₅.extBut _ _ a3T (hs₄.extBut _ _ a3j (hs₃.extBut _ _ a3T (hs₂.extBut _ _ a3i (hs₁.extBut _ _ a3z e))))) hu fun h₆ h3₆ hs₆ => wpAny_pure ?_)
  have hTO₆ := hs₆.extBut _ _ TOi3 hTO₅
  refine wpAny_bind (wpAny_seqItems hTO₆ rfl ?_)
  refine wpAny_bind (updateSeq_tup hTO₆ (by simp; omega) fun h₇ hTO₇ hs₇ => ?_)
  refine wpAny_bind (wpAny_letGo (wpAny_pure (wpAny_pure ?_)))
  have ets : (((ts.setIfInBounds 0 x).setIfInBounds 1 y).setIfInBounds 2 u) = #[x, y, u] := by
    match ts, hts with
    | ⟨[p, q, r]⟩, _ => rfl
  replace hTO₇ : IsTupAt h₇ TO #[x, y, u] := by rw [← ets]; exact hTO₇
  refine wpAny_bind (wpAny_seqItems hTO₇ rfl ?_)
  refine wpAny_bind (wpAny_newTuple ?_)
  have hsz : h₇.objs.size = s.heap.objs.size := by rw [hs₇.1, hs₆.1, hs₅.1, hs₄.1, hs₃.1, hs₂.1, hs₁.1]
  have hz₅ : IsZip h₇ z TI TO .ellipsis := hs₇.extBut _ _ zTO (hs₆.extBut _ _ zi3 (hs₅.extBut _ _ zTO (hs₄.extBut _ _ zi2 (hs₃.extBut _ _ zTO (hs₂.extBut _ _ zi1 hz₁)))))
  have hk₅ : ∀ c o, c ∉ [z, TO, i1, i2, i3] → s.heap.get? c = some o → h₇.get? c = some o := fun c o hc e =>
    hs₇.extBut _ _ (ne3 hc (by simp)) (hs₆.extBut _ _ (ne3 hc (by simp)) (hs₅.extBut _ _ (ne3 hc (by simp)) (hs₄.extBut _ _ (ne3 hc (by simp)) (hs₃.extBut _ _ (ne3 hc (by simp)) (hs₂.extBut _ _ (ne3 hc (by simp)) (hs₁.extBut _ _ (ne3 hc (by simp)) e))))))
  have h1₅ : Sit h₇ b1 i1 a1 (k + 1) := h1₂.at fun o e => hs₇.extBut _ _ (Ne.symm TOi1) (hs₆.extBut _ _ i13 (hs₅.extBut _ _ (Ne.symm TOi1) (hs₄.extBut _ _ i12 (hs₃.extBut _ _ (Ne.symm TOi1) e))))
  have h2₅ : Sit h₇ b2 i2 a2 (k + 1) := h2₄.at fun o e => hs₇.extBut _ _ (Ne.symm TOi2) (hs₆.extBut _ _ i23 (hs₅.extBut _ _ (Ne.symm TOi2) e))
  have h3₅ : Sit h₇ b3 i3 a3 (k + 1) := h3₆.at fun o e => hs₇.extBut _ _ (Ne.symm TOi3) e
  have hzlt : z < h₇.objs.size := Heap.lt_size hz₅
  have hTOlt : TO < h₇.objs.size := Heap.lt_size hTO₇
  show wpAny _ _ (Builtin.SmallTypes.ownedTupleHandOut (.ref z) (.ref h₇.objs.size) >>= _) _ _ _
  refine wpAny_bind ?_
  unfold Builtin.SmallTypes.ownedTupleHandOut
  have hz₆ : IsZip (h₇.push { cls := .type "tuple", data := .seq #[x, y, u] }) z TI TO .ellipsis := Heap.get?_push_of_some _ hz₅
  refine wpAny_bind (wpAny_setField_rec hz₆ (by simp) fun h₈ hz₈ hs₈ => ?_)
  replace hz₈ : IsZip h₈ z TI TO (rawInt h₇.objs.size) := hz₈
  refine wpAny_setField_rec hz₈ (by simp) fun h₉ hz₉ hs₉ => ?_
  replace hz₉ : IsZip h₉ z TI TO (rawInt h₇.objs.size) := hz₉
  have up : ∀ c o, c ≠ z → h₇.get? c = some o → h₉.get? c = some o := fun c o c1 e => hs₉.extBut _ _ c1 (hs₈.extBut _ _ c1 (Heap.get?_push_of_some _ e))
  have hT₈ : IsTupAt h₉ h₇.objs.size #[x, y, u] := hs₉.extBut _ _ (Nat.ne_of_gt hzlt) (hs₈.extBut _ _ (Nat.ne_of_gt hzlt) (Heap.get?_push_size _ rfl))
  have hz8 : h₉.objs.size = h₇.objs.size + 1 := by rw [hs₉.1, hs₈.1, Heap.size_push]
  rw [hsz] at hz₉ hT₈ hz8
  refine wpAny_pure ⟨_, rfl, ?_⟩
  show Q (.ref h₇.objs.size) _
  rw [hsz]
  exact hQ h₉ hz₉ (up _ _ (Ne.symm zTO) hTO₇) (h1₅.at fun o e => up _ o (Ne.symm zi1) e) (h2₅.at fun o e => up _ o (Ne.symm zi2) e) (h3₅.at fun o e => up _ o (Ne.symm zi3) e) hT₈ hz8 fun c o hc e => up c o (ne3 hc (by simp)) (hk₅ c o hc e)
theorem zip3_end {z TI TO i1 i2 i3 a1 a2 a3 : Addr} {b1 b2 b3 : Bool} {k : Nat} {xs ys us ts : Array Value} {Q : PySem.Fin → Shared → Prop} (hh : A.handled = none)
    (nd : [z, TI, TO, i1, i2, i3].Nodup) (n1 : a1 ∉ [z, TO, i1, i2, i3]) (n2 : a2 ∉ [z, TO, i1, i2, i3]) (n3 : a3 ∉ [z, TO, i1, i2, i3])
    (hz : IsZip s.heap z TI TO .none) (hTI : IsTupAt s.heap TI #[.ref i1, .ref i2, .ref i3]) (hTO : IsTupAt s.heap TO ts) (hts : ts.size = 3)
    (h1 : Sit s.heap b1 i1 a1 k) (h2 : Sit s.heap b2 i2 a2 k) (h3 : Sit s.heap b3 i3 a3 k) (hl1 : Ssq s.heap b1 a1 xs) (hl2 : Ssq s.heap b2 a2 ys) (hl3 : Ssq s.heap b3 a3 us)
    (hend : xs[k]? = none ∨ ys[k]? = none ∨ us[k]? = none)
    (hE : ∀ h' e, (∀ c o, c ∉ [z, TO, i1, i2, i3] → s.heap.get? c = some o → h'.get? c = some o) → (∃ o, h'.get? e = some o ∧ o.cls = .type "StopIteration") → E (.ref e) { s with heap := h' }) :
    wpAny (model prog w) A (Builtin.«zip.__next__» ⟨[.ref z], []⟩) Q E s := by
  simp only [List.nodup_cons, List.mem_cons, List.not_mem_nil, or_false, not_or, List.nodup_nil, and_true, not_false_eq_true] at nd
  obtain ⟨⟨zTI, zTO, zi1, zi2, zi3⟩, ⟨TITO, TIi1, TIi2, TIi3⟩, ⟨TOi1, TOi2, TOi3⟩, ⟨i12, i13⟩, i23⟩ := nd
  simp only [List.mem_cons, List.not_mem_nil, or_false, not_or] at n1 n2 n3
  obtain ⟨a1z, a1T, a1i, a1j, a1k⟩ := n1
  obtain ⟨a2z, a2T, a2i, a2j, a2k⟩ := n2
  obtain ⟨a3z, a3T, a3i, a3j, a3k⟩ := n3
  show wpAny _ _ (field (.ref z) 2 >>= _) _ _ _
  refine wpAny_bind (wpAny_field hz rfl (x := .bool false) rfl ?_)
  show wpAny _ _ (field (.ref z) 3 >>= _) _ _ _
  refine wpAny_bind (wpAny_field hz rfl (x := .ref TI) rfl ?_)
  refine wpAny_bind (wpAny_seqItems hTI rfl ?_)
  show wpAny _ _ (Builtin.SmallTypes.ownedTupleIsFree (.ref z) >>= _) _ _ _
  refine wpAny_bind ?_
  unfold Builtin.SmallTypes.ownedTupleIsFree
  refine wpAny_bind (wpAny_field hz rfl (x := .none) rfl (wpAny_pure ?_))
  simp only [if_true]
  refine wpAny_bind (wpAny_rule ?_)
  refine wpAny_bind (wpAny_field hz rfl (x := .ref TO) rfl ?_)
  refine wpAny_bind (wpAny_setField_rec hz (by simp) fun h₁ hz₁ hs₁ => ?_)
  replace hz₁ : IsZip h₁ z TI TO .ellipsis := hz₁
  refine wpAny_bind ?_
  simp only [List.zipIdx_cons, List.zipIdx_nil, List.forIn_cons, List.forIn_nil]
  refine wpAny_bind (wpAny_bind (wpAny_onRaise ?_))
  show wpAny _ _ (Builtin.SmallTypes.nextOf (.ref i1) >>= _) _ _ _
  have hi1 := h1.at (h' := h₁) fun o e => hs₁.extBut _ _ (Ne.symm zi1) e
  have hL1 := hl1.at (h' := h₁) fun o e => hs₁.extBut _ _ a1z e
  cases hx : xs[k]? with
  | none =>
    refine wpAny_bind (nextS_end hh hi1 hL1 hx fun h₂ e hs₂ he => ?_)
    obtain ⟨oe, hoe, hce⟩ := he
    have hz₂ : IsZip h₂ z TI TO .ellipsis := hs₂ _ _ zi1 hz₁
    have hez : e ≠ z := fun x => by subst x; rw [hz₂] at hoe; cases hoe; simp at hce
    refine wpAny_setField_rec hz₂ (by simp) fun h₃ _ hs₃ => hE h₃ e (fun c o hc x => hs₃.extBut _ _ (ne3 hc (by simp)) (hs₂ _ _ (ne3 hc (by simp)) (hs₁.extBut _ _ (ne3 hc (by simp)) x))) ⟨oe, hs₃.extBut _ _ hez hoe, hce⟩
  | some x =>
    have hyu : ys[k]? = none ∨ us[k]? = none := by rcases hend with h | h; rw [hx] at h; cases h; exact h
    refine wpAny_bind (nextS_item hi1 hL1 hx fun h₂ h1₂ hs₂ => wpAny_pure ?_)
    have hTO₂ : IsTupAt h₂ TO ts := hs₂.extBut _ _ TOi1 (hs₁.extBut _ _ (Ne.symm zTO) hTO)
    refine wpAny_bind (wpAny_seqItems hTO₂ rfl ?_)
    refine wpAny_bind (updateSeq_tup hTO₂ (by omega) fun h₃ hTO₃ hs₃ => ?_)
    refine wpAny_bind (wpAny_letGo (wpAny_pure ?_))
    refine wpAny_bind (wpAny_bind (wpAny_onRaise ?_))
    show wpAny _ _ (Builtin.SmallTypes.nextOf (.ref i2) >>= _) _ _ _
    have hi2 := h2.at (h' := h₃) fun o e => hs₃.extBut _ _ (Ne.symm TOi2) (hs₂.extBut _ _ (Ne.symm i12) (hs₁.extBut _ _ (Ne.symm zi2) e))
    have hL2 := hl2.at (h' := h₃) fun o e => hs₃.extBut _ _ a2T (hs₂.extBut _ _ a2i (hs₁.extBut _ _ a2z e))
    cases hy : ys[k]? with
    | none =>
      refine wpAny_bind (nextS_end hh hi2 hL2 hy fun h₄ e hs₄ he => ?_)
      obtain ⟨oe, hoe, hce⟩ := he
      have hz₄ : IsZip h₄ z TI TO .ellipsis := hs₄ _ _ zi2 (hs₃.extBut _ _ zTO (hs₂.extBut _ _ zi1 hz₁))
      have hez : e ≠ z := fun x => by subst x; rw [hz₄] at hoe; cases hoe; simp at hce
      refine wpAny_setField_rec hz₄ (by simp) fun h₅ _ hs₅ => hE h₅ e (fun c o hc x => hs₅.extBut _ _ (ne3 hc (by simp)) (hs₄ _ _ (ne3 hc (by simp)) (hs₃.extBut _ _ (ne3 hc (by simp)) (hs₂.extBut _ _ (ne3 hc (by simp)) (hs₁.extBut _ _ (ne3 hc (by simp)) x))))) ⟨oe, hs₅.extBut _ _ hez hoe, hce⟩
    | some y =>
      have hu : us[k]? = none := by rcases hyu with h | h; rw [hy] at h; cases h; exact h
      refine wpAny_bind (nextS_item hi2 hL2 hy fun h₄ h2₄ hs₄ => wpAny_pure ?_)
      have hTO₄ := hs₄.extBut _ _ TOi2 hTO₃
      refine wpAny_bind (wpAny_seqItems hTO₄ rfl ?_)
      refine wpAny_bind (updateSeq_tup hTO₄ (by simp; omega) fun h₅ hTO₅ hs₅ => ?_)
      refine wpAny_bind (wpAny_letGo (wpAny_pure ?_))
      refine wpAny_bind (wpAny_bind (wpAny_onRaise ?_))
      show wpAny _ _ (Builtin.SmallTypes.nextOf (.ref i3) >>= _) _ _ _
      refine wpAny_bind (nextS_end hh (h3.at fun o e => hs₅.extBut _ _ (Ne.symm TOi3) (hs₄.extBut _ _ (Ne.symm i23) (hs₃.extBut _ _ (Ne.symm TOi3) (hs₂.extBut _ _ (Ne.symm i13) (hs₁.extBut _ _ (Ne.symm zi3) e)))))
        (hl3.at fun o e => hs₅.extBut _ _ a3T (hs₄.extBut _ _ a3j (hs₃.extBut _ _ a3T (hs₂.extBut _ _ a3i (hs₁.extBut _ _ a3z e))))) hu fun h₆ e hs₆ he => ?_)
      obtain ⟨oe, hoe, hce⟩ := he
      have hz₆ : IsZip h₆ z TI TO .ellipsis := hs₆ _ _ zi3 (hs₅.extBut _ _ zTO (hs₄.extBut _ _ zi2 (hs₃.extBut _ _ zTO (hs₂.extBut _ _ zi1 hz₁))))
      have hez : e ≠ z := fun x => by subst x; rw [hz₆] at hoe; cases hoe; simp at hce
      refine wpAny_setField_rec hz₆ (by simp) fun h₇ _ hs₇ => hE h₇ e (fun c o hc x => hs₇.extBut _ _ (ne3 hc (by simp)) (hs₆ _ _ (ne3 hc (by simp)) (hs₅.extBut _ _ (ne3 hc (by simp)) (hs₄.extBut _ _ (ne3 hc (by simp)) (hs₃.extBut _ _ (ne3 hc (by simp)) (hs₂.extBut _ _ (ne3 hc (by simp)) (hs₁.extBut _ _ (ne3 hc (by simp)) x))))))) ⟨oe, hs₇.extBut _ _ hez hoe, hce⟩
/-! ### the protocol's next -/
theorem pyNext_zip {z TI TO : Addr} {f0 : Value} {Q : Option Value → Shared → Prop} (hz : IsZip s.heap z TI TO f0)
    (h : wpAny (model prog w) A.in1 (Builtin.«zip.__next__» ⟨[.ref z], []⟩) (fun fin s' => ∃ v, fin = .done (.ret v) ∧ Q (some v) s') (fun e s' => ∃ a o, e = .ref a ∧ s'.heap.get? a = some o ∧ o.cls = .type "StopIteration" ∧ Q none s') s) :
    wpAny (model prog w) A (pyNext (.ref z)) Q E s := by
  have hT : s.TypeIs (.ref z) "zip" := ⟨_, hz, rfl⟩
  unfold pyNext
  refine wpAny_bind (wpAny_attempt (wpAny_callSpecial?_slot (name := Str.ofString "__next__") hT F.slot_zip_next
    (wpAny_call_entry F.slot_zip_next hT F.entry_zip_next (wpAny_mono h (fun fin s' hv => ?_) fun e s' he => ?_) (F.args_zip_next_1 _))))
  · obtain ⟨v, rfl, q⟩ := hv
    exact ⟨v, rfl, wpAny_pure q⟩
  · obtain ⟨a, o, rfl, ho, hc, q⟩ := he
    refine wpAny_bind (wpAny_isInstance (T := "StopIteration") (b := true) ⟨o, ho, hc⟩ isSubtype_stop ?_)
    exact wpAny_pure q
/-! ### zip(..) -/
def itObj (b : Bool) (a : Addr) : Obj := { cls := .type (match b with | true => "tuple_iterator" | false => "list_iterator"), data := .fields #[.ref a, .int 0 0] }
theorem pyIterS {b : Bool} {a : Addr} {xs : Array Value} {Q : Value → Shared → Prop} (h : Ssq s.heap b a xs) (hQ : Q (.ref s.heap.objs.size) { s with heap := s.heap.push (itObj b a) }) : wpAny (model prog w) A (pyIter (.ref a)) Q E s := by
  cases b with
  | true => exact wpAny_pyIter_tuple h hQ
  | false => exact wpAny_pyIter_list h hQ
theorem Sit.new {h : Heap} (b : Bool) (a : Addr) : Sit (h.push (itObj b a)) b h.objs.size a 0 := by
  cases b with
  | true => exact ⟨_, Heap.get?_push_size _ rfl, rfl, rfl⟩
  | false => exact ⟨_, Heap.get?_push_size _ rfl, rfl, rfl⟩
end
theorem meets_zip2 (b1 b2 : Bool) (a1 a2 : Addr) (xs ys : Array Value) :
    Meets (Builtin.«zip.__new__» ⟨[.type "zip", .ref a1, .ref a2], []⟩) (fun _ R s => Ssq s.heap b1 a1 xs ∧ Ssq s.heap b2 a2 ys ∧
      ∀ h', IsTupAt h' (s.heap.objs.size + 2) #[.ref s.heap.objs.size, .ref (s.heap.objs.size + 1)] → IsTupAt h' (s.heap.objs.size + 3) #[.none, .none] → IsZip h' (s.heap.objs.size + 4) (s.heap.objs.size + 2) (s.heap.objs.size + 3) .none →
        Sit h' b1 s.heap.objs.size a1 0 → Sit h' b2 (s.heap.objs.size + 1) a2 0 →
        (∀ c o, s.heap.get? c = some o → h'.get? c = some o) → h'.objs.size = s.heap.objs.size + 5 → R (.ok (.ret (.ref (s.heap.objs.size + 4)))) { s with heap := h' }) :=
  .of_wp fun prog w A R s h => by
    obtain ⟨hp, g, d, tk, os⟩ := s; obtain ⟨hl1, hl2, h⟩ := h
    have hsub := sub_zip
    have hL1 : Ssq (Shared.heap ⟨hp, g, d, tk, os⟩) b1 a1 xs := hl1
    have hL2 : Ssq (Shared.heap ⟨hp.push (itObj b1 a1), g, d, tk, os⟩) b2 a2 ys := Ssq.at (h' := hp.push (itObj b1 a1)) hl2 fun o e => Heap.get?_push_of_some _ e
    wp_walk using pyIterS hL1, pyIterS hL2
    refine ⟨_, rfl, ?_⟩
    dsimp only at h ⊢
    generalize e1 : hp.push (itObj b1 a1) = h1
    generalize e2 : h1.push (itObj b2 a2) = h2
    generalize e3 : h2.push _ = h3
    generalize e4 : h3.push _ = h4
    generalize e5 : h4.push _ = h5
    have z1 : h1.objs.size = hp.objs.size + 1 := e1 ▸ Heap.size_push ..
    have z2 : h2.objs.size = hp.objs.size + 2 := by rw [← e2, Heap.size_push, z1]
    have z3 : h3.objs.size = hp.objs.size + 3 := by rw [← e3, Heap.size_push, z2]
    have z4 : h4.objs.size = hp.objs.size + 4 := by rw [← e4, Heap.size_push, z3]
    have z5 : h5.objs.size = hp.objs.size + 5 := by rw [← e5, Heap.size_push, z4]
    have k5 : ∀ c o, h4.get? c = some o → h5.get? c = some o := fun c o e => e5 ▸ Heap.get?_push_of_some _ e
    have k4 : ∀ c o, h3.get? c = some o → h5.get? c = some o := fun c o e => k5 c o (e4 ▸ Heap.get?_push_of_some _ e)
    have k3 : ∀ c o, h2.get? c = some o → h5.get? c = some o := fun c o e => k4 c o (e3 ▸ Heap.get?_push_of_some _ e)
    have k2 : ∀ c o, h1.get? c = some o → h5.get? c = some o := fun c o e => k3 c o (e2 ▸ Heap.get?_push_of_some _ e)
    have g3 := Heap.get?_push_size h2 (o := { cls := .type "tuple", data := .seq #[.ref hp.objs.size, .ref h1.objs.size] }) rfl
    have g4 := Heap.get?_push_size h3 (o := { cls := .type "tuple", data := .seq #[.none, .none] }) rfl
    have g5 := Heap.get?_push_size h4 (o := { cls := .type "zip", data := .fields #[.none, .bool false, .bool false, .ref h2.objs.size, .ref h3.objs.size] }) rfl
    have q3 : h3.get? h2.objs.size = _ := (congrArg (fun h => h.get? h2.objs.size) e3).symm.trans g3
    have q4 : h4.get? h3.objs.size = _ := (congrArg (fun h => h.get? h3.objs.size) e4).symm.trans g4
    have q5 : h5.get? h4.objs.size = _ := (congrArg (fun h => h.get? h4.objs.size) e5).symm.trans g5
    rw [z1, z2] at q3
    rw [z3] at q4
    rw [z2, z3, z4] at q5
    rw [z4]
    refine h h5 (k4 _ _ q3) (k5 _ _ q4) q5 (Sit.at (Sit.new (h := hp) b1 a1) fun o e => k2 _ _ (e1 ▸ e)) ?_ (fun c o e => k2 _ _ (e1 ▸ Heap.get?_push_of_some _ e)) z5
    rw [← z1]
    exact Sit.at (Sit.new (h := h1) b2 a2) fun o e => k3 _ _ (e2 ▸ e)
theorem meets_zip3 (b1 b2 b3 : Bool) (a1 a2 a3 : Addr) (xs ys us : Array Value) :
    Meets (Builtin.«zip.__new__» ⟨[.type "zip", .ref a1, .ref a2, .ref a3], []⟩) (fun _ R s => Ssq s.heap b1 a1 xs ∧ Ssq s.heap b2 a2 ys ∧ Ssq s.heap b3 a3 us ∧
      ∀ h', IsTupAt h' (s.heap.objs.size + 3) #[.ref s.heap.objs.size, .ref (s.heap.objs.size + 1), .ref (s.heap.objs.size + 2)] → IsTupAt h' (s.heap.objs.size + 4) #[.none, .none, .none] →
        IsZip h' (s.heap.objs.size + 5) (s.heap.objs.size + 3) (s.heap.objs.size + 4) .none →
        Sit h' b1 s.heap.objs.size a1 0 → Sit h' b2 (s.heap.objs.size + 1) a2 0 → Sit h' b3 (s.heap.objs.size + 2) a3 0 →
        (∀ c o, s.heap.get? c = some o → h'.get? c = some o) → h'.objs.size = s.heap.objs.size + 6 → R (.ok (.ret (.ref (s.heap.objs.size + 5)))) { s with heap := h' }) :=
  .of_wp fun prog w A R s h => by
    obtain ⟨hp, g, d, tk, os⟩ := s; obtain ⟨hl1, hl2, hl3, h⟩ := h
    have hsub := sub_zip
    have hL1 : Ssq (Shared.heap ⟨hp, g, d, tk, os⟩) b1 a1 xs := hl1
    have hL2 : Ssq (Shared.heap ⟨hp.push (itObj b1 a1), g, d, tk, os⟩) b2 a2 ys := Ssq.at (h' := hp.push (itObj b1 a1)) hl2 fun o e => Heap.get?_push_of_some _ e
    have hL3 : Ssq (Shared.heap ⟨(hp.push (itObj b1 a1)).push (itObj b2 a2), g, d, tk, os⟩) b3 a3 us := Ssq.at (h' := (hp.push (itObj b1 a1)).push (itObj b2 a2)) hl3 fun o e => Heap.get?_push_of_some _ (Heap.get?_push_of_some _ e)
    wp_walk using pyIterS hL1, pyIterS hL2, pyIterS hL3
    refine ⟨_, rfl, ?_⟩
    dsimp only at h ⊢
    generalize e1 : hp.push (itObj b1 a1) = h1
    generalize e2 : h1.push (itObj b2 a2) = h2
    generalize e2b : h2.push (itObj b3 a3) = h2b
    generalize e3 : h2b.push _ = h3
    generalize e4 : h3.push _ = h4
    generalize e5 : h4.push _ = h5
    have z1 : h1.objs.size = hp.objs.size + 1 := e1 ▸ Heap.size_push ..
    have z2 : h2.objs.size = hp.objs.size + 2 := by rw [← e2, Heap.size_push, z1]
    have z2b : h2b.objs.size = hp.objs.size + 3 := by rw [← e2b, Heap.size_push, z2]
    have z3 : h3.objs.size = hp.objs.size + 4 := by rw [← e3, Heap.size_push, z2b]
    have z4 : h4.objs.size = hp.objs.size + 5 := by rw [← e4, Heap.size_push, z3]
    have z5 : h5.objs.size = hp.objs.size + 6 := by rw [← e5, Heap.size_push, z4]
    have k5 : ∀ c o, h4.get? c = some o → h5.get? c = some o := fun c o e => e5 ▸ Heap.get?_push_of_some _ e
    have k4 : ∀ c o, h3.get? c = some o → h5.get? c = some o := fun c o e => k5 c o (e4 ▸ Heap.get?_push_of_some _ e)
    have k3 : ∀ c o, h2b.get? c = some o → h5.get? c = some o := fun c o e => k4 c o (e3 ▸ Heap.get?_push_of_some _ e)
    have k2b : ∀ c o, h2.get? c = some o → h5.get? c = some o := fun c o e => k3 c o (e2b ▸ Heap.get?_push_of_some _ e)
    have k2 : ∀ c o, h1.get? c = some o → h5.get? c = some o := fun c o e => k2b c o (e2 ▸ Heap.get?_push_of_some _ e)
    have g3 := Heap.get?_push_size h2b (o := { cls := .type "tuple", data := .seq #[.ref hp.objs.size, .ref h1.objs.size, .ref h2.objs.size] }) rfl
    have g4 := Heap.get?_push_size h3 (o := { cls := .type "tuple", data := .seq #[.none, .none, .none] }) rfl
    have g5 := Heap.get?_push_size h4 (o := { cls := .type "zip", data := .fields #[.none, .bool false, .bool false, .ref h2b.objs.size, .ref h3.objs.size] }) rfl
    have q3 : h3.get? h2b.objs.size = _ := (congrArg (fun h => h.get? h2b.objs.size) e3).symm.trans g3
    have q4 : h4.get? h3.objs.size = _ := (congrArg (fun h => h.get? h3.objs.size) e4).symm.trans g4
    have q5 : h5.get? h4.objs.size = _ := (congrArg (fun h => h.get? h4.objs.size) e5).symm.trans g5
    rw [z1, z2, z2b] at q3
    rw [z3] at q4
    rw [z2b, z3, z4] at q5
    rw [z4]
    refine h h5 (k4 _ _ q3) (k5 _ _ q4) q5 (Sit.at (Sit.new (h := hp) b1 a1) fun o e => k2 _ _ (e1 ▸ e)) ?_ ?_ (fun c o e => k2 _ _ (e1 ▸ Heap.get?_push_of_some _ e)) z5
    · rw [← z1]
      exact Sit.at (Sit.new (h := h1) b2 a2) fun o e => k2b _ _ (e2 ▸ e)
    · rw [← z2]
      exact Sit.at (Sit.new (h := h2) b3 a3) fun o e => k3 _ _ (e2b ▸ e)
theorem typeCall_zip_3 (a b c : Value) : checkTypeCall "zip" ⟨[a, b, c], []⟩ = pure () := by kernel_rfl
theorem newCall_zip_3 (a b c : Value) : checkBuiltinCall "zip.__new__" ⟨[.type "zip", a, b, c], []⟩ = pure () := by kernel_rfl
theorem args_object_init_4 (a b c d : Value) : argsOk "object.__init__" ⟨[a, b, c, d], []⟩ := by
  unfold argsOk; rw [signature?_of (id := "object.__init__") (n := ['_', '_', 't', 'i', 'n', 'i', '_', '_']) (o := ['t', 'c', 'e', 'j', 'b', 'o']) (by kernel_rfl) F.owner_object]; kernel_rfl
section
variable {prog : Program} {w : World} {A : Around} {E : Value → Shared → Prop} {s : Shared}
theorem call_zip2S {b1 b2 : Bool} {a1 a2 : Addr} {xs ys : Array Value} {Q : Value → Shared → Prop} (hl1 : Ssq s.heap b1 a1 xs) (hl2 : Ssq s.heap b2 a2 ys)
    (h : ∀ h', IsTupAt h' (s.heap.objs.size + 2) #[.ref s.heap.objs.size, .ref (s.heap.objs.size + 1)] → IsTupAt h' (s.heap.objs.size + 3) #[.none, .none] → IsZip h' (s.heap.objs.size + 4) (s.heap.objs.size + 2) (s.heap.objs.size + 3) .none →
        Sit h' b1 s.heap.objs.size a1 0 → Sit h' b2 (s.heap.objs.size + 1) a2 0 →
        (∀ c o, s.heap.get? c = some o → h'.get? c = some o) → h'.objs.size = s.heap.objs.size + 5 → Q (.ref (s.heap.objs.size + 4)) { s with heap := h' }) :
    wpAny (model prog w) A (call (.type "zip") [.ref a1, .ref a2]) Q E s := by
  refine callType_new F.called_zip (by decide) (F.typeCall_zip_2 _ _) (F.newCall_zip_2 _ _) (fun obj => F.args_object_init_3 obj _ _) F.entry_zip_new
    (meets_zip2 b1 b2 a1 a2 xs ys) ⟨hl1, hl2, fun h' x1 x2 x3 x4 x5 x6 x7 => ?_⟩
  exact ⟨⟨_, x3, rfl⟩, h h' x1 x2 x3 x4 x5 x6 x7⟩
theorem call_zip3S {b1 b2 b3 : Bool} {a1 a2 a3 : Addr} {xs ys us : Array Value} {Q : Value → Shared → Prop} (hl1 : Ssq s.heap b1 a1 xs) (hl2 : Ssq s.heap b2 a2 ys) (hl3 : Ssq s.heap b3 a3 us)
    (h : ∀ h', IsTupAt h' (s.heap.objs.size + 3) #[.ref s.heap.objs.size, .ref (s.heap.objs.size + 1), .ref (s.heap.objs.size + 2)] → IsTupAt h' (s.heap.objs.size + 4) #[.none, .none, .none] →
        IsZip h' (s.heap.objs.size + 5) (s.heap.objs.size + 3) (s.heap.objs.size + 4) .none →
        Sit h' b1 s.heap.objs.size a1 0 → Sit h' b2 (s.heap.objs.size + 1) a2 0 → Sit h' b3 (s.heap.objs.size + 2) a3 0 →
        (∀ c o, s.heap.get? c = some o → h'.get? c = some o) → h'.objs.size = s.heap.objs.size + 6 → Q (.ref (s.heap.objs.size + 5)) { s with heap := h' }) :
    wpAny (model prog w) A (call (.type "zip") [.ref a1, .ref a2, .ref a3]) Q E s := by
  refine callType_new F.called_zip (by decide) (typeCall_zip_3 _ _ _) (newCall_zip_3 _ _ _) (fun obj => args_object_init_4 obj _ _ _) F.entry_zip_new
    (meets_zip3 b1 b2 b3 a1 a2 a3 xs ys us) ⟨hl1, hl2, hl3, fun h' x1 x2 x3 x4 x5 x6 x7 x8 => ?_⟩
  exact ⟨⟨_, x3, rfl⟩, h h' x1 x2 x3 x4 x5 x6 x7 x8⟩
end
end CT
set_option Elab.async false
set_option linter.all false
set_option maxRecDepth 100000
/-! (v,) * k -/
namespace CT
open PySem PySem.Builtin
theorem noFill_tuple_mul : fillsNumberSlot (.type "tuple") "mul" = pure false :=
  fillsNumberSlot_seq (id := "tuple.__mul__") (r := some (.builtin "tuple.__rmul__")) F.slot_tuple_mul.lookup (by decide +kernel) F.slot_tuple_rmul.lookup (by decide +kernel)
theorem repeat_tuple : seqRepeat? (.type "tuple") = pure (some (.builtin "tuple.__mul__")) := by
  unfold seqRepeat?
  rw [seqSlot_of (T := "tuple") (name := "__mul__") (id := "tuple.__mul__") F.slot_tuple_mul.lookup (by decide +kernel), seqSlot_of (T := "tuple") (name := "__rmul__") (id := "tuple.__rmul__") F.slot_tuple_rmul.lookup (by decide +kernel)]
  rfl
theorem rmul_int_tuple (a : Int) (t : Tok) (l : Addr) (d : Option Addr) (its : Array Value) (n : Nat) (sl : Array (Option Value)) :
    Meets (Builtin.«int.__rmul__» ⟨[.int a t, .ref l], []⟩) (fun _ R s => s.heap.get? l = some { cls := .type "tuple", dict := d, data := .seq its n, slots := sl } ∧ R (.ok (.ret Value.notImplemented)) s) :=
  .of_wp fun prog w A R s h => by obtain ⟨hp, g, d, tk, os⟩ := s; obtain ⟨hl, h⟩ := h; wp_walk; exact ⟨_, rfl, h⟩
theorem mul_one_tuple (l : Addr) (d : Option Addr) (v : Value) (n : Nat) (sl : Array (Option Value)) (k : Int) (u : Tok) (h0 : 0 ≤ k) (h1 : k < 2 ^ 20) :
    Meets (Builtin.«tuple.__mul__» ⟨[.ref l, .int k u], []⟩) (fun _ R s => s.heap.get? l = some { cls := .type "tuple", dict := d, data := .seq #[v] n, slots := sl } ∧
      if k = 1 then R (.ok (.ret (.ref l))) s else R (.ok (.ret (.ref s.heap.objs.size))) { s with heap := s.heap.push { cls := .type "tuple", data := .seq (List.replicate k.toNat v).toArray } }) :=
  .of_wp fun prog w A R s h => by
    obtain ⟨hp, g, dd, tk, os⟩ := s; obtain ⟨hl, h⟩ := h
    wp_walk
    refine wpAny_ite_false (by simp; omega) ?_
    wp_walk
    by_cases k1 : k = 1
    · subst k1
      rw [if_pos rfl] at h
      wp_walk
      exact ⟨_, rfl, h⟩
    · rw [if_neg k1] at h
      by_cases k0 : k = 0
      · subst k0
        wp_walk
        exact ⟨_, rfl, h⟩
      · have e : List.foldl (fun x1 x2 => x1 ++ x2) #[] (List.replicate k.toNat #[v]) = (List.replicate k.toNat v).toArray := by
          have f : ∀ (m : Nat) (acc : List Value), List.foldl (fun x1 x2 => x1 ++ x2) acc.toArray (List.replicate m #[v]) = (acc ++ List.replicate m v).toArray := by
            intro m
            induction m with
            | zero => intro acc; simp
            | succ m ih =>
              intro acc
              rw [List.replicate_succ, List.foldl_cons, show acc.toArray ++ #[v] = (acc ++ [v]).toArray by simp, ih, List.replicate_succ]
              simp
          have := f k.toNat []
          rw [List.nil_append] at this
          exact this
        wp_walk
        refine wpAny_ite_false (by simp; omega) ?_
        refine wpAny_ite_false (by simp; omega) ?_
        refine wpAny_ite_false (by simp [Tuple.tupleTooMany, sizeLine]; omega) ?_
        rw [e]
        wp_walk
        refine wpAny_ite_false (by simp [sizeLine]; omega) ?_
        wp_walk
        exact ⟨_, rfl, h⟩
end CT
set_option Elab.async false
set_option linter.all false
set_option maxRecDepth 100000
/-! a list comprehension in the hand layer: one clause or several, tests, own cells, captured names -/
namespace CT
open PySem PySem.Spec L2
open PyProof.Rows hiding St
/-- the block's environment; n0: the heap's size when the iterator had come -/
def cEnv (X : Cx) (scope : Scope) (n0 : Nat) : Env :=
  { scope := relabel scope X.env, locals := n0 + 1, globals := X.env.globals, cells := cellsFrom (n0 + 2) scope.names (clOf X.env scope.names []), qual := X.env.qual, func := none, code := X.env.code, frame := X.env.frame, builtins := X.env.builtins }
/-- what the scope must be. own: the block's names; cap: the captured ones with their slots outside -/
structure CS (X : Cx) (scope : Scope) (own : List Str) (cap : List (Str × Nat)) : Prop where
  kind : scope.kind = .function
  nd : (scope.names.map (·.1)).Nodup
  fr : ∀ x ∈ scope.names, x.2 = .free → X.env.kindOf x.1 = some .cell ∨ X.env.kindOf x.1 = some .free
  own_ : ∀ x ∈ own, (x, NameKind.local) ∈ scope.names ∨ (x, NameKind.cell) ∈ scope.names
  cap_ : ∀ p ∈ cap, X.N[p.2]? = some p.1 ∧ (p.1, NameKind.free) ∈ scope.names
  nN : (own ++ cap.map (·.1)).Nodup
/-- the context of the block -/
def cX (X : Cx) (scope : Scope) (own : List Str) (cap : List (Str × Nat)) (pins : List (Addr × Obj)) (s₂ : Shared) (H₂ : Hp) (fp : List Addr) : Cx :=
  { prog := X.prog, w := X.w, K := X.K, mg := X.mg, base := X.base, A := X.A, N := own ++ cap.map (·.1), s₀ := s₂, H₀ := H₂, env := cEnv X scope s₂.heap.objs.size, outer := X.stack, stack := X.stack, ex := fp,
    fn := fun x => decide (x ∈ own), calm := X.calm, pn := X.pn ++ pins, xe := fun _ _ => False }
/-- the slots at the start -/
def cS (own : List Str) (cap : List (Str × Nat)) (σ : St) : St := own.map (fun _ => none) ++ cap.map fun p => (σ[p.2]?).join
section
variable {X : Cx} {scope : Scope} {own : List Str} {cap : List (Str × Nat)} {pins : List (Addr × Obj)} {σ : St} {H : Hp} {s : Shared} {fp : List Addr}
theorem CS.lk (cs : CS X scope own cap) {x : Str} {k : NameKind} (h : (x, k) ∈ scope.names) : scope.names.lookup x = some k := lookup_of_mem cs.nd h
theorem CS.uniq (cs : CS X scope own cap) {x : Str} {k k' : NameKind} (h : (x, k) ∈ scope.names) (h' : (x, k') ∈ scope.names) : k = k' := Option.some.inj ((cs.lk h).symm.trans (cs.lk h'))
theorem cEnv_lookup {n0 : Nat} {x : Str} : (cEnv X scope n0).scope.names.lookup x = (scope.names.lookup x).map (kin X.env x) := relabel_lookup
theorem cEnv_kindOf {n0 : Nat} {x : Str} : (cEnv X scope n0).kindOf x = (scope.names.lookup x).map (kin X.env x) := relabel_lookup
theorem cellsFrom_ge {x : Str} {c : Addr} : ∀ {names : List (Str × NameKind)} {n : Nat} {acc : List (Str × Addr)}, (x, c) ∈ cellsFrom n names acc → (x, c) ∈ acc ∨ n ≤ c
  | [], _, _, h => .inl h
  | (m, k) :: r, n, acc, h => by
    unfold cellsFrom at h
    split at h
    · rcases cellsFrom_ge h with h | h
      · rcases List.mem_cons.mp h with e | h
        · cases e; exact .inr (Nat.le_refl _)
        · exact .inl h
      · exact .inr (Nat.le_of_succ_le h)
    · exact cellsFrom_ge h
theorem CS.has_ (cs : CS X scope own cap) (ok : X.Ok) : ∀ x ∈ scope.names, x.2 = .free → ∃ c, X.env.cells.lookup x.1 = some c := fun x hx e => ok.has x.1 (cs.fr x hx e)
/-- the block's cells -/
theorem CS.cell_cases (cs : CS X scope own cap) (ok : X.Ok) {n0 : Nat} {x : Str} {c : Addr} (h : (cEnv X scope n0).cells.lookup x = some c) :
    ((x, NameKind.cell) ∈ scope.names ∧ n0 + 2 ≤ c ∧ (x, c) ∈ cellsFrom (n0 + 2) scope.names []) ∨ ((x, NameKind.free) ∈ scope.names ∧ X.env.cells.lookup x = some c) := by
  have hm : (x, c) ∈ cellsFrom (n0 + 2) scope.names (clOf X.env scope.names []) := mem_of_lookup h
  rw [cellsFrom_app] at hm
  rcases List.mem_append.mp hm with hm | hm
  · refine .inl ⟨?_, ?_, hm⟩
    · rcases cellsFrom_mem hm with z | z
      · cases z
      · exact z
    · rcases cellsFrom_ge hm with z | z
      · cases z
      · exact z
  · rcases clOf_mem (cs.has_ ok) hm with z | ⟨z1, z2⟩
    · cases z
    · exact .inr ⟨z2, z1⟩
theorem CS.cap_cell (cs : CS X scope own cap) (ok : X.Ok) {n0 : Nat} {x : Str} {c : Addr} (hx : (x, NameKind.free) ∈ scope.names) (hc : X.env.cells.lookup x = some c) : (cEnv X scope n0).cells.lookup x = some c := by
  have hm : (x, c) ∈ cellsFrom (n0 + 2) scope.names (clOf X.env scope.names []) := by
    rw [cellsFrom_app]
    exact List.mem_append_right _ (clOf_has hc hx)
  obtain ⟨u, hu⟩ := some_of_mem hm
  have hu' : (cEnv X scope n0).cells.lookup x = some u := hu
  rcases cs.cell_cases ok hu' with ⟨z, _⟩ | ⟨_, z⟩
  · cases cs.uniq hx z
  · rw [hc] at z; cases z; exact hu'
theorem CS.own_cell (cs : CS X scope own cap) {n0 : Nat} {x : Str} (hx : (x, NameKind.cell) ∈ scope.names) : ∃ c, (cEnv X scope n0).cells.lookup x = some c := by
  obtain ⟨c, hc⟩ := cellsFrom_has (n := n0 + 2) (acc := clOf X.env scope.names []) hx
  exact some_of_mem hc
theorem cX_ok (I : Inv X pins σ H s) (cs : CS X scope own cap) (hf : ∀ b ∈ fp, FpOk X pins H b) (hlt : ∀ b ∈ fp, b < s.heap.objs.size) : (cX X scope own cap pins s H fp).Ok where
  mod := I.ok.mod
  kind := cs.kind
  glob := I.ok.glob
  blt := I.ok.blt
  above := Nat.le_succ _
  inj := fun x y c h1 h2 => by
    rcases cs.cell_cases I.ok h1 with ⟨a1, a2, a3⟩ | ⟨a1, a2⟩ <;> rcases cs.cell_cases I.ok h2 with ⟨b1, b2, b3⟩ | ⟨b1, b2⟩
    · have k := cellsFrom_ok scope.names ((s.heap.push { cls := .type "list", data := .seq #[] 0 }).push { cls := .type "list", data := .seq #[] 0 }) 0 [] ⟨fun _ _ hm => (nomatch hm), List.Pairwise.nil⟩ (Nat.zero_le _)
      rw [Heap.size_push, Heap.size_push] at k
      exact name_of_addr k.apart a3 b3
    · obtain ⟨v, hv⟩ := I.cell y c b2
      exact absurd (Nat.lt_of_lt_of_le hv.lt (Nat.le_trans (Nat.le_add_right _ 2) a2)) (Nat.lt_irrefl _)
    · obtain ⟨v, hv⟩ := I.cell x c a2
      exact absurd (Nat.lt_of_lt_of_le hv.lt (Nat.le_trans (Nat.le_add_right _ 2) b2)) (Nat.lt_irrefl _)
    · exact I.ok.inj x y c a2 b2
  has := fun x hx => by
    have e : (cEnv X scope s.heap.objs.size).kindOf x = (scope.names.lookup x).map (kin X.env x) := cEnv_kindOf
    have hx' : (scope.names.lookup x).map (kin X.env x) = some .cell ∨ (scope.names.lookup x).map (kin X.env x) = some .free := by rw [← e]; exact hx
    cases hk : scope.names.lookup x with
    | none => rw [hk] at hx'; rcases hx' with z | z <;> cases z
    | some k =>
      rw [hk] at hx'
      have hm := mem_of_lookup hk
      by_cases hfree : k = .free
      · subst hfree
        obtain ⟨c, hc⟩ := cs.has_ I.ok _ hm rfl
        exact ⟨c, cs.cap_cell I.ok hm hc⟩
      · have hkk : kin X.env x k = k := by
          unfold kin
          rw [if_neg]
          intro z
          have : (k == NameKind.free) = false := by simpa using hfree
          rw [this] at z; cases z
        have hk' : k = .cell := by
          rcases hx' with z | z
          · have z' : some (kin X.env x k) = some NameKind.cell := z
            rw [hkk] at z'; exact Option.some.inj z'
          · have z' : some (kin X.env x k) = some NameKind.free := z
            rw [hkk] at z'; exact absurd (Option.some.inj z') hfree
        subst hk'
        exact cs.own_cell hm
  cab := fun x c hx hc => by
    have hx' : x ∈ own := of_decide_eq_true hx
    rcases cs.cell_cases I.ok hc with ⟨_, a, _⟩ | ⟨a, _⟩
    · exact Nat.le_trans (Nat.le_add_right _ 2) a
    · rcases cs.own_ x hx' with z | z <;> cases cs.uniq a z
  hd := I.ok.hd
  frames := I.ok.frames
  stk := .inl rfl
  exf := fun b hb => ⟨Nat.ne_of_lt (Nat.lt_succ_of_lt (hlt b hb)), fun x c hc => by
    rcases cs.cell_cases I.ok hc with ⟨_, a, _⟩ | ⟨_, a⟩
    · exact Nat.ne_of_gt (Nat.lt_of_lt_of_le (hlt b hb) (Nat.le_trans (Nat.le_add_right _ 2) a))
    · exact (hf b hb).2.2.2.2.1 x c a⟩
  bs := fun b o e => I.bs b o e
  bsz := Nat.le_trans I.ok.bsz I.sz
  noex := fun b o e hb => by
    rcases (hf b hb).2.2.2.1 with z | z
    · exact I.ok.noex b o e z
    · exact absurd (Nat.lt_of_lt_of_le (Heap.lt_size e) (Nat.le_trans I.ok.bsz z)) (Nat.lt_irrefl _)
  exfs := fun b hb z => by
    rcases List.mem_cons.mp (I.stkSub b z) with z | z
    · exact (hf b hb).2.1 z
    · exact (hf b hb).2.2.1 z
  funs := I.stack
  frf := I.stkFree
theorem kin_free {env : Env} {x : Str} (h : env.kindOf x = some .cell ∨ env.kindOf x = some .free) : kin env x .free = .cell ∨ kin env x .free = .free := by
  unfold kin; split
  · exact .inl rfl
  · exact .inr rfl
/-- the block begins -/
theorem cX_start (I : Inv X pins σ H s) (cs : CS X scope own cap) (hf : ∀ b ∈ fp, FpOk X pins H b) (hlt : ∀ b ∈ fp, b < s.heap.objs.size) {o : Obj} (hof : o.isFreed = false) :
    Inv (cX X scope own cap pins s H fp) [] (cS own cap σ) H { s with heap := pushCells ((s.heap.push o).push { cls := .type "dict", data := .dict #[] }) scope.names } := by
  have kp : ∀ b u, s.heap.get? b = some u → (pushCells ((s.heap.push o).push { cls := .type "dict", data := .dict #[] }) scope.names).get? b = some u := fun b u e => pushCells_keeps _ _ b u (Heap.get?_push_of_some _ (Heap.get?_push_of_some _ e))
  have ck := cellsFrom_ok scope.names ((s.heap.push o).push { cls := .type "dict", data := .dict #[] }) 0 [] ⟨fun _ _ hm => (nomatch hm), List.Pairwise.nil⟩ (Nat.zero_le _)
  rw [Heap.size_push, Heap.size_push] at ck
  refine ⟨cX_ok I cs hf hlt, rfl, I.bare, Un.kept kp, ?_, ?_, I.hok.fresh (Nat.le_succ _), ?_, ?_, I.hok.kept kp, ?_⟩
  · refine ⟨fun _ => none, ?_, fun i x v e1 e2 e3 => ?_⟩
    · have n := Heap.Ns.new (s.heap.push o) (.type "dict")
      rw [Heap.size_push] at n
      exact n.keeps (pushCells_keeps _ _)
    · have e1' : (own ++ cap.map (·.1))[i]? = some x := e1
      have e2' : (own.map (fun _ => (none : Option V)) ++ cap.map fun p => (σ[p.2]?).join)[i]? = some (some v) := e2
      by_cases hi : i < own.length
      · rw [List.getElem?_append_left (by simpa using hi), List.getElem?_map] at e2'
        cases hq : own[i]? with
        | none => rw [hq] at e2'; cases e2'
        | some y => rw [hq] at e2'; cases e2'
      · have hi' : own.length ≤ i := Nat.le_of_not_lt hi
        rw [List.getElem?_append_right hi', List.getElem?_map] at e1'
        rw [List.getElem?_append_right (by simpa using hi'), List.getElem?_map, List.length_map] at e2'
        cases hq : cap[i - own.length]? with
        | none => rw [hq] at e1'; cases e1'
        | some p =>
          rw [hq] at e1' e2'
          have e1'' : p.1 = x := Option.some.inj e1'
          have e2'' : (σ[p.2]?).join = some v := Option.some.inj e2'
          subst e1''
          have e2s : σ[p.2]? = some (some v) := by
            cases hs : σ[p.2]? with
            | none => rw [hs] at e2''; cases e2''
            | some y => rw [hs] at e2''; rw [show y = some v from e2'']
          obtain ⟨hN, hfree⟩ := cs.cap_ p (List.mem_of_getElem? hq)
          have hkk := cs.fr _ hfree rfl
          have vis : Vis X.env.scope p.1 := hkk.elim (fun z => .inr (.inl z)) fun z => .inr (.inr z)
          obtain ⟨m, hn, hl⟩ := I.loc
          obtain ⟨u, r, l⟩ := hl p.2 p.1 v hN e2s vis
          refine ⟨u, r, .inr ⟨?_, ?_⟩⟩
          · have e : (cEnv X scope s.heap.objs.size).kindOf p.1 = (scope.names.lookup p.1).map (kin X.env p.1) := cEnv_kindOf
            rw [cs.lk hfree] at e
            rcases kin_free hkk with z | z
            · exact .inl (e.trans (congrArg some z))
            · exact .inr (e.trans (congrArg some z))
          · rcases l with ⟨lk, _⟩ | ⟨_, c, hc, hcell⟩
            · rcases hkk with z | z <;> (rw [z] at lk; cases lk)
            · exact ⟨c, cs.cap_cell I.ok hfree hc, hcell.keeps kp⟩
  · intro x c hc
    rcases cs.cell_cases I.ok hc with ⟨_, _, a⟩ | ⟨_, a⟩
    · exact ⟨_, (ck.empty x c a).1⟩
    · obtain ⟨v, hv⟩ := I.cell x c a
      exact ⟨v, hv.keeps kp⟩
  · intro x c hc
    rcases cs.cell_cases I.ok hc with ⟨_, a, _⟩ | ⟨_, a⟩
    · exact I.hok.fresh (Nat.le_trans (Nat.le_add_right _ 2) a)
    · exact I.freeC x c a
  · intro p hp
    have hp' : p ∈ X.pn ++ pins := by simpa [cX] using hp
    obtain ⟨e, n, ne, nf, d⟩ := I.pin p hp'
    refine ⟨kp _ _ e, n, Nat.ne_of_lt (Nat.lt_succ_of_lt (Heap.lt_size e)), fun z => ?_, d⟩
    rcases List.mem_cons.mp (I.stkSub p.1 z) with z | z
    · exact ne z
    · exact nf z
  · simp [cX, cS]
/-! ### what is gathered -/
/-- the list that is built: untracked, ours -/
def Acc (h : Heap) (acc : Addr) (ys : List V) : Prop := ∃ its : List Value, Vals ys its ∧ h.PlainList acc its.toArray
theorem Acc.at {h h' : Heap} {acc : Addr} {ys : List V} (x : Acc h acc ys) (k : ∀ o, h.get? acc = some o → h'.get? acc = some o) : Acc h' acc ys := let ⟨its, r, p⟩ := x; ⟨its, r, p.at k⟩
theorem Acc.obj {h : Heap} {acc : Addr} {ys : List V} (x : Acc h acc ys) : ∃ o, h.get? acc = some o ∧ ∀ v, o.data ≠ .cell v := by
  obtain ⟨its, r, n, e⟩ := x
  exact ⟨_, e, fun v z => by
    have z' : Data.seq _ _ = Data.cell v := z
    cases z'⟩
end
/-- the inside of a turn: from what was gathered to what is gathered then -/
abbrev TB := St → Hp → List V → (List V → Hp → Prop) → Prop
def PB (Y : Cx) (acc : Addr) (m : Sem Unit) (t : TB) : Prop :=
  ∀ (pins : List (Addr × Obj)) (s : Shared) (σ : St) (H : Hp) (ys : List V) (Q : List V → Hp → Prop), Inv Y pins σ H s → FpOk Y pins H acc → Acc s.heap acc ys → t σ H ys Q →
    wpAny (model Y.prog Y.w) Y.A m (fun _ s' => ∃ ys' H', Inv Y pins σ H' s' ∧ H' acc = none ∧ Acc s'.heap acc ys' ∧ Q ys' H') Y.xe s
/-- the tests of a clause -/
def PTs (Y : Cx) (ifs : List Expr) (t : TT) : Prop :=
  ∀ (pins : List (Addr × Obj)) (s : Shared) (σ : St) (H : Hp) (Q : Bool → Hp → Prop), Inv Y pins σ H s → t σ H Q →
    wpAny (model Y.prog Y.w) Y.A (forIn ifs true fun c r => if r = true then do let ok ← isTrue c Y.env (eval c Y.env); pure (ForInStep.yield ok) else pure (ForInStep.yield r)) (TP Y pins σ Q) Y.xe s
def tTrue : TT := fun _ H Q => Q true H
theorem mem1 {P : Addr → Prop} {a : Addr} (h : P a) : ∀ b ∈ [a], P b := fun b hb => by
  have e : b = a := by simpa using hb
  rw [e]; exact h
section
variable {Y : Cx} {acc : Addr}
theorem pts_nil : PTs Y [] tTrue := fun _ _ _ H _ I h => wpAny_pure ⟨H, I, h⟩
def tEmit (te : TE) : TB := fun σ H ys Q => ys.length ≤ sizeLine ∧ te σ H fun v H1 => Q (ys ++ [v]) H1
theorem pb_emit {elt : Expr} {te : TE} (he : PE Y elt te) : PB Y acc (do let _ ← call (.builtin "list.append") [.ref acc, ← eval elt Y.env]) (tEmit te) := by
  intro pins s σ H ys Q I hf ha h
  obtain ⟨hz, h⟩ := h
  have I1 := I.pinned (fp := [acc]) (mem1 hf) (mem1 ha.obj)
  refine wpAny_bind (thn (he _ s σ H _ I1 h) fun u s1 ⟨v, H1, I2, r, q⟩ => ?_)
  obtain ⟨o, eo, _⟩ := ha.obj
  have pin := I2.pin (acc, o) (List.mem_append_right _ (List.mem_append_right _ (mem_pinsAt (by simp) eo)))
  have ha1 : Acc s1.heap acc ys := ha.at fun o' e' => by rw [eo] at e'; cases e'; exact pin.1
  obtain ⟨its, rv, pl⟩ := ha1
  obtain ⟨f0, f1, f2, f3, f4, f5⟩ := hf
  refine wpAny_bind (wpAny_list_append_plain pl (fun h' pl' sb => wpAny_pure ?_) ?_)
  · have I3 : Inv Y pins σ H1 { s1 with heap := h' } := I2.unpinned.turned (t' := s1.toks) (fun b o hb e => (sb.2 b hb).trans e) pin.2.1 f1 f3 f4 f5
    exact ⟨ys ++ [v], H1, I3, pin.2.1, ⟨its ++ [u], rv.append (.cons r .nil), by simpa using pl'⟩, q⟩
  · have := rv.length
    simp only [List.size_toArray]
    omega
/-! ### the loop -/
/-- nothing known is lost -/
def Fgt (σ σ' : St) : Prop := σ.length = σ'.length ∧ ∀ (i : Nat) v, σ[i]? = some (some v) → σ'[i]? = some (some v)
theorem Fgt.refl {σ : St} : Fgt σ σ := ⟨rfl, fun _ _ e => e⟩
theorem Fgt.set {σ σ' : St} {i : Nat} {v : V} (f : Fgt σ σ') (h : σ[i]? = some none) : Fgt σ (σ'.set i (some v)) := ⟨by simpa using f.1, fun j u e => by
  by_cases hj : i = j
  · subst hj; rw [h] at e; cases e
  · rw [List.getElem?_set_ne hj]; exact f.2 j u e⟩
def tLoop (g : TG) (tt : TT) (tb : TB) (J : It) (σ : St) (H : Hp) (ys : List V) (Q : List V → Hp → Prop) : Prop :=
  ∃ W : Nat → Nat → List V → Hp → Prop, (∃ m, W 0 m ys H) ∧ ∀ i m ys H, W i m ys H →
    (J.stop i H ∧ Q ys H) ∨ (J.go i H ∧ ∀ x H', J.yld i H x H' → g x σ H' fun σ2 H2 => Fgt σ σ2 ∧ tt σ2 H2 fun b H3 =>
      if b = true then tb σ2 H3 ys fun ys' H4 => ∃ m', m' < m ∧ W (i + 1) m' ys' H4 else ∃ m', m' < m ∧ W (i + 1) m' ys H3)
/-- the loop of clause d -/
theorem comp_loop {elt : Expr} {gens : List Comprehension} {scope : Scope} {pos : Pos} {d : Nat} {tg iter : Expr} {ifs : List Expr} (hg : gens[d]? = some ⟨tg, iter, ifs, 0⟩) {g : TG} {tt : TT} {tb : TB} (hc : Y.calm = true) (hx : ∀ e s, Y.xe e s → False)
    (h1 : PG Y tg g) (h2 : PTs Y ifs tt) (h3 : PB Y acc (insideOf elt gens scope pos d (.ref acc) Y.env) tb)
    {J : It} {fp : List Addr} {it : Addr} {tn : Nat → Heap → Prop} (T : Turn Y.prog Y.w Y.K tg J fp it tn) (hac : acc ∉ fp)
    {pins : List (Addr × Obj)} {s : Shared} {σ : St} {H : Hp} {ys : List V} {Q : List V → Hp → Prop} {R : Result → Shared → Prop} (I : Inv Y pins σ H s) (st : tn 0 s.heap) (hf : ∀ b ∈ fp, FpOk Y pins H b) (ha : FpOk Y pins H acc) (ac : Acc s.heap acc ys)
    (h : tLoop g tt tb J σ H ys Q) (hR : ∀ s' ys' H', Inv Y pins σ H' s' → H' acc = none → Acc s'.heap acc ys' → Q ys' H' → R (.ok .next) s') :
    codeAny (model Y.prog Y.w) Y.A (.compLoop (.ListComp elt gens scope pos) d (.ref it) (.ref acc) Y.env) R s := by
  obtain ⟨W, ⟨m0, w0⟩, turn⟩ := h
  have stat : ∀ {H' : Hp}, (∀ b ∈ fp, H' b = none) → ∀ b ∈ fp, FpOk Y pins H' b := fun hn b hb => ⟨hn b hb, (hf b hb).2⟩
  have nox : ∀ {E : Value → Shared → Prop} {α : Type} {m : Sem α} {P : α → Shared → Prop} {s : Shared}, wpAny (model Y.prog Y.w) Y.A m P Y.xe s → wpAny (model Y.prog Y.w) Y.A m P E s := fun h => wpAny_mono h (fun _ _ q => q) fun _ _ z => (hx _ _ z).elim
  refine codeAny_loop rfl (fun n s' => ∃ i H' ys', Inv Y pins σ H' s' ∧ tn i s'.heap ∧ (∀ b ∈ fp, H' b = none) ∧ H' acc = none ∧ Acc s'.heap acc ys' ∧ W i n ys' H') ?_ m0 ⟨0, H, ys, I, st, fun b hb => (hf b hb).1, ha.1, ac, w0⟩
  rintro n s3 ⟨i, H3, ys3, I3, st3, fr3, an3, ac3, w3⟩
  show wpAny _ _ ((compTurn (.ListComp elt gens scope pos) d (.ref it) (.ref acc) Y.env).onRaise (fun x => do noteFrame x Y.env; theTreesLotGoes x)) _ _ s3
  refine wpAny_noted ?_
  rw [compTurn_at elt gens scope pos d (.ref it) (.ref acc) Y.env hg]
  refine wpAny_bind (wpAny_standAt (wpAny_bind ?_))
  -- the list that is built is pinned while the iterator turns, the target is set and the tests run
  obtain ⟨oa, ea, da⟩ := ac3.obj
  have fa3 : FpOk Y pins H3 acc := ⟨an3, ha.2⟩
  have J3 : Inv Y (pins ++ pinsAt [acc] s3.heap) σ H3 s3 := I3.pinned (fp := [acc]) (mem1 fa3) (mem1 ac3.obj)
  have inpa : (acc, oa) ∈ pinsAt [acc] s3.heap := mem_pinsAt (by simp) ea
  have stat' : ∀ {H' : Hp}, (∀ b ∈ fp, H' b = none) → ∀ b ∈ fp, FpOk Y (pins ++ pinsAt [acc] s3.heap) H' b := fun hn b hb => by
    obtain ⟨f0, f1, f2, f3, f4, f5⟩ := stat hn b hb
    refine ⟨f0, f1, f2, f3, f4, fun p hp z => ?_⟩
    rw [← List.append_assoc] at hp
    rcases List.mem_append.mp hp with hp | hp
    · exact f5 p hp z
    · have e : p.1 = acc := by simpa using (of_pinsAt hp).1
      exact hac (by rw [← e, z]; exact hb)
  rcases turn i n ys3 H3 w3 with ⟨stop, qn⟩ | ⟨go, step⟩
  · refine thn (T.done Y rfl rfl rfl hc i _ s3 σ H3 _ J3 (stat' fr3) st3 stop) fun r s4 ⟨hr, I4⟩ => ?_
    subst hr
    refine wpAny_pure ?_
    have p4 := I4.pin (acc, oa) (List.mem_append_right _ (List.mem_append_right _ inpa))
    exact hR s4 ys3 H3 I4.unpinned an3 (ac3.at fun o e => by rw [ea] at e; cases e; exact p4.1) qn
  · refine thn (T.item Y rfl rfl rfl hc i _ s3 σ H3 _ J3 (stat' fr3) st3 go) fun r s4 ⟨u, hr, h4⟩ => ?_
    subst hr
    refine wpAny_bind (thn h4 fun _ s5 ⟨x, H5, I5, r5, y5, st5, fr5⟩ => ?_)
    have I5' := I5.pinned (stat' fr5) (T.obj _ _ st5)
    refine wpAny_bind (nox (thn (h1 _ s5 σ H5 x u _ I5' r5 (step x H5 y5)) fun _ s6 ⟨σ6, H6, I6, fg, q6⟩ => ?_))
    refine wpAny_bind (nox (thn (h2 _ s6 σ6 H6 _ I6 q6) fun ok s7 ⟨H7, I7, q7⟩ => ?_))
    have p7 := I7.pin (acc, oa) (List.mem_append_right _ (List.mem_append_left _ (List.mem_append_right _ inpa)))
    have ac7 : Acc s7.heap acc ys3 := ac3.at fun o e => by rw [ea] at e; cases e; exact p7.1
    have I7' : Inv Y (pins ++ pinsAt fp s5.heap) σ6 H7 s7 := I7.pins_of fun p hp => I7.pin p (List.mem_append_right _ ((List.mem_append.mp hp).elim (fun z => List.mem_append_left _ (List.mem_append_left _ z)) fun z => List.mem_append_right _ z))
    have again' : ∀ {s8 : Shared} {H8 : Hp} {ys8 : List V}, Inv Y (pins ++ pinsAt fp s5.heap) σ6 H8 s8 → H8 acc = none → Acc s8.heap acc ys8 → (∃ m', m' < n ∧ W (i + 1) m' ys8 H8) →
        ∃ m, m < n ∧ ∃ i H' ys', Inv Y pins σ H' s8 ∧ tn i s8.heap ∧ (∀ b ∈ fp, H' b = none) ∧ H' acc = none ∧ Acc s8.heap acc ys' ∧ W i m ys' H' := fun {s8 H8 ys8} I8 an8 ac8 ⟨m', hm, w8⟩ => by
      refine ⟨m', hm, i + 1, H8, ys8, I8.unpinned.weak fg.1 fg.2, T.keep _ _ _ st5 fun b hb o e => (I8.pin (b, o) (List.mem_append_right _ (List.mem_append_right _ (mem_pinsAt hb e)))).1, fun b hb => ?_, an8, ac8, w8⟩
      obtain ⟨o, e, _⟩ := T.obj _ _ st5 b hb
      exact (I8.pin (b, o) (List.mem_append_right _ (List.mem_append_right _ (mem_pinsAt hb e)))).2.1
    cases ok with
    | false =>
      rw [if_neg Bool.false_ne_true] at q7 ⊢
      exact wpAny_bind (wpAny_pure (wpAny_pure ⟨rfl, again' I7' p7.2.1 ac7 q7⟩))
    | true =>
      rw [if_pos rfl] at q7 ⊢
      have fa7 : FpOk Y (pins ++ pinsAt fp s5.heap) H7 acc := by
        obtain ⟨_, f1, f2, f3, f4, f5⟩ := ha
        refine ⟨p7.2.1, f1, f2, f3, f4, fun p hp z => ?_⟩
        rw [← List.append_assoc] at hp
        rcases List.mem_append.mp hp with hp | hp
        · exact f5 p hp z
        · exact hac (by rw [← z]; exact (of_pinsAt hp).1)
      exact wpAny_bind (nox (thn (h3 _ s7 σ6 H7 ys3 _ I7' fa7 ac7 q7) fun _ s8 ⟨ys8, H8, I8, an8, ac8, q8⟩ => wpAny_pure ⟨rfl, again' I8 an8 ac8 q8⟩))
end
/-! ### the whole -/
section
variable {X : Cx} {scope : Scope} {own : List Str} {cap : List (Str × Nat)} {pins : List (Addr × Obj)} {σ : St} {H H' : Hp} {s s' : Shared} {fp : List Addr} {acc : Addr} {ys : List V}
/-- behind the block: the list is tracked -/
theorem comp_end {σ' : St} (I : Inv X pins σ H s) (hf : ∀ b ∈ fp, FpOk X pins H b) (I' : Inv (cX X scope own cap pins s H fp) [] σ' H' s') (hacc : s.heap.objs.size ≤ acc) (han : H' acc = none) (hac : Acc s'.heap acc ys) (hz : ys.length ≤ sizeLine) :
    Inv X pins σ (upd H' acc (.lst ys)) s' := by
  have nacc : ∀ b o, s.heap.get? b = some o → b ≠ acc := fun b o e => Nat.ne_of_lt (Nat.lt_of_lt_of_le (Heap.lt_size e) hacc)
  have u : Un (frs X.stack) fp H H' s.heap s'.heap := I'.base
  refine I.call' (ch := fp) I'.os ⟨u.keep, u.slot, fun b o e n hx => ?_, u.there, fun b xs e => ?_, fun b o v e => ?_, fun b ps e => ?_⟩ (fun b o e => ?_) I'.bare fun b hb => ?_
  · rw [upd_ne (nacc b o e)]; exact u.free b o e n hx
  · have := u.tups b xs e
    rw [upd_ne (ne_of_none this han)]; exact this
  · have := u.frzs b o v e
    rw [upd_ne (ne_of_none this han)]; exact this
  · obtain ⟨more, this⟩ := u.tbls b ps e
    exact ⟨more, by rw [upd_ne (ne_of_none this han)]; exact this⟩
  · by_cases hb : b = acc
    · subst hb
      rw [upd_same] at e; cases e
      obtain ⟨its, r, n, pl⟩ := hac
      exact ⟨hz, its, n, r, pl⟩
    · rw [upd_ne hb] at e
      exact (I'.hok b o e).stay (fun _ _ _ q => q) (fun c q => by rw [upd_ne (ne_of_none q han)]; exact q) fun c xs q => by rw [upd_ne (ne_of_none q han)]; exact q
  · obtain ⟨f0, f1, f2, f3, f4, f5⟩ := hf b hb
    exact ⟨f3, f1, f4, f5⟩
/-- the block, from the iterator on; Q: what is wanted of the list behind it -/
theorem comp_core {elt tg iter : Expr} {ifs : List Expr} {rest : List Comprehension} {pos : Pos} {g : TG} {tt : TT} {tb : TB} (cs : CS X scope own cap) (hc : X.calm = true)
    (h1 : ∀ pins s₂ H₂ fp, PG (cX X scope own cap pins s₂ H₂ fp) tg g) (h2 : ∀ pins s₂ H₂ fp, PTs (cX X scope own cap pins s₂ H₂ fp) ifs tt)
    (h3 : ∀ pins s₂ H₂ fp acc, PB (cX X scope own cap pins s₂ H₂ fp) acc (insideOf elt (⟨tg, iter, ifs, 0⟩ :: rest) scope pos 0 (.ref acc) (cEnv X scope s₂.heap.objs.size)) tb)
    {J : It} {it : Addr} {tn : Nat → Heap → Prop} (T : Turn X.prog X.w X.K tg J fp it tn) (I : Inv X pins σ H s) (st : tn 0 s.heap) (hf : ∀ b ∈ fp, FpOk X pins H b)
    {Q : VK} (h : tLoop g tt tb J (cS own cap σ) H [] fun ys H2 => ys.length ≤ sizeLine ∧ ∀ a, H2 a = none → Q (.ref a) (upd H2 a (.lst ys))) {RR : Value → Addr → Result → Shared → Prop} {E : Value → Shared → Prop}
    (hR : ∀ acc C s' H' m, s.heap.objs.size ≤ C → Inv X pins σ H' s' → H' C = none → s'.heap.Ns C m → Q (.ref acc) H' → RR (.ref acc) C (.ok .next) s') :
    wpAny (model X.prog X.w) X.A (newList []) (fun acc s₃ => wpAny (model X.prog X.w) X.A (newFunctionEnv scope X.env.globals (clOf X.env scope.names []) [] X.env.qual none .none (some X.env)) (fun cenv s₄ =>
      codeAny (model X.prog X.w) X.A (.compStart (.ListComp elt (⟨tg, iter, ifs, 0⟩ :: rest) scope pos) 0 (.ref it) acc { cenv with scope := relabel scope X.env }) (RR acc cenv.locals) s₄) E s₃) E s := by
  have hlt : ∀ b ∈ fp, b < s.heap.objs.size := fun b hb => by
    obtain ⟨o, e, _⟩ := T.obj _ _ st b hb
    exact Heap.lt_size e
  refine wpAny_newObj_type (wpAny_compEnv ?_)
  have e1 : (s.heap.push { cls := .type "list", dict := none, data := .seq ([] : List Value).toArray }).objs.size = s.heap.objs.size + 1 := Heap.size_push ..
  have I1 := cX_start I cs hf hlt (o := { cls := .type "list", dict := none, data := .seq ([] : List Value).toArray }) rfl
  have kp : ∀ b u, s.heap.get? b = some u → (pushCells ((s.heap.push { cls := .type "list", dict := none, data := .seq ([] : List Value).toArray }).push { cls := .type "dict", data := .dict #[] }) scope.names).get? b = some u :=
    fun b u e => pushCells_keeps _ _ b u (Heap.get?_push_of_some _ (Heap.get?_push_of_some _ e))
  have st1 := T.keep _ _ _ st fun b _ o e => kp b o e
  have ac1 : Acc (pushCells ((s.heap.push { cls := .type "list", dict := none, data := .seq ([] : List Value).toArray }).push { cls := .type "dict", data := .dict #[] }) scope.names) s.heap.objs.size [] :=
    ⟨[], .nil, _, pushCells_keeps _ _ _ _ (Heap.get?_push_of_some _ (Heap.get?_push_size _ rfl))⟩
  dsimp only
  rw [e1]
  have hac : s.heap.objs.size ∉ fp := fun z => Nat.lt_irrefl _ (hlt _ z)
  have fa : FpOk (cX X scope own cap pins s H fp) [] H s.heap.objs.size := by
    refine ⟨I.hok.fresh (Nat.le_refl _), Nat.ne_of_lt (Nat.lt_succ_self _), fun z => ?_, .inr (Nat.le_refl _), fun x c e z => ?_, fun p hp z => ?_⟩
    · rcases List.mem_cons.mp (I.stkSub _ z) with z | z
      · exact absurd I.lt (by rw [← z]; exact Nat.lt_irrefl _)
      · exact I.nofs (Nat.le_refl _) z
    · rcases cs.cell_cases I.ok e with ⟨_, a, _⟩ | ⟨_, a⟩
      · rw [z] at a; omega
      · obtain ⟨v, q⟩ := I.cell x c a
        exact absurd q.lt (by rw [z]; exact Nat.lt_irrefl _)
    · have hp' : p ∈ X.pn ++ pins := by simpa [cX] using hp
      exact absurd (Heap.lt_size (I.pin p hp').1) (by rw [z]; exact Nat.lt_irrefl _)
  have ff : ∀ b ∈ fp, FpOk (cX X scope own cap pins s H fp) [] H b := fun b hb => by
    obtain ⟨f0, f1, f2, f3, f4, f5⟩ := hf b hb
    refine ⟨f0, Nat.ne_of_lt (Nat.lt_succ_of_lt (hlt b hb)), fun z => ?_, .inl hb, fun x c e => ?_, fun p hp => ?_⟩
    · rcases List.mem_cons.mp (I.stkSub _ z) with z | z
      · exact f1 z
      · exact f2 z
    · rcases cs.cell_cases I.ok e with ⟨_, a, _⟩ | ⟨_, a⟩
      · exact Nat.ne_of_gt (Nat.lt_of_lt_of_le (hlt b hb) (Nat.le_trans (Nat.le_add_right _ 2) a))
      · exact f4 x c a
    · have hp' : p ∈ X.pn ++ pins := by simpa [cX] using hp
      exact f5 p hp'
  have fin : ∀ s' ys' H', Inv (cX X scope own cap pins s H fp) [] (cS own cap σ) H' s' → H' s.heap.objs.size = none → Acc s'.heap s.heap.objs.size ys' → (ys'.length ≤ sizeLine ∧ ∀ a, H' a = none → Q (.ref a) (upd H' a (.lst ys'))) →
      RR (.ref s.heap.objs.size) (s.heap.objs.size + 1) (.ok .next) s' := fun s' ys' H' I' an' ac' q' => by
    have I2 := comp_end I hf I' (Nat.le_refl _) an' ac' q'.1
    obtain ⟨m, hn, _⟩ := I'.loc
    refine hR _ _ s' _ m (Nat.le_succ _) I2 ?_ hn (q'.2 _ an')
    rw [upd_ne (Nat.ne_of_gt (Nat.lt_succ_self _))]
    exact I'.free
  have lp : ∀ s₄ : Shared, s₄ = { s with heap := pushCells ((s.heap.push { cls := .type "list", dict := none, data := .seq ([] : List Value).toArray }).push { cls := .type "dict", data := .dict #[] }) scope.names } →
      codeAny (model X.prog X.w) X.A (.compLoop (.ListComp elt (⟨tg, iter, ifs, 0⟩ :: rest) scope pos) 0 (.ref it) (.ref s.heap.objs.size) (cEnv X scope s.heap.objs.size)) (RR (.ref s.heap.objs.size) (s.heap.objs.size + 1)) s₄ := by
    rintro s₄ rfl
    exact comp_loop (Y := cX X scope own cap pins s H fp) (d := 0) rfl hc (fun _ _ z => z) (h1 pins s H fp) (h2 pins s H fp) (h3 pins s H fp s.heap.objs.size) T hac I1 st1 ff fa ac1 h fin
  exact compStart_at (d := 0) rfl (lp _ rfl) (T.self _ 0 _ _ _ st1 (lp _ rfl))
/-- a comprehension's reading -/
def tComp (own : List Str) (cap : List (Str × Nat)) (wi : TI) (g : TG) (tt : TT) (tb : TB) : TE := fun σ H Q => wi σ H fun J H1 => tLoop g tt tb J (cS own cap σ) H1 [] fun ys H2 => ys.length ≤ sizeLine ∧ ∀ a, H2 a = none → Q (.ref a) (upd H2 a (.lst ys))
variable {elt tg iter : Expr} {ifs : List Expr} {rest : List Comprehension} {pos : Pos} {wi : TI} {g : TG} {tt : TT} {tb : TB}
theorem CS.names (cs : CS X scope own cap) : ∀ x ∈ scope.names, x.2 = .local → scope.names.lookup x.1 = some .local := fun x hx e => cs.lk (by rw [← e]; exact hx)
theorem Inv.letgo {pins : List (Addr × Obj)} {σ σ' : St} {H H' : Hp} {s s' : Shared} {C : Addr} {h' : Heap} (I : Inv X pins σ H s) (I' : Inv X pins σ' H' s') (hC : s.heap.objs.size ≤ C) (hn : H' C = none) (hs : Heap.SameBut C s'.heap h') : Inv X pins σ' H' { s' with heap := h' } := by
  obtain ⟨f0, f1, f2, f3, f4, f5⟩ := I.fpOk hC hn
  exact I'.turned (t' := s'.toks) (fun b o hb e => (hs.2 b hb).trans e) f0 f1 f3 f4 f5
theorem pe_comp (cs : CS X scope own cap) (hc : X.calm = true) (hi : PI X tg iter wi) (h1 : ∀ pins s₂ H₂ fp, PG (cX X scope own cap pins s₂ H₂ fp) tg g) (h2 : ∀ pins s₂ H₂ fp, PTs (cX X scope own cap pins s₂ H₂ fp) ifs tt)
    (h3 : ∀ pins s₂ H₂ fp acc, PB (cX X scope own cap pins s₂ H₂ fp) acc (insideOf elt (⟨tg, iter, ifs, 0⟩ :: rest) scope pos 0 (.ref acc) (cEnv X scope s₂.heap.objs.size)) tb)
    (hs : ∀ x, foldedSetIterable iter X.env x = pure x := by intro _; rfl) : PE X (.ListComp elt (⟨tg, iter, ifs, 0⟩ :: rest) scope pos) (tComp own cap wi g tt tb) := by
  intro pins s σ H Q I h
  rw [eval_ListComp]
  refine wpAny_comprehension_free (use := none) rfl hs (closureFor_eq (cs.has_ I.ok)) cs.kind cs.names ?_
  refine thn (hi pins s σ H _ I h) fun x s1 h1' => thn h1' fun itv s2 h2' => ?_
  obtain ⟨it, fp, tn, J, H2, e, I2, T, st2, f2, lp⟩ := h2'
  subst e
  refine comp_core (RR := fun acc C => compPost (model X.prog X.w) X.A X.xe none (EP X pins σ Q) acc C) cs hc h1 h2 h3 T I2 st2 f2 lp ?_
  intro acc C s' H' m hC I' hn hns q
  exact ⟨m, hns, fun h' hs' => ⟨.ref acc, H', CT.Inv.letgo I2 I' hC hn hs', rfl, q⟩⟩
/-- name = [..], where the name is set ahead of the letting go -/
theorem ps_comp {i : Nat} {x : Str} {pos' spos : Pos} (cs : CS X scope own cap) (hc : X.calm = true) (hN : X.N.Nodup) (hix : X.N[i]? = some x) (hx : Loc X.env.scope x) (hi : PI X tg iter wi) (h1 : ∀ pins s₂ H₂ fp, PG (cX X scope own cap pins s₂ H₂ fp) tg g)
    (h2 : ∀ pins s₂ H₂ fp, PTs (cX X scope own cap pins s₂ H₂ fp) ifs tt)
    (h3 : ∀ pins s₂ H₂ fp acc, PB (cX X scope own cap pins s₂ H₂ fp) acc (insideOf elt (⟨tg, iter, ifs, 0⟩ :: rest) scope pos 0 (.ref acc) (cEnv X scope s₂.heap.objs.size)) tb)
    (hsw : swapsWith (.ListComp elt (⟨tg, iter, ifs, 0⟩ :: rest) scope pos) (some (.Name x pos')) spos.line X.env = pure true)
    (hs : ∀ x, foldedSetIterable iter X.env x = pure x := by intro _; rfl) (hf : X.fn x = true ∨ X.env.scope.names.lookup x = some .local := by first | exact .inl rfl | exact .inr rfl | assumption) :
    PS X (.Assign [.Name x pos'] (.ListComp elt (⟨tg, iter, ifs, 0⟩ :: rest) scope pos) spos) (tAsg (tComp own cap wi g tt tb) (gName i)) := by
  intro pins s σ H D I h
  rw [exec_Assign_Name_used _ _ _ _ hsw]
  refine wpAny_bind (wpAny_standAt (wpAny_bind ?_))
  show wpAny _ X.A (do let _ ← comprehension (.ListComp elt (⟨tg, iter, ifs, 0⟩ :: rest) scope pos) scope X.env _ (newList []) false (eval iter X.env) (some (assign (.Name x pos') X.env))) _ _ s
  refine wpAny_bind (wpAny_mono (wpAny_comprehension_free (use := some (assign (.Name x pos') X.env)) (Q := fun _ s' => SP X pins D .next s') rfl hs (closureFor_eq (cs.has_ I.ok)) cs.kind cs.names ?_) (fun _ s' hq => wpAny_pure (wpAny_pure hq)) fun _ _ e => e)
  refine thn (hi pins s σ H _ I h) fun xv s1 h1' => thn h1' fun itv s2 h2' => ?_
  obtain ⟨it, fp, tn, J, H2, e, I2, T, st2, f2, lp⟩ := h2'
  subst e
  refine comp_core (Q := fun x H1 => gName i x σ H1 D.nx) (RR := fun acc C => compPost (model X.prog X.w) X.A X.xe (some (assign (.Name x pos') X.env)) (fun _ s' => SP X pins D .next s') acc C) cs hc h1 h2 h3 T I2 st2 f2 lp ?_
  intro acc C s' H' m hC I' hn hns q
  show wpAny _ X.A (assign (.Name x pos') X.env (.ref acc)) _ _ _
  refine wpAny_assign_Name (store_ok2 I' hN hix hx (v := .ref acc) rfl (fun s'' I'' ⟨a, sb, ha⟩ => ?_) hf)
  have hne : C ≠ a := by
    rcases ha with z | z
    · rw [z]; exact Nat.ne_of_gt (Nat.lt_of_lt_of_le I2.lt hC)
    · obtain ⟨v, hv⟩ := I2.cell x a z
      exact Nat.ne_of_gt (Nat.lt_of_lt_of_le hv.lt hC)
  exact ⟨m, hns.sameBut sb hne, fun h' hs' => ⟨_, H', CT.Inv.letgo I2 I'' hC hn hs', q⟩⟩
/-! ### names in the block -/
theorem CS.vis (cs : CS X scope own cap) {n0 : Nat} {i : Nat} {x : Str} (h : (own ++ cap.map (·.1))[i]? = some x) : Vis (cEnv X scope n0).scope x := by
  have e : (cEnv X scope n0).scope.names.lookup x = (scope.names.lookup x).map (kin X.env x) := cEnv_lookup
  rcases List.mem_append.mp (List.mem_of_getElem? h) with hm | hm
  · rcases cs.own_ x hm with z | z
    · rw [cs.lk z] at e; exact .inl e
    · rw [cs.lk z] at e; exact .inr (.inl e)
  · obtain ⟨p, hp, rfl⟩ := List.mem_map.mp hm
    have z := (cs.cap_ p hp).2
    rw [cs.lk z] at e
    rcases kin_free (cs.fr _ z rfl) with q | q
    · exact .inr (.inl (e.trans (congrArg some q)))
    · exact .inr (.inr (e.trans (congrArg some q)))
theorem CS.loc (cs : CS X scope own cap) {n0 : Nat} {x : Str} (h : x ∈ own) : Loc (cEnv X scope n0).scope x := by
  have e : (cEnv X scope n0).scope.names.lookup x = (scope.names.lookup x).map (kin X.env x) := cEnv_lookup
  rcases cs.own_ x h with z | z
  · rw [cs.lk z] at e; exact .inl e
  · rw [cs.lk z] at e; exact .inr e
variable {s₂ : Shared} {H₂ : Hp}
theorem CS.gl (cs : CS X scope own cap) {x : Str} (h : (x, NameKind.globalImplicit) ∈ scope.names) : Gl (cX X scope own cap pins s₂ H₂ fp) x := by
  have e : (cEnv X scope s₂.heap.objs.size).kindOf x = (scope.names.lookup x).map (kin X.env x) := cEnv_kindOf
  rw [cs.lk h] at e
  exact e
/-- a name of the block -/
theorem cv (cs : CS X scope own cap) {i : Nat} {x : Str} {pos : Pos} (h : (own ++ cap.map (·.1))[i]? = some x) (hd : (x == ("__debug__" : Str)) = false := by decide) (hcd : (x == ("__classdict__" : Str)) = false := by decide) :
    PE (cX X scope own cap pins s₂ H₂ fp) (.Name x pos) (tVar i) := pe_var h (cs.vis h) hd hcd
/-- a target of the block -/
theorem cg (cs : CS X scope own cap) {i : Nat} {x : Str} {pos : Pos} (h : own[i]? = some x) : PG (cX X scope own cap pins s₂ H₂ fp) (.Name x pos) (gName i) :=
  pg_name cs.nN (by
    have hi := (List.getElem?_eq_some_iff.mp h).1
    show (own ++ cap.map (·.1))[i]? = some x
    rw [List.getElem?_append_left hi]; exact h) (cs.loc (List.mem_of_getElem? h)) (.inl (decide_eq_true (List.mem_of_getElem? h)))
end
end CT
set_option Elab.async false
set_option linter.all false
set_option maxRecDepth 100000
/-! zip of two and three lists or tuples as what a loop or a comprehension walks -/
namespace CT
open PySem PySem.Spec L2
open PyProof.Rows hiding St
def SqB (K : PySem.W.Frag) (H : Hp) (b : Bool) (a : Addr) (xs : List V) : Prop := match b with | true => SqT K H a xs | false => SqL K H a xs
section
variable {X : Cx} {pins : List (Addr × Obj)} {σ : St} {H : Hp} {s : Shared} {a : Addr} {xs ys : List V} {b : Bool}
theorem Inv.sqb (I : Inv X pins σ H s) (h : SqB X.K H b a xs) : ∃ its : List Value, Vals xs its ∧ Ssq s.heap b a its.toArray ∧ xs.length ≤ sizeLine := by
  cases b with
  | true => obtain ⟨its, r, p, z⟩ := I.tuple h; exact ⟨its, r, p, z⟩
  | false => obtain ⟨its, r, p, z⟩ := I.list h; exact ⟨its, r, p.isList, z⟩
theorem Inv.sqb_inj (I : Inv X pins σ H s) (h : SqB X.K H b a xs) (h' : SqB X.K H b a ys) : xs = ys := by
  cases b with
  | true => exact I.tuple_inj h h'
  | false => exact I.list_inj h h'
theorem Inv.ne_fp {c : Addr} (I : Inv X pins σ H s) (h : SqB X.K H b a xs) (f : FpOk X pins H c) : a ≠ c := by
  have fromK : ∀ o, X.K.lookup a = some o → a ≠ c := fun o hk z => by
    have e := I.ok.mod.kin a o hk
    rcases f.2.2.2.1 with q | q
    · exact I.ok.noex a o e (z ▸ q)
    · exact absurd (Nat.lt_of_lt_of_le (Heap.lt_size e) (Nat.le_trans I.ok.bsz (z ▸ q))) (Nat.lt_irrefl _)
  have fromR : ∀ u, Rd H a u → a ≠ c := fun u h => by
    rcases h with h | ⟨_, h⟩ <;> exact ne_of_none h f.1
  cases b with
  | true =>
    rcases h with h | ⟨o, _, _, hk, _⟩
    · exact fromR _ h
    · exact fromK o hk
  | false =>
    rcases h with h | ⟨o, _, _, hk, _⟩
    · exact fromR _ h
    · exact fromK o hk
/-- untracked records of ours have turned, and new objects may have come -/
theorem Inv.turnedL {h' : Heap} {t' : Nat} {ch : List Addr} (I : Inv X pins σ H s) (hf : ∀ b ∈ ch, FpOk X pins H b) (k : ∀ b o, b ∉ ch → s.heap.get? b = some o → h'.get? b = some o) : Inv X pins σ H { s with heap := h', toks := t' } := by
  have nit : ∀ b u, H b = some u → b ∉ ch := fun b u e z => by have := (hf b z).1; rw [e] at this; cases this
  refine I.step (g' := s.gens) (d' := s.drawn) (ch := ch) (fun b hb => ?_) (fun b o _ _ hc e _ => k b o hc e) (fun b o _ _ hc e _ => ⟨o.slots, k b o hc e⟩) (fun _ _ _ _ n => n)
    (fun b o hc e => ⟨o, k b o hc e⟩) (fun _ _ e => e) (fun _ _ _ e => e) (fun b ps e => ⟨#[], by rw [e]; simp⟩) (fun m hm => ?_) (fun b u e => ?_) I.bare
  · obtain ⟨f0, f1, f2, f3, f4, f5⟩ := hf b hb
    exact ⟨f3, f1, f4, f5⟩
  · obtain ⟨o, es, ep, ho, r⟩ := hm
    exact ⟨o, es, ep, k _ o (fun z => (hf _ z).2.1 rfl) ho, r⟩
  · refine (I.hok b u e).stay (fun c v hc q => k c v ?_ q) (fun _ q => q) fun _ _ q => q
    rcases hc with z | z
    · rw [z]; exact nit b u e
    · exact nit c _ z
/-- an object that stands untracked is tracked from now on -/
theorem Inv.adopt {T : Addr} {o : HO} (I : Inv X pins σ H s) (f : FpOk X pins H T) (new : ObjOk X.prog X.w (upd H T o) s.heap T o) : Inv X pins σ (upd H T o) s := by
  have neT : ∀ {b : Addr} {u : HO}, H b = some u → b ≠ T := fun e => ne_of_none e f.1
  have r : Inv X pins σ (upd H T o) { s with heap := s.heap, gens := s.gens, drawn := s.drawn, toks := s.toks } :=
    I.step (ch := [T]) (fun b hb => by
      have e : b = T := by simpa using hb
      subst e
      obtain ⟨f0, f1, f2, f3, f4, f5⟩ := f
      exact ⟨f3, f1, f4, f5⟩) (fun b o _ _ _ e _ => e) (fun b o _ _ _ e _ => ⟨o.slots, e⟩) (fun b o hc e n => by rw [upd_ne (fun z => hc (by simp [z]))]; exact n)
      (fun b o _ e => ⟨o, e⟩) (fun b xs e => by rw [upd_ne (neT e)]; exact e) (fun b o u e => by rw [upd_ne (neT e)]; exact e) (fun b ps e => ⟨#[], by rw [upd_ne (neT e), e]; simp⟩) (fun m hm => hm) (fun b u e => by
        by_cases hb : b = T
        · subst hb; rw [upd_same] at e; cases e; exact new
        · rw [upd_ne hb] at e
          exact (I.hok b u e).stay (fun _ _ _ q => q) (fun c q => by rw [upd_ne (neT q)]; exact q) fun c xs q => by rw [upd_ne (neT q)]; exact q) I.bare
  exact r
end
def Itz2 (K : PySem.W.Frag) (b1 b2 : Bool) (a1 a2 : Addr) : It :=
  ⟨fun i H => ∃ xs ys x y, SqB K H b1 a1 xs ∧ SqB K H b2 a2 ys ∧ xs[i]? = some x ∧ ys[i]? = some y,
   fun i H v H' => ∃ T x y, H T = none ∧ v = .ref T ∧ H' = upd H T (.tup [x, y]) ∧ (∀ xs, SqB K H b1 a1 xs → xs[i]? = some x) ∧ (∀ ys, SqB K H b2 a2 ys → ys[i]? = some y),
   fun i H => ∃ xs ys, SqB K H b1 a1 xs ∧ SqB K H b2 a2 ys ∧ (xs.length ≤ i ∨ ys.length ≤ i)⟩
def Itz3 (K : PySem.W.Frag) (b1 b2 b3 : Bool) (a1 a2 a3 : Addr) : It :=
  ⟨fun i H => ∃ xs ys us x y u, SqB K H b1 a1 xs ∧ SqB K H b2 a2 ys ∧ SqB K H b3 a3 us ∧ xs[i]? = some x ∧ ys[i]? = some y ∧ us[i]? = some u,
   fun i H v H' => ∃ T x y u, H T = none ∧ v = .ref T ∧ H' = upd H T (.tup [x, y, u]) ∧ (∀ xs, SqB K H b1 a1 xs → xs[i]? = some x) ∧ (∀ ys, SqB K H b2 a2 ys → ys[i]? = some y) ∧ (∀ us, SqB K H b3 a3 us → us[i]? = some u),
   fun i H => ∃ xs ys us, SqB K H b1 a1 xs ∧ SqB K H b2 a2 ys ∧ SqB K H b3 a3 us ∧ (xs.length ≤ i ∨ ys.length ≤ i ∨ us.length ≤ i)⟩
theorem vget {xs : List V} {its : List Value} {i : Nat} {x : V} (r : Vals xs its) (h : xs[i]? = some x) : ∃ u, its.toArray[i]? = some u ∧ RelV x u := by
  obtain ⟨u, h1, h2⟩ := r.get h
  exact ⟨u, by simpa using h1, h2⟩
theorem vend {xs : List V} {its : List Value} {i : Nat} (r : Vals xs its) (h : xs.length ≤ i) : its.toArray[i]? = none := by
  have := r.length
  simp
  omega
theorem sub4 {α : Type} {a b c d e x : α} (h : x ∈ [a, c, d, e]) : x ∈ [a, b, c, d, e] := by
  simp only [List.mem_cons, List.not_mem_nil, or_false] at h ⊢
  rcases h with h | h | h | h <;> simp [h]
theorem turn_zip2 {P : Program} {w : World} {K : PySem.W.Frag} {elts : List Expr} {x1} {pos : Pos} {z TI TO i1 i2 a1 a2 : Addr} {b1 b2 : Bool} (nd : [z, TI, TO, i1, i2].Nodup) :
    Turn P w K (.Tuple elts x1 pos) (Itz2 K b1 b2 a1 a2) [z, TI, TO, i1, i2] z
      (fun i h => IsZip h z TI TO .none ∧ IsTupAt h TI #[.ref i1, .ref i2] ∧ (∃ ts, IsTupAt h TO ts ∧ ts.size = 2) ∧ Sit h b1 i1 a1 i ∧ Sit h b2 i2 a2 i) where
  mem := by simp
  obj := fun i h ⟨q1, q2, ⟨ts, q3, _⟩, q4, q5⟩ b hb => by
    simp only [List.mem_cons, List.not_mem_nil, or_false] at hb
    rcases hb with rfl | rfl | rfl | rfl | rfl
    · exact ⟨_, q1, fun v e => by have e' : Data.fields _ = Data.cell v := e; cases e'⟩
    · exact ⟨_, q2, fun v e => by have e' : Data.seq _ _ = Data.cell v := e; cases e'⟩
    · exact ⟨_, q3, fun v e => by have e' : Data.seq _ _ = Data.cell v := e; cases e'⟩
    · obtain ⟨o, n, vs, e, _, d⟩ := q4.rec
      exact ⟨o, e, fun v e => by rw [d] at e; cases e⟩
    · obtain ⟨o, n, vs, e, _, d⟩ := q5.rec
      exact ⟨o, e, fun v e => by rw [d] at e; cases e⟩
  keep := fun i h h' ⟨q1, q2, ⟨ts, q3, q3'⟩, q4, q5⟩ k => ⟨k z (by simp) _ q1, k TI (by simp) _ q2, ⟨ts, k TO (by simp) _ q3, q3'⟩, q4.at fun o e => k i1 (by simp) o e, q5.at fun o e => k i2 (by simp) o e⟩
  item := by
    intro X hP hw hK hc i pins s σ H E I hf ⟨q1, q2, ⟨ts, q3, q3'⟩, q4, q5⟩ hg
    subst hP hw hK
    obtain ⟨xs, ys, x, y, hx, hy, ex, ey⟩ := hg
    obtain ⟨its, r1, p1, _⟩ := CT.Inv.sqb I hx
    obtain ⟨its2, r2, p2, _⟩ := CT.Inv.sqb I hy
    obtain ⟨u, eu, ru⟩ := vget r1 ex
    obtain ⟨v, ev, rv⟩ := vget r2 ey
    have n1 : a1 ∉ [z, TO, i1, i2] := fun m => CT.Inv.ne_fp I hx (hf a1 (sub4 m)) rfl
    have n2 : a2 ∉ [z, TO, i1, i2] := fun m => CT.Inv.ne_fp I hy (hf a2 (sub4 m)) rfl
    refine pyNext_zip q1 (zip2_item nd n1 n2 q1 q2 q3 q3' q4 q5 p1 p2 eu ev fun h' z1 z2 z3 z4 z5 z6 kk => ?_)
    refine ⟨_, rfl, wpAny_letOwnedTupleGo_zip z1 fun h2 z1' sb => ?_⟩
    have nT : ∀ b ∈ [z, TI, TO, i1, i2], b ≠ s.heap.objs.size := fun b hb => by
      simp only [List.mem_cons, List.not_mem_nil, or_false] at hb
      rcases hb with rfl | rfl | rfl | rfl | rfl
      · exact Nat.ne_of_lt (Heap.lt_size q1)
      · exact Nat.ne_of_lt (Heap.lt_size q2)
      · exact Nat.ne_of_lt (Heap.lt_size q3)
      · obtain ⟨o, n, vs, e, _, d⟩ := q4.rec; exact Nat.ne_of_lt (Heap.lt_size e)
      · obtain ⟨o, n, vs, e, _, d⟩ := q5.rec; exact Nat.ne_of_lt (Heap.lt_size e)
    have nd' := nd
    simp only [List.nodup_cons, List.mem_cons, List.not_mem_nil, or_false, not_or, List.nodup_nil, and_true, not_false_eq_true] at nd'
    obtain ⟨⟨zTI, zTO, zi1, zi2⟩, ⟨TITO, TIi1, TIi2⟩, ⟨TOi1, TOi2⟩, i12⟩ := nd'
    have k2 : ∀ c o, c ∉ [z, TO, i1, i2] → s.heap.get? c = some o → h2.get? c = some o := fun c o hc e => sb.extBut c o (fun q => hc (by simp [q])) (kk c o hc e)
    have I1 : Inv X pins σ H { s with heap := h2 } := CT.Inv.turnedL (t' := s.toks) (ch := [z, TO, i1, i2]) I (fun b hb => hf b (sub4 hb)) k2
    have hT : h2.get? s.heap.objs.size = some { cls := .type "tuple", data := .seq #[u, v] } := sb.extBut _ _ (Ne.symm (nT z (by simp))) z5
    have I2 : Inv X pins σ (upd H s.heap.objs.size (.tup [x, y])) { s with heap := h2 } := CT.Inv.adopt I1 (I.fpOk (Nat.le_refl _) (I.hok.fresh (Nat.le_refl _)))
      ⟨by show 2 ≤ sizeLine; decide, [u, v], .cons ru (.cons rv .nil), _, hT, rfl, _, rfl⟩
    refine ⟨.ref s.heap.objs.size, _, I2, rfl, ⟨_, x, y, I.hok.fresh (Nat.le_refl _), rfl, rfl, fun xs' h' => by rw [CT.Inv.sqb_inj I h' hx]; exact ex, fun ys' h' => by rw [CT.Inv.sqb_inj I h' hy]; exact ey⟩, ?_, fun b hb => ?_⟩
    · refine ⟨z1', k2 _ _ (by simp [Ne.symm zTI, TITO, TIi1, TIi2]) q2, ⟨#[u, v], sb.extBut _ _ (Ne.symm zTO) z2, rfl⟩, z3.at fun o e => sb.extBut _ _ (Ne.symm zi1) e, z4.at fun o e => sb.extBut _ _ (Ne.symm zi2) e⟩
    · rw [upd_ne (nT b hb)]; exact (hf b hb).1
  done := by
    intro X hP hw hK hc i pins s σ H E I hf ⟨q1, q2, ⟨ts, q3, q3'⟩, q4, q5⟩ hg
    subst hP hw hK
    obtain ⟨xs, ys, hx, hy, he⟩ := hg
    obtain ⟨its, r1, p1, _⟩ := CT.Inv.sqb I hx
    obtain ⟨its2, r2, p2, _⟩ := CT.Inv.sqb I hy
    have n1 : a1 ∉ [z, TO, i1, i2] := fun m => CT.Inv.ne_fp I hx (hf a1 (sub4 m)) rfl
    have n2 : a2 ∉ [z, TO, i1, i2] := fun m => CT.Inv.ne_fp I hy (hf a2 (sub4 m)) rfl
    refine pyNext_zip q1 (zip2_end (I.ok.hd hc) nd n1 n2 q1 q2 q3 q3' q4 q5 p1 p2 (he.imp (vend r1) (vend r2)) fun h' e kk ⟨o, ho, hcls⟩ => ⟨e, o, rfl, ho, hcls, rfl, ?_⟩)
    exact CT.Inv.turnedL (t' := s.toks) (ch := [z, TO, i1, i2]) I (fun b hb => hf b (sub4 hb)) kk
  self := fun _ _ _ _ _ ⟨q1, _⟩ h => wpAny_pyIter_zip q1 h
def iZip2 (K : PySem.W.Frag) (t : TA) : TI := fun σ H R => t σ H fun vs H1 => ∃ b1 b2 a1 a2 xs ys, vs = [.ref a1, .ref a2] ∧ SqB K H1 b1 a1 xs ∧ SqB K H1 b2 a2 ys ∧ R (Itz2 K b1 b2 a1 a2) H1
def iZip3 (K : PySem.W.Frag) (t : TA) : TI := fun σ H R => t σ H fun vs H1 => ∃ b1 b2 b3 a1 a2 a3 xs ys us, vs = [.ref a1, .ref a2, .ref a3] ∧ SqB K H1 b1 a1 xs ∧ SqB K H1 b2 a2 ys ∧ SqB K H1 b3 a3 us ∧ R (Itz3 K b1 b2 b3 a1 a2 a3) H1
section
variable {X : Cx} {elts : List Expr} {x1 : Nat} {tpos : Pos}
theorem pi_zip2 {a b : Expr} {ta : TA} {k} {p pos : Pos} (hg : Gl X "zip") (hm : X.mg "zip" = none) (ha : PA X [a, b] ta) (hs : starEach [a, b] X.env = [(false, eval a X.env), (false, eval b X.env)] := by rfl) (hs2 : starEach [b] X.env = [(false, eval b X.env)] := by rfl) :
    PI X (.Tuple elts k tpos) (.Call (.Name "zip" p) [a, b] [] pos) (iZip2 X.K ta) := by
  intro pins s σ H R I h
  refine Call_ (ld_blt I hg hm boot_zip (PyProof.Rows.callWith_type1 (thn (ha pos pins s σ H _ I h) fun us s1 ⟨vs, H1, I1, r1, q1⟩ => ?_) (by rw [hs, hs2]) (by rw [hs2]; rfl)))
  obtain ⟨b1, b2, a1, a2, xs, ys, e, hx, hy, q⟩ := q1
  subst e
  cases r1 with
  | cons r rr =>
    cases rr with
    | cons r' rr =>
      cases rr
      cases r
      cases r'
      obtain ⟨its, rv1, p1, _⟩ := CT.Inv.sqb I1 hx
      obtain ⟨its2, rv2, p2, _⟩ := CT.Inv.sqb I1 hy
      refine call_zip2S p1 p2 fun h' x1 x2 x3 x4 x5 x6 x7 => ?_
      refine wpAny_pyIter_zip x3 ?_
      refine ⟨_, _, _, _, H1, rfl, I1.kept (t' := s1.toks) x6, turn_zip2 (TI := s1.heap.objs.size + 2) (TO := s1.heap.objs.size + 3) (i1 := s1.heap.objs.size) (i2 := s1.heap.objs.size + 1) (by simp), ⟨x3, x1, ⟨_, x2, rfl⟩, x4, x5⟩, fun b hb => ?_, q⟩
      have hle : s1.heap.objs.size ≤ b := by
        simp only [List.mem_cons, List.not_mem_nil, or_false] at hb
        rcases hb with rfl | rfl | rfl | rfl | rfl <;> omega
      exact I1.fpOk hle (I1.hok.fresh hle)
end
end CT
set_option Elab.async false
set_option linter.all false
set_option maxRecDepth 100000
/-! KEYS of dicts: tuples of ints and of tuples, nested -/
namespace CT
open PySem
inductive PK where
  | i (n : Int)
  | t (l : List PK)
mutual
def PK.py : PK → PyData
  | .i n => .int n
  | .t l => .tuple (PK.pyL l)
def PK.pyL : List PK → List PyData
  | [] => []
  | k :: ks => PK.py k :: PK.pyL ks
end
mutual
def PK.hs : PK → Int
  | .i n => hashInt n
  | .t l => reduceHash (Builtin.Tuple.tupleHashOf (PK.hsL l))
def PK.hsL : List PK → List Int
  | [] => []
  | k :: ks => PK.hs k :: PK.hsL ks
end
mutual
def PK.dr : PK → Nat
  | .i _ => 1
  | .t l => PK.drL l + 1
def PK.drL : List PK → Nat
  | [] => 0
  | k :: ks => PK.dr k + PK.drL ks
end
mutual
def PK.dp : PK → Nat
  | .i _ => 0
  | .t l => PK.dpL l + 1
def PK.dpL : List PK → Nat
  | [] => 0
  | k :: ks => max (PK.dp k) (PK.dpL ks)
end
mutual
/-- v is the key k -/
def IsPK (h : Heap) : PK → Value → Prop
  | .i n, v => ∃ tk, v = .int n tk
  | .t l, v => ∃ a o its n, v = .ref a ∧ h.get? a = some o ∧ o.cls = .type "tuple" ∧ o.data = .seq its n ∧ IsPKL h l its.toList
def IsPKL (h : Heap) : List PK → List Value → Prop
  | [], vs => vs = []
  | k :: ks, vs => ∃ v us, vs = v :: us ∧ IsPK h k v ∧ IsPKL h ks us
end
mutual
theorem IsPK.inj {h : Heap} : ∀ {x y : PK} {v : Value}, IsPK h x v → IsPK h y v → x = y
  | .i n, .i m, v, ⟨tk, e1⟩, ⟨tk', e2⟩ => by rw [e1] at e2; cases e2; rfl
  | .i n, .t l, v, ⟨tk, e1⟩, ⟨a, _, _, _, e2, _⟩ => by rw [e1] at e2; cases e2
  | .t l, .i n, v, ⟨a, _, _, _, e2, _⟩, ⟨tk, e1⟩ => by rw [e1] at e2; cases e2
  | .t l, .t l', v, ⟨a, o, its, n, e1, g1, _, d1, r1⟩, ⟨a', o', its', n', e2, g2, _, d2, r2⟩ => by
    rw [e1] at e2; cases e2
    rw [g1] at g2; cases g2
    rw [d1] at d2; cases d2
    rw [IsPKL.inj r1 r2]
theorem IsPKL.inj {h : Heap} : ∀ {x y : List PK} {vs : List Value}, IsPKL h x vs → IsPKL h y vs → x = y
  | [], [], _, _, _ => rfl
  | [], _ :: _, _, e, ⟨_, _, e', _⟩ => by rw [show _ = _ from e] at e'; cases e'
  | _ :: _, [], _, ⟨_, _, e', _⟩, e => by rw [show _ = _ from e] at e'; cases e'
  | k :: ks, k' :: ks', vs, ⟨v, us, e, a, b⟩, ⟨v', us', e', a', b'⟩ => by
    rw [e] at e'; cases e'
    rw [IsPK.inj a a', IsPKL.inj b b']
end
mutual
theorem IsPK.keep {h h' : Heap} (hk : ∀ b o its n, h.get? b = some o → o.data = .seq its n → h'.get? b = some o) : ∀ {x : PK} {v : Value}, IsPK h x v → IsPK h' x v
  | .i _, _, e => e
  | .t _, _, ⟨a, o, its, n, e1, g, c, d, r⟩ => ⟨a, o, its, n, e1, hk _ _ _ _ g d, c, d, IsPKL.keep hk r⟩
theorem IsPKL.keep {h h' : Heap} (hk : ∀ b o its n, h.get? b = some o → o.data = .seq its n → h'.get? b = some o) : ∀ {x : List PK} {vs : List Value}, IsPKL h x vs → IsPKL h' x vs
  | [], _, e => e
  | _ :: _, _, ⟨v, us, e, a, b⟩ => ⟨v, us, e, IsPK.keep hk a, IsPKL.keep hk b⟩
end
mutual
theorem IsPK.reads {h : Heap} : ∀ {x : PK} {v : Value}, IsPK h x v → ∃ as, Reads h v x.py as
  | .i n, _, ⟨tk, e⟩ => by subst e; exact ⟨_, .int n tk⟩
  | .t l, _, ⟨a, o, its, n, e1, g, c, d, r⟩ => by
    subst e1
    obtain ⟨as, ra⟩ := IsPKL.reads r
    exact ⟨_, .tuple g c d ra⟩
theorem IsPKL.reads {h : Heap} : ∀ {x : List PK} {vs : List Value}, IsPKL h x vs → ∃ as, ReadsAll h vs (PK.pyL x) as
  | [], _, e => by cases (show _ = _ from e); exact ⟨_, .nil⟩
  | _ :: _, _, ⟨v, us, e, a, b⟩ => by
    subst e
    obtain ⟨as, ra⟩ := IsPK.reads a
    obtain ⟨bs, rb⟩ := IsPKL.reads b
    exact ⟨_, .cons ra rb⟩
end
mutual
theorem PK.lay : ∀ k : PK, k.py.canLay0 = true
  | .i _ => rfl
  | .t l => PK.layL l
theorem PK.layL : ∀ l : List PK, PyData.canLayAll0 (PK.pyL l) = true
  | [] => rfl
  | k :: ks => by
    show (PyData.canLay0 (PK.py k) && PyData.canLayAll0 (PK.pyL ks)) = true
    rw [PK.lay k, PK.layL ks]; rfl
end
mutual
theorem PK.dep : ∀ k : PK, k.py.depth = k.dp
  | .i _ => rfl
  | .t l => by
    show PyData.depthAll (PK.pyL l) + 1 = PK.dpL l + 1
    rw [PK.depL l]
theorem PK.depL : ∀ l : List PK, PyData.depthAll (PK.pyL l) = PK.dpL l
  | [] => rfl
  | k :: ks => by
    show max (PyData.depth (PK.py k)) (PyData.depthAll (PK.pyL ks)) = max (PK.dp k) (PK.dpL ks)
    rw [PK.dep k, PK.depL ks]
end
noncomputable instance : DecidableEq PK := fun a b => Classical.propDecidable (a = b)
mutual
theorem PK.eqv : ∀ a b : PK, PyData.eqv a.py b.py = decide (a = b)
  | .i n, .i m => by
    show decide (n = m) = _
    by_cases h : n = m <;> simp [h]
  | .i n, .t l => by rw [decide_eq_false (by intro e; cases e)]; rfl
  | .t l, .i n => by rw [decide_eq_false (by intro e; cases e)]; rfl
  | .t l, .t l' => by
    show PyData.eqvAll (PK.pyL l) (PK.pyL l') = _
    rw [PK.eqvL l l']
    by_cases h : l = l' <;> simp [h]
theorem PK.eqvL : ∀ a b : List PK, PyData.eqvAll (PK.pyL a) (PK.pyL b) = decide (a = b)
  | [], [] => by rw [decide_eq_true rfl]; rfl
  | [], _ :: _ => by rw [decide_eq_false (by intro e; cases e)]; rfl
  | _ :: _, [] => by rw [decide_eq_false (by intro e; cases e)]; rfl
  | k :: ks, k' :: ks' => by
    show (PyData.eqv (PK.py k) (PK.py k') && PyData.eqvAll (PK.pyL ks) (PK.pyL ks')) = _
    rw [PK.eqv k k', PK.eqvL ks ks']
    by_cases h : k = k' <;> by_cases h2 : ks = ks' <;> simp [h, h2]
end
section
variable {prog : Program} {w : World} {E : Value → Shared → Prop}
theorem pk_eq {A : Around} {s : Shared} {x y : PK} {u v : Value} {Q : Bool → Shared → Prop} (hu : A.units + min x.dp y.dp < cLine) (hx : IsPK s.heap x u) (hy : IsPK s.heap y v) (h : Q (decide (x = y)) s) : wpAny (model prog w) A (eqBool u v) Q E s := by
  obtain ⟨as, ra⟩ := hx.reads
  obtain ⟨bs, rb⟩ := hy.reads
  refine SeqAt.eqAt_reads _ _ A s u v as bs ra rb x.lay y.lay (by rw [PK.dep, PK.dep]; exact hu) prog w E Q ?_
  rw [PK.eqv]; exact h
end
end CT
set_option Elab.async false
set_option linter.all false
set_option maxRecDepth 100000
/-! KEYS: their hash; the kind -/
namespace CT
open PySem
theorem dpL_cons {k : PK} {ks : List PK} : PK.dpL (k :: ks) = max k.dp (PK.dpL ks) := rfl
theorem hsL_append : ∀ (a b : List PK), PK.hsL (a ++ b) = PK.hsL a ++ PK.hsL b
  | [], _ => rfl
  | k :: ks, b => by show PK.hs k :: PK.hsL (ks ++ b) = _; rw [hsL_append ks b]; rfl
theorem drL_append : ∀ (a b : List PK), PK.drL (a ++ b) = PK.drL a + PK.drL b
  | [], _ => by show _ = 0 + _; rw [Nat.zero_add]; rfl
  | k :: ks, b => by show PK.dr k + PK.drL (ks ++ b) = (PK.dr k + PK.drL ks) + _; rw [drL_append ks b]; omega
section
variable {prog : Program} {w : World}
theorem pk_hash : ∀ (n : Nat) (k : PK), k.dp ≤ n → ∀ {A : Around} {E : Value → Shared → Prop} {s : Shared} {v : Value} {Q : Int → Shared → Prop}, A.units + n < cLine → IsPK s.heap k v → Q k.hs { s with toks := s.toks + k.dr } →
    wpAny (model prog w) A (pyHash v) Q E s := by
  intro n
  induction n with
  | zero =>
    intro k hk A E s v Q hu hi h
    cases k with
    | i m => obtain ⟨tk, e⟩ := hi; subst e; exact wpAny_pyHash_int h
    | t l => exact absurd (show PK.dpL l + 1 ≤ 0 from hk) (by omega)
  | succ n ih =>
    intro k hk A E s v Q hu hi h
    cases k with
    | i m => obtain ⟨tk, e⟩ := hi; subst e; exact wpAny_pyHash_int h
    | t l =>
      obtain ⟨a, o, its, m, e, g, c, d, r⟩ := hi
      subst e
      have hl : PK.dpL l ≤ n := by have : PK.dpL l + 1 ≤ n + 1 := hk; omega
      have T : s.TypeIs (.ref a) "tuple" := ⟨o, g, c⟩
      have no : ¬ ((some (Value.builtin "tuple.__hash__") == some Value.none) = true) := by rw [beq_builtin_none]; exact Bool.false_ne_true
      unfold pyHash
      first | unfold pyHashByItsType | skip
      first | refine wpAny_bind (wpAny_cRoomFor_or (.inr (by omega)) ?_) | skip
      refine wpAny_bind (wpAny_specialOf T F.slot_tuple_hash.lookup ?_); show wpAny _ _ (if (some (Value.builtin "tuple.__hash__") == some Value.none) = true then _ else _) Q E s
      rw [if_neg no]
      refine wpAny_bind (wpAny_specialOf T F.slot_tuple_hash.lookup ?_); show wpAny _ _ (callSpecialIfBoundUnlessNone? (.ref a) "__hash__" _ >>= _) Q E s
      refine wpAny_bind (wpAny_callSpecialIfBoundUnlessNone?_slot T F.slot_tuple_hash (wpAny_call_entry F.slot_tuple_hash T F.entry_tuple_hash ?_ (F.args_tuple_hash_1 _)))
      show wpAny _ _ (Builtin.Tuple.tupleItemsOf (.ref a) >>= _) _ _ s
      refine wpAny_bind (wpAny_tupleItemsOf g d ?_)
      refine wpAny_bind ?_; rw [← Array.forIn_toList]
      refine wpAny_forIn_list _ (fun rest (b : Array Int) s' => ∃ dn lf, l = dn ++ lf ∧ IsPKL s.heap lf rest ∧ b.toList = PK.hsL dn ∧ s' = { s with toks := s.toks + PK.drL dn }) _ ?_ ?_ _ _ ⟨[], l, rfl, r, rfl, rfl⟩
      · rintro x rest b s' ⟨dn, lf, e1, hl', hb, e2⟩
        subst e1 e2
        cases lf with
        | nil => exact nomatch (show x :: rest = [] from hl')
        | cons k' ks' =>
          obtain ⟨v', us, e3, ha, ht⟩ := hl'
          cases e3
          have hk' : k'.dp ≤ n := by
            have : ∀ (dn : List PK), k'.dp ≤ PK.dpL (dn ++ k' :: ks') := by
              intro dn
              induction dn with
              | nil => show k'.dp ≤ max _ _; omega
              | cons z zs ihz => show k'.dp ≤ max _ (PK.dpL (zs ++ k' :: ks')); omega
            exact Nat.le_trans (this dn) hl
          refine wpAny_bind (ih k' hk' (show A.in1.units + n < cLine by show A.units + 1 + n < cLine; omega) (s := { s with toks := s.toks + PK.drL dn }) ha ?_)
          have fin : ∃ dn' lf', dn ++ k' :: ks' = dn' ++ lf' ∧ IsPKL s.heap lf' rest ∧ (b.push (PK.hs k')).toList = PK.hsL dn' ∧ ({ s with toks := s.toks + PK.drL dn + PK.dr k' } : Shared) = { s with toks := s.toks + PK.drL dn' } :=
            ⟨dn ++ [k'], ks', by simp, ht, by rw [Array.toList_push, hb, hsL_append]; rfl, by rw [drL_append]; show _ = { s with toks := s.toks + (PK.drL dn + (PK.dr k' + 0)) }; rw [Nat.add_zero, Nat.add_assoc]⟩
          first
            | exact wpAny_pure fin
            | exact wpAny_bind (wpAny_pure (wpAny_pure fin))
      · rintro b s' ⟨dn, lf, e1, hl', hb, e2⟩
        subst e1 e2
        cases lf with
        | cons _ _ => obtain ⟨_, _, e3, _⟩ := hl'; cases e3
        | nil =>
          rw [List.append_nil] at h
          show wpAny _ _ (retInt (Builtin.Tuple.tupleHashOf b.toList)) _ _ _
          rw [hb]
          refine wpAny_ret_mkInt ?_
          change Q (reduceHash (Builtin.Tuple.tupleHashOf (PK.hsL dn))) { s with toks := s.toks + (PK.drL dn + 1) } at h
          generalize Builtin.Tuple.tupleHashOf (PK.hsL dn) = z at h ⊢
          show wpAny _ _ (if (decide (-(2 : Int) ^ 63 ≤ z) && decide (z < 2 ^ 63)) = true then _ else _) Q E _
          unfold reduceHash at h
          by_cases hz : (decide (-(2 : Int) ^ 63 ≤ z) && decide (z < 2 ^ 63)) = true
          · rw [if_pos hz] at h ⊢
            exact wpAny_pure (by simpa [Nat.add_assoc] using h)
          · rw [if_neg hz] at h ⊢
            exact wpAny_bind (wpAny_rule (wpAny_pure (by simpa [Nat.add_assoc] using h)))
theorem pk_quiet : ∀ (n : Nat) (k : PK), k.dp ≤ n → ∀ {A : Around} {E : Value → Shared → Prop} {s : Shared} {v : Value} {Q : Bool → Shared → Prop}, IsPK s.heap k v → Q true s → wpAny (model prog w) A (eqIsQuiet n v) Q E s := by
  intro n
  induction n with
  | zero =>
    intro k hk A E s v Q hi h
    cases k with
    | i m => obtain ⟨tk, e⟩ := hi; subst e; rw [eqIsQuiet_byValue _ (by rfl)]; exact wpAny_pure h
    | t l => exact absurd (show PK.dpL l + 1 ≤ 0 from hk) (by omega)
  | succ n ih =>
    intro k hk A E s v Q hi h
    cases k with
    | i m => obtain ⟨tk, e⟩ := hi; subst e; rw [eqIsQuiet_byValue _ (by rfl)]; exact wpAny_pure h
    | t l =>
      obtain ⟨a, o, its, m, e, g, c, d, r⟩ := hi
      subst e
      have hl : PK.dpL l ≤ n := by have : PK.dpL l + 1 ≤ n + 1 := hk; omega
      have T : s.TypeIs (.ref a) "tuple" := ⟨o, g, c⟩
      unfold eqIsQuiet
      refine wpAny_bind (wpAny_specialOf T F.slot_tuple_eq.lookup ?_); show wpAny _ _ (isInstance (.ref a) (.type "tuple") >>= _) _ _ s
      refine wpAny_bind (wpAny_isInstance T isSubtype_tuple_tuple ?_); simp only [Bool.not_true, Bool.false_eq_true, if_false]
      refine wpAny_bind (wpAny_seqItems g d ?_)
      refine wpAny_bind ?_
      show wpAny _ _ (forIn its _ _) _ _ s; rw [← Array.forIn_toList]
      refine wpAny_forIn_list _ (fun rest q s' => q.1 = none ∧ s' = s ∧ ∃ lf, PK.dpL lf ≤ n ∧ IsPKL s.heap lf rest) _ ?_ ?_ _ _ ⟨rfl, rfl, l, hl, r⟩
      · rintro x rest q s' ⟨hq, e1, lf, hlf, hr⟩
        subst e1
        cases lf with
        | nil => exact nomatch (show x :: rest = [] from hr)
        | cons k' ks' =>
          obtain ⟨v', us, e3, ha, ht⟩ := hr
          cases e3
          rw [dpL_cons] at hlf
          refine wpAny_bind (ih k' (by omega) ha ?_); simp only [Bool.not_true, Bool.false_eq_true, if_false]
          exact wpAny_pure ⟨rfl, rfl, ks', by omega, ht⟩
      · rintro ⟨q1, q2⟩ s' ⟨hq, e1, _⟩
        subst e1
        cases (show q1 = none from hq)
        exact wpAny_pure h
/-- keys: tuples of ints and of tuples, at most eight deep -/
noncomputable def pkKind (prog : Program) (w : World) : HeapKind prog w PK where
  is := fun h k a => IsPK h k (.ref a) ∧ k.dp ≤ 8
  hash := PK.hs
  draws := PK.dr
  room := fun A => A.units + 8 < cLine
  inj := fun hx hy => hx.1.inj hy.1
  keeps := fun x ho hd hs => ⟨x.1.keep fun b o its n hb hb2 => (hs.2 b (by
    rintro rfl
    rw [ho] at hb
    cases hb
    rw [hd] at hb2
    cases hb2)).trans hb, x.2⟩
  pyHash := fun hu hk h => pk_hash 8 _ hk.2 hu hk.1 h
  eqBool := fun {A E s x y a b Q} hu hx hy h => pk_eq (by have := hx.2; have := hy.2; omega) hx.1 hy.1 h
  quiet := fun hk h => pk_quiet 8 _ hk.2 hk.1 h
end
end CT
set_option Elab.async false
set_option linter.all false
set_option maxRecDepth 100000
/-! DICTS by such keys, at the model's level: dict(d), the walk over keys -/
namespace CT
open PySem
section
variable {prog : Program} {w : World} {E : Value → Shared → Prop} {K : Type} [DecidableEq K] {knd : HeapKind prog w K} {A : Around} {s : Shared}
/-- a dict by what lies in its one object -/
def DictRaw (knd : HeapKind prog w K) (h : Heap) (d : Addr) (xs : List (K × Addr × Value)) (ep : Nat) : Prop :=
  ∃ o es, h.get? d = some o ∧ o.ExactDict ∧ o.data = .dict es ep ∧ es.toList = xs.map (entryOfKey knd) ∧ (xs.map (·.1)).Nodup
theorem DictRaw.typeIs {d : Addr} {xs : List (K × Addr × Value)} {ep : Nat} (x : DictRaw knd s.heap d xs ep) : s.TypeIs (.ref d) "dict" := let ⟨o, _, g, c, _⟩ := x; ⟨o, g, c.1⟩
theorem DictRaw.keep {h h' : Heap} {d : Addr} {xs : List (K × Addr × Value)} {ep : Nat} (x : DictRaw knd h d xs ep) (k : ∀ o, h.get? d = some o → h'.get? d = some o) : DictRaw knd h' d xs ep := let ⟨o, es, g, r⟩ := x; ⟨o, es, k o g, r⟩
theorem DictRaw.new (h : Heap) : DictRaw knd (h.push { cls := .type "dict", data := .dict #[] }) h.objs.size [] 0 := ⟨_, #[], Heap.get?_push_size _ rfl, ⟨rfl, rfl, rfl⟩, rfl, rfl, List.nodup_nil⟩
end
end CT
set_option Elab.async false
set_option linter.all false
set_option maxRecDepth 100000
/-! DICTS by such keys: the walk over their keys -/
set_option Elab.async false
set_option linter.all false
set_option maxRecDepth 100000
/-! DICTS by keys that are nested tuples of ints, as rules of the layer -/
namespace CT
open PySem PySem.Spec L2
open PyProof.Rows hiding St
def KP : List (PK × Addr × V) → List (PK × Addr × Value) → Prop := Paired fun p q => p.1 = q.1 ∧ p.2.1 = q.2.1 ∧ RelV p.2.2 q.2.2
def RawP (h : Heap) (d : Addr) (xs : List (PK × Addr × Value)) (ep : Nat) : Prop :=
  ∃ o es, h.get? d = some o ∧ o.ExactDict ∧ o.data = .dict es ep ∧ es.toList = xs.map (fun x => ⟨x.1.hs, .ref x.2.1, x.2.2⟩) ∧ (xs.map (·.1)).Nodup
/-- a dict whose keys are nested tuples of ints, with its epoch -/
def PD (a : Addr) (ep : Nat) (kvs : List (PK × Addr × V)) : HO := .ext fun h => kvs.length ≤ sizeLine ∧ (a == sysModules) = false ∧ ∃ xs, KP kvs xs ∧ RawP h a xs ep
section
variable {P : Program} {w : World} {H : Hp} {h : Heap} {a : Addr} {ep : Nat} {kvs : List (PK × Addr × V)}
theorem pd_of (ok : HOk P w H h) (e : H a = some (PD a ep kvs)) : kvs.length ≤ sizeLine ∧ (a == sysModules) = false ∧ ∃ xs, KP kvs xs ∧ DictRaw (pkKind P w) h a xs ep := (show ObjOk P w H h a (PD a ep kvs) from ok a _ e).1
/-- what stands at b is the key k, in any heap that H tells of -/
def KeyH (H : Hp) (k : PK) (b : Addr) : Prop := k.dp ≤ 8 ∧ ∀ P w h, HOk P w H h → IsPK h k (.ref b)
theorem KeyH.is {k : PK} {b : Addr} (q : KeyH H k b) (ok : HOk P w H h) : (pkKind P w).is h k b := ⟨q.2 P w h ok, q.1⟩
def Keys (H : Hp) (kvs : List (PK × Addr × V)) : Prop := ∀ p ∈ kvs, KeyH H p.1 p.2.1
theorem KP.mem {xs : List (PK × Addr × Value)} (r : KP kvs xs) : ∀ x ∈ xs, ∃ p ∈ kvs, p.1 = x.1 ∧ p.2.1 = x.2.1 := by
  unfold KP at r
  induction r with
  | nil => intro x hx; cases hx
  | @cons p q ps qs h t ih =>
    intro x hx
    rcases List.mem_cons.mp hx with e | hx
    · subst e; exact ⟨p, List.mem_cons_self, h.1, h.2.1⟩
    · obtain ⟨y, hy, e⟩ := ih x hx
      exact ⟨y, List.mem_cons_of_mem _ hy, e⟩
theorem KP.is {xs : List (PK × Addr × Value)} (r : KP kvs xs) (ks : Keys H kvs) (ok : HOk P w H h) : ∀ x ∈ xs, (pkKind P w).is h x.1 x.2.1 := fun x hx => by
  obtain ⟨p, hp, e1, e2⟩ := r.mem x hx
  rw [← e1, ← e2]; exact (ks p hp).is ok
/-- what is held by the key -/
noncomputable def valP (kvs : List (PK × Addr × V)) (k : PK) : Option V := (kvs.find? fun p => decide (p.1 = k)).map (·.2.2)
noncomputable def putP (kvs : List (PK × Addr × V)) (k : PK) (b : Addr) (v : V) : List (PK × Addr × V) :=
  if (valP kvs k).isSome then kvs.map (fun p => if p.1 = k then (p.1, p.2.1, v) else p) else kvs ++ [(k, b, v)]
theorem KP.val {xs : List (PK × Addr × Value)} (r : KP kvs xs) (k : PK) : RelO (valP kvs k) ((atKey xs k).map (·.2)) := by
  unfold KP at r
  induction r with
  | nil => trivial
  | @cons p q ps qs h t ih =>
    unfold valP atKey
    rw [List.find?_cons, List.find?_cons, h.1]
    by_cases e : q.1 = k
    · rw [decide_eq_true e]; exact h.2.2
    · rw [decide_eq_false e]; exact ih
theorem KP.length {xs : List (PK × Addr × Value)} (r : KP kvs xs) : kvs.length = xs.length := Paired.length r
theorem KP.mapPut {xs : List (PK × Addr × Value)} (r : KP kvs xs) (k : PK) {v : V} {u : Value} (rv : RelV v u) : KP (kvs.map fun p => if p.1 = k then (p.1, p.2.1, v) else p) (xs.map (putAt k u)) := by
  unfold KP at r ⊢
  induction r with
  | nil => exact .nil
  | @cons p q ps qs h t ih =>
    rw [List.map_cons, List.map_cons]
    refine .cons ?_ ih
    unfold putAt
    by_cases e : q.1 = k
    · rw [if_pos e, if_pos (h.1.trans e)]; exact ⟨h.1, h.2.1, rv⟩
    · rw [if_neg e, if_neg (fun z => e (h.1.symm.trans z))]; exact h
theorem KP.snoc {xs : List (PK × Addr × Value)} (r : KP kvs xs) (k : PK) (b : Addr) {v : V} {u : Value} (rv : RelV v u) : KP (kvs ++ [(k, b, v)]) (xs ++ [(k, b, u)]) := by
  unfold KP at r ⊢
  induction r with
  | nil => exact .cons ⟨rfl, rfl, rv⟩ .nil
  | cons h t ih => exact .cons h ih
theorem KP.put {xs : List (PK × Addr × Value)} (r : KP kvs xs) (k : PK) (b : Addr) {v : V} {u : Value} (rv : RelV v u) : KP (putP kvs k b v) (storedH xs k b u) := by
  have e : (valP kvs k).isSome = (atKey xs k).isSome := by
    have := r.val k
    cases h1 : valP kvs k with
    | none => cases h2 : (atKey xs k) with
      | none => rfl
      | some p => rw [h1, h2] at this; exact this.elim
    | some v => cases h2 : (atKey xs k) with
      | none => rw [h1, h2] at this; exact this.elim
      | some p => rfl
  unfold putP storedH
  rw [e]
  split
  · exact r.mapPut k rv
  · exact r.snoc k b rv
theorem KP.get {xs : List (PK × Addr × Value)} (r : KP kvs xs) : ∀ {i : Nat} {p : PK × Addr × V}, kvs[i]? = some p → ∃ q, xs[i]? = some q ∧ p.1 = q.1 ∧ p.2.1 = q.2.1 ∧ RelV p.2.2 q.2.2 := by
  unfold KP at r
  induction r with
  | nil => intro i p h; simp at h
  | @cons p q ps qs h t ih =>
    intro i x hx
    cases i with
    | zero => simp at hx; subst hx; exact ⟨q, rfl, h⟩
    | succ i => obtain ⟨y, hy, e⟩ := ih (i := i) (p := x) (by simpa using hx); exact ⟨y, by simpa using hy, e⟩
end
end CT
set_option Elab.async false
set_option linter.all false
set_option maxRecDepth 100000
set_option maxHeartbeats 400000
/-! OWN EXCEPTIONS: their attributes read and set, made with an __init__ of their own -/
namespace CT
open PySem PySem.Spec PySem.W L2
open Builtin Builtin.ObjectAttr
abbrev bmV : List Value := [.type "ValueError", .type "Exception", .type "BaseException", .type "object"]
/-- refs, then the built-in tail -/
def overV : List Value → Bool
  | [] => false
  | v :: r => (v :: r) == bmV || (match v with | .ref _ => overV r | _ => false)
theorem overV_has {x : Value} (hx : bmV.contains x = true) : ∀ {l : List Value}, overV l = true → l.contains x = true
  | [], e => nomatch e
  | v :: r, e => by
    unfold overV at e
    rcases Bool.or_eq_true_iff.mp e with q | q
    · rw [beq_iff_eq.mp q]; exact hx
    · cases v with
      | ref c => rw [List.contains_cons, overV_has hx q, Bool.or_true]
      | _ => cases q
/-- what a class of exceptions must have, in the text K -/
structure XCls (K : Frag) (C : Addr) : Prop where
  hd : hasDictIn K C = true
  ov : (clsIn K C).any (fun cd => overV cd.mro) = true
  ga : findIn K (.ref C) "__getattribute__" = some (some (.builtin "BaseException.__getattribute__"))
  gn : findIn K (.ref C) "__getattr__" = some none
  sa : findIn K (.ref C) "__setattr__" = some (some (.builtin "object.__setattr__"))
theorem XCls.mro {K : Frag} {C : Addr} (c : XCls K C) {x : Value} (hx : bmV.contains x = true) : mroIn K C x = some true := by
  obtain ⟨cd, hc, ho⟩ := any_some c.ov
  have h := overV_has hx ho
  unfold mroIn
  rw [hc, Option.bind_some, if_neg (fun q => by cases hl : cd.mro with | nil => rw [hl] at h; cases h | cons _ _ => rw [hl] at q; cases q), h]
section
variable {prog : Program} {w : World} {A : Around} {E : Value → Shared → Prop} {s : Shared} {K : Frag} {x C : Addr} {ox : Obj} {od : Option Obj} {name : Str}
theorem ga_run {tk : Tok} {f : Found} {Q : Fin → Shared → Prop} (X : K.In s.heap) (I : InstAt s.heap x ox C od) (hf : findObj K C od name = some f)
    (h : wpAny (model prog w) A (match f with | .value v => ret v | .bind g a => bindTo g a (.ref x) (.ref C) | .missing => unsupported "x") Q E s) (hm : f ≠ .missing) :
    wpAny (model prog w) A (Builtin.«object.__getattribute__» ⟨[.ref x, .str name tk], []⟩) Q E s := by
  have L0 := I.type (M := model prog w)
  have L1 := looks_find (M := model prog w) X I hf
  unfold Builtin.«object.__getattribute__»
  refine wpAny_bind (wpAny_pure (wpAny_bind (wpAny_pure (wpAny_bind (L0.here (wpAny_bind (L1.here ?_)))))))
  cases f with
  | missing => exact absurd rfl hm
  | value v => exact h
  | bind g a => exact h
theorem ga_call {tk : Tok} {f : Found} {R : Result → Shared → Prop} (X : K.In s.heap) (I : InstAt s.heap x ox C od) (c : XCls K C) (hf : findObj K C od name = some f) (hm : f ≠ .missing)
    (h : wpAny (model prog w) A.in1 (match f with | .value v => ret v | .bind g a => bindTo g a (.ref x) (.ref C) | .missing => unsupported "x")
      (fun fin s' => match fin with | .done f => R (.ok f) s' | .again c' => c'.quiet = true ∧ codeAny (model prog w) A c' R s') (fun e s' => R (.error e) s') s) :
    codeAny (model prog w) A (.call (.builtin "BaseException.__getattribute__") ⟨[.ref x, .str name tk], []⟩) R s := by
  have S := PySem.F.attr_ValueError.ga
  have L0 : Looks (model prog w) s.heap (isInstance (.ref x) (.type "BaseException")) true := I.type.andThen (looks_mroIn X (c.mro (by decide)))
  refine codeAny_call_builtin S.plain F.entry_bexc_ga (@check_slot (model prog w) _ _ s "BaseException.__getattribute__" "BaseException" "__getattribute__" (.ref x) [.str name tk] [] _ (by decide +kernel) (by decide +kernel) L0 (F.args_bexc_ga (.ref x) (.str name tk)) ?_)
  exact ga_run X I hf h hm
/-- o.name by BaseException's way -/
theorem xget_by {tk : Tok} {fill expr : Bool} {f : Found} {Q : Value → Shared → Prop} (X : K.In s.heap) (I : InstAt s.heap x ox C od) (c : XCls K C) (hf : findObj K C od name = some f) (hm : f ≠ .missing)
    (h : wpAny (model prog w) A.in1 (match f with | .value v => ret v | .bind g a => bindTo g a (.ref x) (.ref C) | .missing => unsupported "x")
      (fun fin s' => match fin with | .done (.ret v) => wpAny (model prog w) A (handedOut v) Q E s' | _ => False) (fun e s' => False) s) :
    wpAny (model prog w) A (getAttrBy (.ref x) (.str name tk) fill expr) Q E s := by
  have L0 := I.type (M := model prog w)
  have L1 := looks_findIn (M := model prog w) X c.ga
  have L2 := looks_findIn (M := model prog w) X c.gn
  have S := PySem.F.attr_ValueError.ga
  unfold getAttrBy
  refine wpAny_holding (wpAny_bind (L0.here (wpAny_bind (L1.here ?_))))
  show wpAny _ _ (getAttrByItsOwn _ _ _ _ _ _) _ _ _
  unfold getAttrByItsOwn
  refine wpAny_bind (L2.here ?_)
  refine wpAny_bind (wpAny_attempt (wpAny_holding ?_))
  have ec : callGetattribute (.ref x) (.str name tk) (.builtin "BaseException.__getattribute__") expr = boundAndCalled (.builtin "BaseException.__getattribute__") (.ref x) (.str name tk) := by cases expr <;> rfl
  rw [ec]
  unfold boundAndCalled
  rw [S.bind]
  refine wpAny_bind (wpAny_pure (wpAny_call (ga_call X I c hf hm (wpAny_mono h (fun fin s' z => ?_) fun e s' z => z.elim))))
  rcases fin with (_ | _ | _ | _) | _ <;> first | exact z | exact z.elim
/-- x.__class__ -/
theorem xget_cls {Q : Option Value → Shared → Prop} (X : K.In s.heap) (I : InstAt s.heap x ox C od) (c : XCls K C) (hf : findObj K C od "__class__" = some (.bind (.builtin "getset_descriptor.__get__") (.builtin "object.__class__")))
    (h : Q (some (.ref C)) { s with toks := s.toks + 1 }) : wpAny (model prog w) A (getAttr? (.ref x) "__class__") Q E s := by
  unfold getAttr? getAttrBy?
  refine wpAny_bind (wpAny_mkText (wpAny_bind (wpAny_attempt (xget_by (s := { s with toks := s.toks + 1 }) X I c hf (fun z => nomatch z) ?_))))
  refine wpAny_bind (wpAny_holding (wpAny_call (class_get (s := { s with toks := s.toks + 1 }) X I (c.mro (by decide)) ?_)))
  exact wpAny_pure (wpAny_pure (wpAny_pure h))
theorem kitx_exc (c : XCls K C) (hf : findObj K C od "__class__" = some (.bind (.builtin "getset_descriptor.__get__") (.builtin "object.__class__"))) : KitX K (.ref x) (.ref C) (fun h => InstAt h x ox C od) where
  ty := fun _ _ _ I => I.type
  it := fun M h X _ => by
    obtain ⟨cd, hc, _⟩ := any_some c.ov
    unfold clsIn at hc
    split at hc
    · rename_i ho
      intro A' Q' E' s' k q
      unfold isType loadHead
      exact wpAny_bind (wpAny_loadPart (k _ _ (X _ _ ho)) (wpAny_pure q))
    · cases hc
  ne := fun h tp dd its n sl X htp => by
    obtain ⟨cd, hc, _⟩ := any_some c.ov
    cases hb : (Value.ref C == Value.ref tp) with
    | false => rfl
    | true =>
      have e := Value.ref.inj (beq_iff_eq.mp hb)
      rw [← e] at htp
      unfold clsIn at hc
      split at hc
      · rename_i ho
        have z := htp.symm.trans (X _ _ ho)
        cases z
      · cases hc
  ca := fun X I k => xget_cls X I c hf k
end
end CT
set_option Elab.async false
set_option linter.all false
set_option maxRecDepth 100000
set_option maxHeartbeats 400000
/-! OWN EXCEPTIONS: made -/
namespace CT
open PySem PySem.Spec PySem.W L2
/-- a class of exceptions that is made by ValueError's way -/
def xmkIn (K : Frag) (C : Addr) : Bool := match K.lookup C with
  | some ⟨.type "type", _, .cls cd, sl⟩ => (match sl.toList with | [_, _, _, _, some (.builtin n), _] => n == "ValueError.__new__" | _ => false) && cd.mro.head? == some (.ref C) && tailIn K bmV cd.mro.tail && !cd.hasDel
  | _ => false
end CT
set_option Elab.async false
set_option linter.all false
set_option maxRecDepth 100000
set_option maxHeartbeats 400000
/-! OWN EXCEPTIONS: rules of the layer -/
namespace CT
open PySem PySem.Spec PySem.W L2
/-- an exception; fr: it has not been raised yet -/
def ExcIs (fr : Bool) (x C : Addr) (dx : Option Addr) : HO := .ext fun h => ∃ vs, h.get? x = some ⟨.ref C, dx, .fields vs, #[]⟩ ∧ vs.size = 6 ∧ (fr = true → vs[1]? = some .none)
def NsIs (d : Addr) (fs : List (Str × V)) : HO := .ext fun h => ∃ mA, h.Ns1 d mA ∧ (∀ f, RelO (fs.lookup f) (mA f)) ∧ Within mA (fs.map (·.1))
section
variable {P : Program} {w : World} {H : Hp} {h : Heap} {x C d : Addr} {dx : Option Addr} {fs : List (Str × V)} {fr : Bool}
theorem exc_at (o : ObjOk P w H h x (ExcIs fr x C dx)) : ∃ vs, h.get? x = some ⟨.ref C, dx, .fields vs, #[]⟩ ∧ vs.size = 6 ∧ (fr = true → vs[1]? = some .none) := o.1
theorem exc_ok {vs : Array Value} (e : h.get? x = some ⟨.ref C, dx, .fields vs, #[]⟩) (hz : vs.size = 6) (hf : fr = true → vs[1]? = some .none) : ObjOk P w H h x (ExcIs fr x C dx) := ⟨⟨vs, e, hz, hf⟩, ⟨_, e⟩, fun _ _ ⟨us, q, z⟩ k => ⟨us, k _ q, z⟩⟩
theorem ns_at (o : ObjOk P w H h d (NsIs d fs)) : ∃ mA, h.Ns1 d mA ∧ (∀ f, RelO (fs.lookup f) (mA f)) ∧ Within mA (fs.map (·.1)) := o.1
end
section
variable {X : Cx} {pins : List (Addr × Obj)} {σ : St} {H : Hp} {s : Shared} {a C dx : Addr} {fs : List (Str × V)} {f : Str} {v : V} {A : Around} {E : Value → Shared → Prop} {fr : Bool}
theorem xinst (I : Inv X pins σ H s) (e : H a = some (ExcIs fr a C (some dx))) (n : H dx = some (NsIs dx fs)) : ∃ vs mA odd, s.heap.get? a = some ⟨.ref C, some dx, .fields vs, #[]⟩ ∧ s.heap.Ns1 dx mA ∧ (∀ f, RelO (fs.lookup f) (mA f)) ∧ Within mA (fs.map (·.1)) ∧
    InstAt s.heap a ⟨.ref C, some dx, .fields vs, #[]⟩ C (some odd) ∧ ∀ name, lookIn name odd = some (mA name) := by
  obtain ⟨vs, h1, _⟩ := exc_at (I.hok a _ e)
  obtain ⟨mA, h2, r, q⟩ := ns_at (I.hok dx _ n)
  obtain ⟨odd, h3, h4⟩ := lookIn_ns h2
  exact ⟨vs, mA, odd, h1, h2, r, q, ⟨h1, rfl, rfl, h3⟩, h4⟩
end
end CT
set_option Elab.async false
set_option linter.all false
set_option maxRecDepth 100000
set_option maxHeartbeats 400000
/-! OWN EXCEPTIONS: made, by rules of the layer -/
namespace CT
open PySem PySem.Spec PySem.W L2
section
variable {X : Cx} {pins : List (Addr × Obj)} {σ : St} {H : Hp} {s : Shared} {h' : Heap}
theorem HOk.noAt {P : Program} {w : World} {h : Heap} {a : Addr} (x : HOk P w H h) (e : h.get? a = none) : H a = none := by
  cases q : H a with
  | none => rfl
  | some o =>
    have hx := x a o q
    have : ∃ u, h.get? a = some u := by
      cases o with
      | lst xs => obtain ⟨_, _, _, _, z⟩ := hx; exact ⟨_, z⟩
      | tup xs => obtain ⟨_, _, _, o, z, _⟩ := hx; exact ⟨_, z⟩
      | dK kvs => obtain ⟨_, _, _, _, o, _, _, z, _⟩ := hx; exact ⟨_, z⟩
      | dT kvs => obtain ⟨_, _, _, _, o, _, _, z, _⟩ := hx; exact ⟨_, z⟩
      | set S n => obtain ⟨o, _, _, _, z, _⟩ := hx; exact ⟨_, z⟩
      | ins C dx fs => obtain ⟨_, _, _, z, _⟩ := hx; exact ⟨_, z⟩
      | own y => exact hx
      | xd fs => obtain ⟨_, ⟨_, _, _, z, _⟩, _⟩ := hx; exact ⟨_, z⟩
      | rng lo hi => obtain ⟨_, _, _, z⟩ := hx; exact ⟨_, z⟩
      | frz ob u => obtain ⟨z, _⟩ := hx; exact ⟨_, z⟩
      | tbl ps => exact ⟨_, hx⟩
      | met f y => exact ⟨_, hx⟩
      | ext φ => exact hx.2.1
    obtain ⟨u, z⟩ := this
    rw [e] at z; cases z
theorem Inv.laidN {a : Addr} {o : HO} {t' : Nat} (I : Inv X pins σ H s) (k : ∀ b u, s.heap.get? b = some u → h'.get? b = some u) (hp : s.heap.get? a = none) (new : ObjOk X.prog X.w (upd H a o) h' a o) :
    Inv X pins σ (upd H a o) { s with heap := h', toks := t' } := by
  have hn := HOk.noAt I.hok hp
  refine I.un (Un.mk (fun b u q _ _ _ => k b u q) (fun b u q _ _ _ => ⟨u.slots, k b u q⟩) (fun b u q n _ => ?_) (fun b u q _ => ⟨u, k b u q⟩) (fun b xs q => ?_) (fun b u xs q => ?_) fun b ps q => ⟨#[], ?_⟩) fun b u q => ?_
  · rw [upd_ne (fun z => by rw [z, hp] at q; cases q)]; exact n
  · rw [upd_ne (ne_of_none q hn)]; exact q
  · rw [upd_ne (ne_of_none q hn)]; exact q
  · rw [upd_ne (ne_of_none q hn), q]; simp
  · by_cases hb : b = a
    · subst hb; rw [upd_same] at q; cases q; exact new
    · rw [upd_ne hb] at q
      exact (I.hok b u q).stay (fun c v _ z => k c v z) (fun c z => by rw [upd_ne (ne_of_none z hn)]; exact z) fun c xs z => by rw [upd_ne (ne_of_none z hn)]; exact z
end
section
variable {X : Cx} {pins : List (Addr × Obj)} {σ : St} {H : Hp} {s : Shared} {C f : Addr} {k : Nat} {CX : CXT} {fd : FuncData} {ps : List Str} {sp : Sp} {E : XK} {x : Str} {p pos : Pos} {e : Expr} {es : List Expr} {t : TA}
/-- a class of exceptions without an __init__ of its own: excIn of the library -/
theorem run_x0 {us : List Value} {Q : VK} (I : Inv X pins σ H s) (hm : excIn X.K C bmV "ValueError.__new__" = true) (hl : us.length ≤ sizeLine) (h : ∀ a, H a = none → Q (.ref a) (upd H a (ExcIs true a C none))) :
    wpAny (model X.prog X.w) X.A (call (.ref C) us) (EP X pins σ Q) X.xe s := by
  have K := I.kIn
  unfold excIn at hm
  split at hm
  · rename_i dd cd sl ho
    split at hm
    · rename_i C' bm k0 k1 k2 k3 n k5 e1 e2
      simp only [Bool.and_eq_true, beq_iff_eq, Bool.not_eq_true'] at hm
      obtain ⟨⟨⟨⟨⟨rfl, rfl⟩, hdel⟩, ht⟩, hok⟩, hni⟩ := hm
      obtain ⟨nm, bs, mro, ns, qn, hd, sn, sub, ab, col, del⟩ := cd
      dsimp only at e1 hdel hok hni
      subst e1 hdel
      have hsl : sl = #[k0, k1, k2, k3, some (.builtin "ValueError.__new__"), k5] := by
        obtain ⟨l⟩ := sl
        exact congrArg Array.mk e2
      subst hsl
      obtain ⟨hh, g, d, tk, os⟩ := s
      refine wpAny_call_exc_subT PySem.F.excBase_ValueError (tail_of_in K ht) (K _ _ ho) (.of_isNs (isNs_of_in K hok)) (nsMap_none_of_in K hok hni) (fun h' a made => ?_) hl
      obtain ⟨tt, h1, _, _⟩ := made.there
      exact ⟨.ref a, _, CT.Inv.laidN (t' := tk) I made.keeps made.new (exc_ok h1 rfl fun _ => rfl), rfl, h a (HOk.noAt I.hok made.new)⟩
    · cases hm
  · cases hm
def tX0 (C : Addr) : TE := fun _ H Q => ∀ a, H a = none → Q (.ref a) (upd H a (ExcIs true a C none))
theorem pe_x0 (hm : excIn X.K C bmV "ValueError.__new__" = true) (hk : keepIn X.K (.ref C) = true) (hg : Gl X x) (hx : X.mg x = some (.ref C)) (hdb : (x == ("__debug__" : Str)) = false := by decide) : PE X (.Call (.Name x p) [] [] pos) (tX0 C) := by
  intro pins s σ H Q I h
  refine wpAny_Call_Name_kw (ld_glob I hg hx ?_ hdb)
  exact callWith_K0 I.kIn hk (run_x0 (us := []) I hm (Nat.zero_le _) h)
/-- .. with one -/
structure XMk (K : Frag) (C f : Addr) : Prop where
  makes : xmkIn K C = true
  init : findIn K (.ref C) "__init__" = some (some (.ref f))
  fn : isFn K (.ref f) = true
  kp : keepIn K (.ref C) = true
end
end CT
set_option Elab.async false
set_option linter.all false
set_option maxRecDepth 100000
/-! THE DATA LAYER: pure code by the data that it comes to -/
namespace CT
open PySem PySem.Spec L2
open PyProof.Rows hiding St
/-- data, and instances that are never changed once made -/
inductive D where
  | non | bl (b : Bool) | int (i : Int) | str (x : Str) | tup (xs : List D) | lst (xs : List D) | ins (C : Addr) (fs : List (Str × D)) | exc (C : Addr) (fs : List (Str × D))
  /-- a built-in type; a class or function of the module -/
  | ty (n : String) | cl (C : Addr)
  /-- a dict that is not changed: by ints and texts; by tuples -/
  | dct (kvs : List (D × D)) | pdc (es : List (PK × D))
mutual
/-- a key as data -/
def PK.d : PK → D
  | .i n => .int n
  | .t l => .tup (PK.dL l)
def PK.dL : List PK → List D
  | [] => []
  | k :: ks => PK.d k :: PK.dL ks
end
def keyD : Key → D
  | .inl i => .int i
  | .inr x => .str x
/-- the lists that may still be changed -/
abbrev Ad := Addr → Prop
/-- a list of the module -/
def SqK (K : PySem.W.Frag) (a : Addr) (xs : List V) : Prop :=
  ∃ (o : Obj) (its : Array Value) (n : Nat), K.lookup a = some o ∧ o.cls = .type "list" ∧ o.dict = none ∧ o.data = .seq its n ∧ its.size ≤ sizeLine ∧ Vals xs its.toList
mutual
/-- v reads as d in the heap H, without the addresses S -/
inductive Rds (K : PySem.W.Frag) (H : Hp) (S : Ad) : D → V → Prop
  | non : Rds K H S .non .non
  | bl (b : Bool) : Rds K H S (.bl b) (.bl b)
  | int (i : Int) : Rds K H S (.int i) (.int i)
  | str (x : Str) : Rds K H S (.str x) (.str x)
  | ty (n : String) : Rds K H S (.ty n) (.ty n)
  | cl (C : Addr) : Rds K H S (.cl C) (.ref C)
  | tup {a : Addr} {vs : List V} {xs : List D} : H a = some (.tup vs) → ¬ S a → RdsL K H S xs vs → Rds K H S (.tup xs) (.ref a)
  | lst {a : Addr} {vs : List V} {xs : List D} : Rd H a (.lst vs) → ¬ S a → RdsL K H S xs vs → Rds K H S (.lst xs) (.ref a)
  | lstK {a : Addr} {vs : List V} {xs : List D} : SqK K a vs → RdsL K H S xs vs → Rds K H S (.lst xs) (.ref a)
  | ins {a C dx : Addr} {fs : List (Str × D)} {gs : List (Str × V)} : H a = some (.ins C dx gs) → ¬ S a → RdsF K H S fs gs → Rds K H S (.ins C fs) (.ref a)
  | exc0 {fr : Bool} {a C : Addr} : H a = some (ExcIs fr a C none) → ¬ S a → Rds K H S (.exc C []) (.ref a)
  | exc {fr : Bool} {a C dx : Addr} {fs : List (Str × D)} {gs : List (Str × V)} : H a = some (ExcIs fr a C (some dx)) → H dx = some (NsIs dx gs) → ¬ S a → ¬ S dx → RdsF K H S fs gs → Rds K H S (.exc C fs) (.ref a)
  | dK {a : Addr} {kvs : List (Key × V)} {es : List (D × D)} : H a = some (.dK kvs) → ¬ S a → es.map (·.1) = kvs.map (fun p => keyD p.1) → RdsL K H S (es.map (·.2)) (kvs.map (·.2)) → Rds K H S (.dct es) (.ref a)
  | dP {a : Addr} {ep : Nat} {kvs : List (PK × Addr × V)} {es : List (PK × D)} : H a = some (PD a ep kvs) → ¬ S a → RdsP K H S es kvs → Rds K H S (.pdc es) (.ref a)
inductive RdsL (K : PySem.W.Frag) (H : Hp) (S : Ad) : List D → List V → Prop
  | nil : RdsL K H S [] []
  | cons {d : D} {v : V} {ds : List D} {vs : List V} : Rds K H S d v → RdsL K H S ds vs → RdsL K H S (d :: ds) (v :: vs)
inductive RdsP (K : PySem.W.Frag) (H : Hp) (S : Ad) : List (PK × D) → List (PK × Addr × V) → Prop
  | nil : RdsP K H S [] []
  | cons {k : PK} {a : Addr} {d : D} {v : V} {ds : List (PK × D)} {vs : List (PK × Addr × V)} : k.dp ≤ 8 → Rds K H S (PK.d k) (.ref a) → Rds K H S d v → RdsP K H S ds vs → RdsP K H S ((k, d) :: ds) ((k, a, v) :: vs)
inductive RdsF (K : PySem.W.Frag) (H : Hp) (S : Ad) : List (Str × D) → List (Str × V) → Prop
  | nil : RdsF K H S [] []
  | cons {n : Str} {d : D} {v : V} {ds : List (Str × D)} {vs : List (Str × V)} : Rds K H S d v → RdsF K H S ds vs → RdsF K H S ((n, d) :: ds) ((n, v) :: vs)
end
/-- all but S is as it was -/
def Ext (S : Ad) (H H' : Hp) : Prop := ∀ a o, ¬ S a → H a = some o → H' a = some o
abbrev no : Ad := fun _ => False
abbrev Ext0 (H H' : Hp) : Prop := Ext no H H'
theorem Ext.refl {S : Ad} {H : Hp} : Ext S H H := fun _ _ _ e => e
theorem Ext.trans {S : Ad} {H H1 H2 : Hp} (a : Ext S H H1) (b : Ext S H1 H2) : Ext S H H2 := fun c o n e => b c o n (a c o n e)
theorem Ext.to {H H' : Hp} (e : Ext0 H H') (S : Ad) : Ext S H H' := fun a o _ h => e a o (fun z => z) h
theorem Ext.new {H : Hp} {p : Addr} {o : HO} (hp : H p = none) : Ext0 H (upd H p o) := fun a u _ e => by rw [upd_ne (ne_of_none e hp)]; exact e
theorem Ext.set {H : Hp} {S : Ad} {p : Addr} {o : HO} (hp : S p) : Ext S H (upd H p o) := fun a u n e => by rw [upd_ne (fun z : a = p => n (by rw [z]; exact hp))]; exact e
theorem Ext.ne {H H' : Hp} (e : Ext0 H H') {a : Addr} (h : H a ≠ none) : H' a ≠ none := by
  cases q : H a with
  | none => exact absurd q h
  | some o => rw [e a o (fun z => z) q]; intro z; cases z
theorem Rd.ext {S : Ad} {H H' : Hp} {a : Addr} {u : HO} (e : Ext S H H') (n : ¬ S a) (r : Rd H a u) : Rd H' a u := r.elim (fun z => .inl (e _ _ n z)) fun ⟨o, z⟩ => .inr ⟨o, e _ _ n z⟩
section
variable {K : PySem.W.Frag} {H H' : Hp} {S S' : Ad}
mutual
theorem Rds.ext (e : Ext S H H') : ∀ {d : D} {v : V}, Rds K H S d v → Rds K H' S d v
  | _, _, .non => .non
  | _, _, .bl b => .bl b
  | _, _, .int i => .int i
  | _, _, .str x => .str x
  | _, _, .ty n => .ty n
  | _, _, .cl C => .cl C
  | _, _, .tup h n r => .tup (e _ _ n h) n (RdsL.ext e r)
  | _, _, .lst h n r => .lst (CT.Rd.ext e n h) n (RdsL.ext e r)
  | _, _, .lstK h r => .lstK h (RdsL.ext e r)
  | _, _, .ins h n r => .ins (e _ _ n h) n (RdsF.ext e r)
  | _, _, .exc0 h n => .exc0 (e _ _ n h) n
  | _, _, .exc h h2 n n2 r => .exc (e _ _ n h) (e _ _ n2 h2) n n2 (RdsF.ext e r)
  | _, _, .dK h n k r => .dK (e _ _ n h) n k (RdsL.ext e r)
  | _, _, .dP h n r => .dP (e _ _ n h) n (RdsP.ext e r)
theorem RdsP.ext (e : Ext S H H') : ∀ {ds : List (PK × D)} {vs : List (PK × Addr × V)}, RdsP K H S ds vs → RdsP K H' S ds vs
  | _, _, .nil => .nil
  | _, _, .cons p k r t => .cons p (Rds.ext e k) (Rds.ext e r) (RdsP.ext e t)
theorem RdsL.ext (e : Ext S H H') : ∀ {ds : List D} {vs : List V}, RdsL K H S ds vs → RdsL K H' S ds vs
  | _, _, .nil => .nil
  | _, _, .cons r t => .cons (Rds.ext e r) (RdsL.ext e t)
theorem RdsF.ext (e : Ext S H H') : ∀ {ds : List (Str × D)} {vs : List (Str × V)}, RdsF K H S ds vs → RdsF K H' S ds vs
  | _, _, .nil => .nil
  | _, _, .cons r t => .cons (Rds.ext e r) (RdsF.ext e t)
end
mutual
/-- other addresses are left out: they were left out, or nothing stands there -/
theorem Rds.av (e : ∀ a, S' a → S a ∨ H a = none) : ∀ {d : D} {v : V}, Rds K H S d v → Rds K H S' d v
  | _, _, .non => .non
  | _, _, .bl b => .bl b
  | _, _, .int i => .int i
  | _, _, .str x => .str x
  | _, _, .ty n => .ty n
  | _, _, .cl C => .cl C
  | _, _, .tup h n r => .tup h (fun z => (e _ z).elim n fun q => by rw [h] at q; cases q) (RdsL.av e r)
  | _, _, .lst h n r => .lst h (fun z => (e _ z).elim n fun q => by rcases h with h | ⟨_, h⟩ <;> (rw [h] at q; cases q)) (RdsL.av e r)
  | _, _, .lstK h r => .lstK h (RdsL.av e r)
  | _, _, .ins h n r => .ins h (fun z => (e _ z).elim n fun q => by rw [h] at q; cases q) (RdsF.av e r)
  | _, _, .exc0 h n => .exc0 h (fun z => (e _ z).elim n fun q => by rw [h] at q; cases q)
  | _, _, .exc h h2 n n2 r => .exc h h2 (fun z => (e _ z).elim n fun q => by rw [h] at q; cases q) (fun z => (e _ z).elim n2 fun q => by rw [h2] at q; cases q) (RdsF.av e r)
  | _, _, .dK h n k r => .dK h (fun z => (e _ z).elim n fun q => by rw [h] at q; cases q) k (RdsL.av e r)
  | _, _, .dP h n r => .dP h (fun z => (e _ z).elim n fun q => by rw [h] at q; cases q) (RdsP.av e r)
theorem RdsP.av (e : ∀ a, S' a → S a ∨ H a = none) : ∀ {ds : List (PK × D)} {vs : List (PK × Addr × V)}, RdsP K H S ds vs → RdsP K H S' ds vs
  | _, _, .nil => .nil
  | _, _, .cons p k r t => .cons p (Rds.av e k) (Rds.av e r) (RdsP.av e t)
theorem RdsL.av (e : ∀ a, S' a → S a ∨ H a = none) : ∀ {ds : List D} {vs : List V}, RdsL K H S ds vs → RdsL K H S' ds vs
  | _, _, .nil => .nil
  | _, _, .cons r t => .cons (Rds.av e r) (RdsL.av e t)
theorem RdsF.av (e : ∀ a, S' a → S a ∨ H a = none) : ∀ {ds : List (Str × D)} {vs : List (Str × V)}, RdsF K H S ds vs → RdsF K H S' ds vs
  | _, _, .nil => .nil
  | _, _, .cons r t => .cons (Rds.av e r) (RdsF.av e t)
end
theorem RdsL.length : ∀ {ds : List D} {vs : List V}, RdsL K H S ds vs → ds.length = vs.length
  | _, _, .nil => rfl
  | _, _, .cons _ t => by rw [List.length_cons, List.length_cons, RdsL.length t]
theorem RdsL.get : ∀ {ds : List D} {vs : List V} {i : Nat} {d : D}, RdsL K H S ds vs → ds[i]? = some d → ∃ v, vs[i]? = some v ∧ Rds K H S d v
  | _, _, 0, _, .cons r _, e => by simp at e; subst e; exact ⟨_, rfl, r⟩
  | _, _, i + 1, _, .cons _ t, e => by
    obtain ⟨v, h1, h2⟩ := RdsL.get (i := i) t (by simpa using e)
    exact ⟨v, by simpa using h1, h2⟩
theorem RdsL.app : ∀ {ds es : List D} {vs us : List V}, RdsL K H S ds vs → RdsL K H S es us → RdsL K H S (ds ++ es) (vs ++ us)
  | _, _, _, _, .nil, s => s
  | _, _, _, _, .cons r t, s => .cons r (RdsL.app t s)
theorem RdsL.rep {d : D} {v : V} (r : Rds K H S d v) : ∀ n : Nat, RdsL K H S (List.replicate n d) (List.replicate n v)
  | 0 => .nil
  | n + 1 => .cons r (RdsL.rep r n)
theorem RdsF.look {f : Str} : ∀ {ds : List (Str × D)} {vs : List (Str × V)} {d : D}, RdsF K H S ds vs → ds.lookup f = some d → ∃ v, vs.lookup f = some v ∧ Rds K H S d v
  | (n, x) :: r, _, d, .cons q t, e => by
    rw [List.lookup_cons] at e ⊢
    cases hb : f == n with
    | true => rw [hb] at e; cases e; exact ⟨_, rfl, q⟩
    | false => rw [hb] at e; exact RdsF.look t e
theorem RdsF.none {f : Str} : ∀ {ds : List (Str × D)} {vs : List (Str × V)}, RdsF K H S ds vs → ds.lookup f = none → vs.lookup f = none
  | [], _, .nil, _ => rfl
  | (n, x) :: r, _, .cons q t, e => by
    rw [List.lookup_cons] at e ⊢
    cases hb : f == n with
    | true => rw [hb] at e; cases e
    | false => rw [hb] at e; exact RdsF.none t e
theorem Rds.intV {i : Int} {v : V} (r : Rds K H S (.int i) v) : v = .int i := by cases r; rfl
theorem Rds.blV {b : Bool} {v : V} (r : Rds K H S (.bl b) v) : v = .bl b := by cases r; rfl
theorem Rds.tyV {n : String} {v : V} (r : Rds K H S (.ty n) v) : v = .ty n := by cases r; rfl
theorem Rds.tupV {xs : List D} {v : V} (r : Rds K H S (.tup xs) v) : ∃ a vs, v = .ref a ∧ H a = some (.tup vs) ∧ RdsL K H S xs vs := by cases r with | tup h n r => exact ⟨_, _, rfl, h, r⟩
theorem Rds.lstV {xs : List D} {v : V} (r : Rds K H S (.lst xs) v) : ∃ a vs, v = .ref a ∧ SqL K H a vs ∧ RdsL K H S xs vs := by
  cases r with
  | lst h n r => exact ⟨_, _, rfl, .inl h, r⟩
  | lstK h r => exact ⟨_, _, rfl, .inr h, r⟩
theorem Rds.insV {C : Addr} {fs : List (Str × D)} {v : V} (r : Rds K H S (.ins C fs) v) : ∃ a dx gs, v = .ref a ∧ H a = some (.ins C dx gs) ∧ RdsF K H S fs gs := by cases r with | ins h n r => exact ⟨_, _, _, rfl, h, r⟩
theorem RdsL.one {d : D} {vs : List V} (r : RdsL K H S [d] vs) : ∃ v, vs = [v] ∧ Rds K H S d v := by cases r with | cons r t => cases t; exact ⟨_, rfl, r⟩
theorem RdsL.two {d e : D} {vs : List V} (r : RdsL K H S [d, e] vs) : ∃ v u, vs = [v, u] ∧ Rds K H S d v ∧ Rds K H S e u := by
  cases r with | cons r t => obtain ⟨u, rfl, q⟩ := t.one; exact ⟨_, _, rfl, r, q⟩
/-- a new tuple, a new list -/
def Dom (H : Hp) (S : Ad) : Prop := ∀ a, S a → H a ≠ none
theorem Dom.ext {H H' : Hp} {S : Ad} (d : Dom H S) (e : Ext0 H H') : Dom H' S := fun a h => e.ne (d a h)
theorem Dom.not {H : Hp} {S : Ad} (d : Dom H S) {p : Addr} (hp : H p = Option.none) : ¬ S p := fun z => d p z hp
theorem Rds.newTup {p : Addr} {vs : List V} {xs : List D} (dm : Dom H S) (hp : H p = Option.none) (r : RdsL K H S xs vs) : Rds K (upd H p (.tup vs)) S (.tup xs) (.ref p) := .tup upd_same (dm.not hp) (r.ext ((Ext.new hp).to S))
theorem Rds.newLst {p : Addr} {vs : List V} {xs : List D} (dm : Dom H S) (hp : H p = Option.none) (r : RdsL K H S xs vs) : Rds K (upd H p (.lst vs)) S (.lst xs) (.ref p) := .lst (.inl upd_same) (dm.not hp) (r.ext ((Ext.new hp).to S))
end
/-! ### slots -/
/-- a name: not set; unknown; data; a list of one's own that may still be changed -/
inductive Ow where
  | l (xs : List D) | d (es : List (PK × D))
/-- what it is once it is given up -/
def Ow.D : Ow → D
  | .l xs => .lst xs
  | .d es => .pdc es
/-- the object at a holds it -/
def OwIs (K : PySem.W.Frag) (H : Hp) (S : Ad) (a : Addr) : Ow → HO → Prop
  | .l xs, o => ∃ vs, o = .lst vs ∧ RdsL K H S xs vs
  | .d es, o => ∃ ep kvs, o = PD a ep kvs ∧ RdsP K H S es kvs
inductive Sl where
  | nil | any | val (d : D) | owx (c : Ow) | new (C x dx : Addr) (fs : List (Str × D))
abbrev Sl.own (xs : List D) : Sl := .owx (.l xs)
section
variable {K : PySem.W.Frag} {H H' : Hp} {S S' : Ad} {a : Addr} {c : Ow} {o : HO}
theorem OwIs.ext (e : Ext S H H') (h : OwIs K H S a c o) : OwIs K H' S a c o := by
  cases c with
  | l xs => obtain ⟨vs, q, r⟩ := h; exact ⟨vs, q, r.ext e⟩
  | d es => obtain ⟨ep, vs, q, r⟩ := h; exact ⟨ep, vs, q, r.ext e⟩
theorem OwIs.av (e : ∀ a, S' a → S a ∨ H a = none) (h : OwIs K H S a c o) : OwIs K H S' a c o := by
  cases c with
  | l xs => obtain ⟨vs, q, r⟩ := h; exact ⟨vs, q, r.av e⟩
  | d es => obtain ⟨ep, vs, q, r⟩ := h; exact ⟨ep, vs, q, r.av e⟩
/-- given up -/
theorem OwIs.rds (h : OwIs K H S a c o) (ha : H a = some o) (n : ¬ S a) : Rds K H S c.D (.ref a) := by
  cases c with
  | l xs => obtain ⟨vs, rfl, r⟩ := h; exact .lst (.inl ha) n r
  | d es => obtain ⟨ep, vs, rfl, r⟩ := h; exact .dP ha n r
/-- neither a tuple nor an instance nor a name's place -/
theorem OwIs.sort (h : OwIs K H S a c o) : (∃ vs, o = .lst vs) ∨ ∃ ep kvs, o = PD a ep kvs := by
  cases c with
  | l xs => obtain ⟨vs, rfl, r⟩ := h; exact .inl ⟨vs, rfl⟩
  | d es => obtain ⟨ep, vs, rfl, r⟩ := h; exact .inr ⟨ep, vs, rfl⟩
end
abbrev Rho := List Sl
def Sl.owns : Sl → Prop
  | .owx _ => True | .new _ _ _ _ => True | _ => False
def RO (K : PySem.W.Frag) (H : Hp) (S : Ad) : Sl → Option V → Prop
  | .nil, v => v = none
  | .any, _ => True
  | .val d, v => ∃ u, v = some u ∧ Rds K H S d u
  | .owx c, v => ∃ a o, v = some (.ref a) ∧ S a ∧ H a = some o ∧ OwIs K H S a c o
  | .new C x dx fs, v => ∃ gs, v = some (.ref x) ∧ S x ∧ H x = some (.ins C dx gs) ∧ RdsF K H S fs gs
theorem RO.ext {K : PySem.W.Frag} {H H' : Hp} {S : Ad} (e : Ext0 H H') : ∀ {x : Sl} {v : Option V}, RO K H S x v → RO K H' S x v
  | .nil, _, h => h
  | .any, _, _ => trivial
  | .val _, _, ⟨u, h, r⟩ => ⟨u, h, r.ext (e.to S)⟩
  | .owx _, _, ⟨a, vs, h, s, o, r⟩ => ⟨a, vs, h, s, e _ _ (fun z => z) o, r.ext (e.to S)⟩
  | .new _ _ _ _, _, ⟨gs, h, s, o, r⟩ => ⟨gs, h, s, e _ _ (fun z => z) o, r.ext (e.to S)⟩
structure VE (K : PySem.W.Frag) (H : Hp) (S : Ad) (ρ : Rho) (σ : St) : Prop where
  len : ρ.length = σ.length
  rel : ∀ (i : Nat) (x : Sl), ρ[i]? = some x → ∃ v, σ[i]? = some v ∧ RO K H S x v
  dist : ∀ (i j : Nat) (x y : Sl) (a : Addr), i ≠ j → ρ[i]? = some x → ρ[j]? = some y → x.owns → y.owns → σ[i]? = some (some (.ref a)) → σ[j]? ≠ some (some (.ref a))
  dom : Dom H S
section
variable {K : PySem.W.Frag} {H H' : Hp} {S : Ad} {ρ : Rho} {σ : St} {i : Nat}
theorem VE.ext (v : VE K H S ρ σ) (e : Ext0 H H') : VE K H' S ρ σ := ⟨v.len, fun i x h => let ⟨u, h1, h2⟩ := v.rel i x h; ⟨u, h1, h2.ext e⟩, v.dist, v.dom.ext e⟩
theorem VE.get {d : D} (v : VE K H S ρ σ) (h : ρ[i]? = some (.val d)) : ∃ u, σ[i]? = some (some u) ∧ Rds K H S d u := by
  obtain ⟨w, h1, u, rfl, r⟩ := v.rel i _ h
  exact ⟨u, h1, r⟩
theorem VE.set {d : D} {u : V} (v : VE K H S ρ σ) (r : Rds K H S d u) : VE K H S (ρ.set i (.val d)) (σ.set i (some u)) := by
  refine ⟨by simpa using v.len, fun j x h => ?_, fun j k x y a hjk h1 h2 o1 o2 h3 => ?_, v.dom⟩
  · by_cases hj : i = j
    · subst hj
      have hi : i < ρ.length := by
        have := (List.getElem?_eq_some_iff.mp h).1
        simpa using this
      rw [List.getElem?_set_self hi] at h
      cases h
      exact ⟨some u, List.getElem?_set_self (v.len ▸ hi), u, rfl, r⟩
    · rw [List.getElem?_set_ne hj] at h ⊢
      exact v.rel j x h
  · have n1 : i ≠ j := fun z => by
      subst z
      have hi := (List.getElem?_eq_some_iff.mp h1).1
      rw [List.getElem?_set_self (by simpa using hi)] at h1; cases h1; exact o1
    have n2 : i ≠ k := fun z => by
      subst z
      have hi := (List.getElem?_eq_some_iff.mp h2).1
      rw [List.getElem?_set_self (by simpa using hi)] at h2; cases h2; exact o2
    rw [List.getElem?_set_ne n1] at h1 h3
    rw [List.getElem?_set_ne n2] at h2 ⊢
    exact v.dist j k x y a hjk h1 h2 o1 o2 h3
theorem VE.unset (v : VE K H S ρ σ) (h : ρ[i]? = some .nil) : σ[i]? = some none := by
  obtain ⟨w, h1, rfl⟩ := v.rel i _ h
  exact h1
end
/-! ### the judgements -/
/-- e comes to d, nothing is changed -/
def tD (K : PySem.W.Frag) (ρ : Rho) (d : D) : TE := fun σ H Q => ∃ S, VE K H S ρ σ ∧ ∀ v H', Ext0 H H' → Rds K H' S d v → Q v H'
def tDT (K : PySem.W.Frag) (ρ : Rho) (b : Bool) : TT := fun σ H Q => ∃ S, VE K H S ρ σ ∧ ∀ H', Ext0 H H' → Q b H'
def tDA (K : PySem.W.Frag) (ρ : Rho) (ds : List D) : TA := fun σ H Q => ∃ S, VE K H S ρ σ ∧ ∀ vs H', Ext0 H H' → RdsL K H' S ds vs → Q vs H'
def DE (X : Cx) (ρ : Rho) (e : Expr) (d : D) : Prop := PE X e (tD X.K ρ d)
def DT (X : Cx) (ρ : Rho) (e : Expr) (b : Bool) : Prop := PT X e (tDT X.K ρ b)
def DW (X : Cx) (ρ : Rho) (e : Expr) (b : Bool) : Prop := PW X e (tDT X.K ρ b)
def DA (X : Cx) (ρ : Rho) (es : List Expr) (ds : List D) : Prop := PA X es (tDA X.K ρ ds)
section
variable {X : Cx}
theorem PE.weak {e : Expr} {t t' : TE} (h : PE X e t) (w : ∀ σ H Q, t' σ H Q → t σ H Q) : PE X e t' := fun pins s σ H Q I q => h pins s σ H Q I (w σ H Q q)
theorem PT.weak {e : Expr} {t t' : TT} (h : PT X e t) (w : ∀ σ H Q, t' σ H Q → t σ H Q) : PT X e t' := fun pins s σ H Q I q => h pins s σ H Q I (w σ H Q q)
theorem PW.weak {e : Expr} {t t' : TT} (h : PW X e t) (w : ∀ σ H Q, t' σ H Q → t σ H Q) : PW X e t' := fun wh pins s σ H Q I q => h wh pins s σ H Q I (w σ H Q q)
theorem PA.weak {es : List Expr} {t t' : TA} (h : PA X es t) (w : ∀ σ H Q, t' σ H Q → t σ H Q) : PA X es t' := fun pos pins s σ H Q I q => h pos pins s σ H Q I (w σ H Q q)
theorem PS.weak {st : Stmt} {t t' : TS} (h : PS X st t) (w : ∀ D σ H, t' D σ H → t D σ H) : PS X st t' := fun pins s σ H D I q => h pins s σ H D I (w D σ H q)
theorem PSs.weak {st : List Stmt} {t t' : TS} (h : PSs X st t) (w : ∀ D σ H, t' D σ H → t D σ H) : PSs X st t' := fun pins s σ H D I q => h pins s σ H D I (w D σ H q)
variable {ρ : Rho} {a b c e : Expr} {pos : Pos} {d da db dc : D}
/-! ### names, constants -/
theorem de_var {i : Nat} {x : Str} (hN : X.N[i]? = some x) (hv : Vis X.env.scope x) (hr : ρ[i]? = some (.val d)) (hd : (x == ("__debug__" : Str)) = false := by decide) (hcd : (x == ("__classdict__" : Str)) = false := by decide) : DE X ρ (.Name x pos) d :=
  PE.weak (pe_var hN hv hd hcd) fun σ H Q ⟨S, ve, k⟩ => let ⟨u, h1, r⟩ := ve.get hr; ⟨u, h1, k u H Ext.refl r⟩
theorem de_int {i : Int} {j} : DE X ρ (.Constant (.int i) j pos) (.int i) := PE.weak pe_int fun σ H Q ⟨S, ve, k⟩ => k _ H Ext.refl (.int i)
theorem de_bl {q : Bool} {j} : DE X ρ (.Constant (.bool q) j pos) (.bl q) := PE.weak pe_bl fun σ H Q ⟨S, ve, k⟩ => k _ H Ext.refl (.bl q)
theorem de_non {j} : DE X ρ (.Constant .none j pos) .non := PE.weak pe_non fun σ H Q ⟨S, ve, k⟩ => k _ H Ext.refl .non
theorem de_str {x : Str} {j} : DE X ρ (.Constant (.str x) j pos) (.str x) := PE.weak pe_str fun σ H Q ⟨S, ve, k⟩ => k _ H Ext.refl (.str x)
theorem de_ty {x : Str} {n : String} (hg : Gl X x) (hm : X.mg x = none) (hv : bootBuiltins x = some (.type n)) (hn : x ≠ "__name__" := by decide) (hd : (x == ("__debug__" : Str)) = false := by decide) : DE X ρ (.Name x pos) (.ty n) :=
  PE.weak (pe_bltn hg hm hv (v := .ty n) rfl hn hd) fun σ H Q ⟨S, ve, k⟩ => k _ H Ext.refl (.ty n)
theorem de_cl {x : Str} {C : Addr} (hg : Gl X x) (hm : X.mg x = some (.ref C)) (hd : (x == ("__debug__" : Str)) = false := by decide) : DE X ρ (.Name x pos) (.cl C) :=
  PE.weak (pe_glob hg hm (v := .ref C) rfl hd) fun σ H Q ⟨S, ve, k⟩ => k _ H Ext.refl (.cl C)
theorem de_globI {x : Str} {i : Int} {t : Tok} (hg : Gl X x) (hm : X.mg x = some (.int i t)) (hd : (x == ("__debug__" : Str)) = false := by decide) : DE X ρ (.Name x pos) (.int i) :=
  PE.weak (pe_glob hg hm (v := .int i) ⟨t, rfl⟩ hd) fun σ H Q ⟨S, ve, k⟩ => k _ H Ext.refl (.int i)
/-! ### operations -/
/-- the operation r takes da and db to d -/
def R2D (K : PySem.W.Frag) (r : R2) (da db d : D) : Prop := ∀ (x y : V) (H : Hp) (S : Ad) (Q : VK), Rds K H S da x → Rds K H S db y → Dom H S → (∀ v H', Ext0 H H' → Rds K H' S d v → Q v H') → r x y H Q
theorem op_D {r : R2} (h : R2D X.K r da db d) (σ : St) (H : Hp) (Q : VK) (q : tD X.K ρ d σ H Q) : tOp r (tD X.K ρ da) (tD X.K ρ db) σ H Q := by
  obtain ⟨S, ve, k⟩ := q
  exact ⟨S, ve, fun x H1 e1 r1 => ⟨S, ve.ext e1, fun y H2 e2 r2 => h x y H2 S Q (r1.ext (e2.to S)) r2 ((ve.ext e1).ext e2).dom fun v H' e3 r3 => k v H' (e1.trans (e2.trans e3)) r3⟩⟩
theorem de_op {op : Operator} {r : R2} (ho : OpR X (binaryOp op) r) (h : R2D X.K r da db d) (ha : DE X ρ a da) (hb : DE X ρ b db) : DE X ρ (.BinOp a op b pos) d := PE.weak (pe_op ho ha hb) (op_D h)
theorem de_cmp {op : CmpOp} {r : R2} (ho : OpR X (compareOp op) r) (h : R2D X.K r da db d) (ha : DE X ρ a da) (hb : DE X ρ b db) (hm : behindInMarks op b = false) : DE X ρ (.Compare a [op] [b] pos) d := PE.weak (pe_cmpR ho ha hb hm) (op_D h)
theorem tD_test {te : TE} {q : Bool} (h : ∀ σ H Q, tD X.K ρ (.bl q) σ H Q → te σ H Q) (σ : St) (H : Hp) (Q : Bool → Hp → Prop) (w : tDT X.K ρ q σ H Q) : tB te σ H Q := by
  obtain ⟨S, ve, k⟩ := w
  exact h σ H _ ⟨S, ve, fun v H' e r => ⟨q, r.blV, k H' e⟩⟩
theorem dt_cmp {op : CmpOp} {r : R2} {q : Bool} (ho : OpR X (compareOp op) r) (h : R2D X.K r da db (.bl q)) (ha : DE X ρ a da) (hb : DE X ρ b db) (hm : behindInMarks op b = false) : DT X ρ (.Compare a [op] [b] pos) q := by
  refine PT.weak (pt_cmpR ho ha hb hm) fun σ H Q w => ?_
  obtain ⟨S, ve, k⟩ := w
  exact op_D h σ H _ ⟨S, ve, fun v H' e r => by rw [r.blV]; exact ⟨q, rfl, k H' e⟩⟩
/-- a value that is a truth, as a test -/
theorem dt_val {q : Bool} (h : DE X ρ e (.bl q)) (he : ∀ whole, isTrue e X.env whole = (do let v ← whole; standAt e.pos; holding [v] (truthy v)) := by intro _; rfl) : DT X ρ e q := PT.weak (pt_val h he) (tD_test fun _ _ _ w => w)
theorem r2_add {i j : Int} {K : PySem.W.Frag} : R2D K (rI0 fun i j => .int (i + j)) (.int i) (.int j) (.int (i + j)) := fun x y H S Q rx ry dm k => ⟨i, j, rx.intV, ry.intV, k _ H Ext.refl (.int _)⟩
theorem r2_sub {i j : Int} {K : PySem.W.Frag} : R2D K (rI0 fun i j => .int (i - j)) (.int i) (.int j) (.int (i - j)) := fun x y H S Q rx ry dm k => ⟨i, j, rx.intV, ry.intV, k _ H Ext.refl (.int _)⟩
theorem r2_mul {i j : Int} {K : PySem.W.Frag} (h : CMul i j) : R2D K (rI CMul fun i j => .int (i * j)) (.int i) (.int j) (.int (i * j)) := fun x y H S Q rx ry dm k => ⟨i, j, rx.intV, ry.intV, h, k _ H Ext.refl (.int _)⟩
theorem r2_mod {i j : Int} {K : PySem.W.Frag} (h : 0 < j) : R2D K (rI (fun _ j => 0 < j) fun i j => .int (i % j)) (.int i) (.int j) (.int (i % j)) := fun x y H S Q rx ry dm k => ⟨i, j, rx.intV, ry.intV, h, k _ H Ext.refl (.int _)⟩
theorem r2_fdiv {i j : Int} {K : PySem.W.Frag} (h : CDiv i j) : R2D K (rI CDiv fun i j => .int (i / j)) (.int i) (.int j) (.int (i / j)) := fun x y H S Q rx ry dm k => ⟨i, j, rx.intV, ry.intV, h, k _ H Ext.refl (.int _)⟩
theorem r2_cmp {i j : Int} {K : PySem.W.Frag} {g : Int → Int → Bool} : R2D K (rI0 fun i j => .bl (g i j)) (.int i) (.int j) (.bl (g i j)) := fun x y H S Q rx ry dm k => ⟨i, j, rx.intV, ry.intV, k _ H Ext.refl (.bl _)⟩
theorem de_add {i j : Int} (ha : DE X ρ a (.int i)) (hb : DE X ρ b (.int j)) : DE X ρ (.BinOp a .Add b pos) (.int (i + j)) := de_op op_add r2_add ha hb
theorem de_sub {i j : Int} (ha : DE X ρ a (.int i)) (hb : DE X ρ b (.int j)) : DE X ρ (.BinOp a .Sub b pos) (.int (i - j)) := de_op op_sub r2_sub ha hb
theorem de_mul {i j : Int} (h : CMul i j) (ha : DE X ρ a (.int i)) (hb : DE X ρ b (.int j)) : DE X ρ (.BinOp a .Mult b pos) (.int (i * j)) := de_op op_mul (r2_mul h) ha hb
theorem de_mod {i j : Int} (h : 0 < j) (ha : DE X ρ a (.int i)) (hb : DE X ρ b (.int j)) : DE X ρ (.BinOp a .Mod b pos) (.int (i % j)) := de_op op_mod (r2_mod h) ha hb
theorem de_fdiv {i j : Int} (h : CDiv i j) (ha : DE X ρ a (.int i)) (hb : DE X ρ b (.int j)) : DE X ρ (.BinOp a .FloorDiv b pos) (.int (i / j)) := de_op op_fdiv (r2_fdiv h) ha hb
theorem de_le {i j : Int} (ha : DE X ρ a (.int i)) (hb : DE X ρ b (.int j)) : DE X ρ (.Compare a [.LtE] [b] pos) (.bl (decide (i ≤ j))) := de_cmp op_le r2_cmp ha hb (nomark _)
theorem de_gt {i j : Int} (ha : DE X ρ a (.int i)) (hb : DE X ρ b (.int j)) : DE X ρ (.Compare a [.Gt] [b] pos) (.bl (decide (j < i))) := de_cmp op_gt r2_cmp ha hb (nomark _)
theorem de_ge {i j : Int} (ha : DE X ρ a (.int i)) (hb : DE X ρ b (.int j)) : DE X ρ (.Compare a [.GtE] [b] pos) (.bl (decide (j ≤ i))) := de_cmp op_ge r2_cmp ha hb (nomark _)
theorem dt_lt {i j : Int} (ha : DE X ρ a (.int i)) (hb : DE X ρ b (.int j)) : DT X ρ (.Compare a [.Lt] [b] pos) (decide (i < j)) := dt_cmp op_lt r2_cmp ha hb (nomark _)
theorem dt_gt {i j : Int} (ha : DE X ρ a (.int i)) (hb : DE X ρ b (.int j)) : DT X ρ (.Compare a [.Gt] [b] pos) (decide (j < i)) := dt_cmp op_gt r2_cmp ha hb (nomark _)
/-- scalars: == and != -/
def flat : D → Option V
  | .non => some .non | .bl b => some (.bl b) | .int i => some (.int i) | .str x => some (.str x)
  | _ => none
theorem flat_v {K : PySem.W.Frag} {H : Hp} {S : Ad} {d : D} {u v : V} (h : flat d = some u) (r : Rds K H S d v) : v = u := by
  cases r <;> (simp only [flat] at h; first | (cases h; rfl) | cases h)
theorem r2_eq {K : PySem.W.Frag} {u v : V} (ha : flat da = some u) (hb : flat db = some v) (hs : scal u v = true) : R2D K rEq da db (.bl (decide (u = v))) := fun x y H S Q rx ry dm k => by
  rw [flat_v ha rx, flat_v hb ry]
  exact ⟨hs, k _ H Ext.refl (.bl _)⟩
theorem r2_ne {K : PySem.W.Frag} {u v : V} (ha : flat da = some u) (hb : flat db = some v) (hs : scal u v = true) : R2D K rNe da db (.bl (!decide (u = v))) := fun x y H S Q rx ry dm k => by
  rw [flat_v ha rx, flat_v hb ry]
  exact ⟨hs, k _ H Ext.refl (.bl _)⟩
theorem dt_eqI {i j : Int} (ha : DE X ρ a (.int i)) (hb : DE X ρ b (.int j)) : DT X ρ (.Compare a [.Eq] [b] pos) (decide (i = j)) := by
  have := dt_cmp (pos := pos) op_eq (r2_eq (K := X.K) (da := .int i) (db := .int j) rfl rfl rfl) ha hb (nomark _)
  simpa using this
theorem dt_neI {i j : Int} (ha : DE X ρ a (.int i)) (hb : DE X ρ b (.int j)) : DT X ρ (.Compare a [.NotEq] [b] pos) (!decide (i = j)) := by
  have := dt_cmp (pos := pos) op_ne (r2_ne (K := X.K) (da := .int i) (db := .int j) rfl rfl rfl) ha hb (nomark _)
  simpa using this
theorem de_neg {i : Int} (ha : DE X ρ a (.int i)) : DE X ρ (.UnaryOp .USub a pos) (.int (-i)) :=
  PE.weak (pe_un un_neg ha) fun σ H Q ⟨S, ve, k⟩ => ⟨S, ve, fun v H' e r => ⟨i, r.intV, k _ H' e (.int _)⟩⟩
/-! ### and, or, not, if -/
theorem de_one {op} (h : DE X ρ a d) : DE X ρ (.BoolOp op [a] pos) d := pe_one h
theorem de_and {p q : Bool} {rest : List Expr} (ha : DE X ρ a (.bl p)) (hb : p = true → DE X ρ (.BoolOp .And (b :: rest) pos) (.bl q)) : DE X ρ (.BoolOp .And (a :: b :: rest) pos) (.bl (p && q)) := by
  cases p with
  | true => exact PE.weak (pe_and ha (hb rfl)) fun σ H Q ⟨S, ve, k⟩ => ⟨S, ve, fun v H' e r => ⟨true, r.blV, by refine iteT ?_; exact ⟨S, ve.ext e, fun v' H'' e' r' => k v' H'' (e.trans e') r'⟩⟩⟩
  | false =>
    have hn : PE X (.BoolOp .And (b :: rest) pos) (fun _ _ _ => False) := fun _ _ _ _ _ _ z => z.elim
    exact PE.weak (pe_and ha hn) fun σ H Q ⟨S, ve, k⟩ => ⟨S, ve, fun v H' e r => ⟨false, r.blV, by refine iteF ?_; exact k _ H' e (.bl _)⟩⟩
theorem de_not {p : Bool} (ha : DE X ρ a (.bl p)) : DE X ρ (.UnaryOp .Not a pos) (.bl (!p)) := PE.weak (pe_not ha) fun σ H Q ⟨S, ve, k⟩ => ⟨S, ve, fun v H' e r => ⟨p, r.blV, k _ H' e (.bl _)⟩⟩
theorem dt_not {p : Bool} (ha : DT X ρ a p) : DT X ρ (.UnaryOp .Not a pos) (!p) := PT.weak (pt_not ha) fun σ H Q ⟨S, ve, k⟩ => ⟨S, ve, fun H' e => k H' e⟩
theorem DW.dt {p : Bool} (h : DW X ρ e p) : DT X ρ e p := PW.pt h
theorem dw_and1 {p : Bool} (ha : DT X ρ a p) : DW X ρ (.BoolOp .And [a] pos) p := pw_and1 ha
theorem dw_or1 {p : Bool} (ha : DT X ρ a p) : DW X ρ (.BoolOp .Or [a] pos) p := pw_or1 ha
theorem dw_and {p q : Bool} {rest : List Expr} (ha : DT X ρ a p) (hb : p = true → DW X ρ (.BoolOp .And (b :: rest) pos) q) : DW X ρ (.BoolOp .And (a :: b :: rest) pos) (p && q) := by
  cases p with
  | true => exact PW.weak (pw_and ha (hb rfl)) fun σ H Q ⟨S, ve, k⟩ => ⟨S, ve, fun H' e => by refine iteT ?_; exact ⟨S, ve.ext e, fun H'' e' => k H'' (e.trans e')⟩⟩
  | false =>
    have hn : PW X (.BoolOp .And (b :: rest) pos) (fun _ _ _ => False) := fun _ _ _ _ _ _ _ z => z.elim
    exact PW.weak (pw_and ha hn) fun σ H Q ⟨S, ve, k⟩ => ⟨S, ve, fun H' e => by refine iteF ?_; exact k H' e⟩
theorem dw_or {p q : Bool} {rest : List Expr} (ha : DT X ρ a p) (hb : p = false → DW X ρ (.BoolOp .Or (b :: rest) pos) q) : DW X ρ (.BoolOp .Or (a :: b :: rest) pos) (p || q) := by
  cases p with
  | false => exact PW.weak (pw_or ha (hb rfl)) fun σ H Q ⟨S, ve, k⟩ => ⟨S, ve, fun H' e => by refine iteF ?_; exact ⟨S, ve.ext e, fun H'' e' => k H'' (e.trans e')⟩⟩
  | true =>
    have hn : PW X (.BoolOp .Or (b :: rest) pos) (fun _ _ _ => False) := fun _ _ _ _ _ _ _ z => z.elim
    exact PW.weak (pw_or ha hn) fun σ H Q ⟨S, ve, k⟩ => ⟨S, ve, fun H' e => by refine iteT ?_; exact k H' e⟩
theorem de_if {p : Bool} (hc : DT X ρ c p) (ha : p = true → DE X ρ a d) (hb : p = false → DE X ρ b d) : DE X ρ (.IfExp c a b pos) d := by
  have hn : ∀ e : Expr, PE X e (fun _ _ _ => False) := fun _ _ _ _ _ _ _ z => z.elim
  cases p with
  | true => exact PE.weak (pe_ifExp hc (ha rfl) (hn b)) fun σ H Q ⟨S, ve, k⟩ => ⟨S, ve, fun H' e => by refine iteT ?_; exact ⟨S, ve.ext e, fun v' H'' e' r' => k v' H'' (e.trans e') r'⟩⟩
  | false => exact PE.weak (pe_ifExp hc (hn a) (hb rfl)) fun σ H Q ⟨S, ve, k⟩ => ⟨S, ve, fun H' e => by refine iteF ?_; exact ⟨S, ve.ext e, fun v' H'' e' r' => k v' H'' (e.trans e') r'⟩⟩
/-! ### argument lists, displays, calls of built-ins, items -/
variable {es : List Expr} {ds : List D}
theorem da_nil : DA X ρ [] [] := PA.weak pa_nil fun σ H Q ⟨S, ve, k⟩ => k [] H Ext.refl .nil
theorem da_cons (ha : DE X ρ e d) (hr : DA X ρ es ds) (hs : starEach (e :: es) X.env = (false, eval e X.env) :: starEach es X.env := by rfl) : DA X ρ (e :: es) (d :: ds) :=
  PA.weak (pa_cons ha hr hs) fun σ H Q ⟨S, ve, k⟩ => ⟨S, ve, fun v H' e r => ⟨S, ve.ext e, fun vs H'' e' rs => k (v :: vs) H'' (e.trans e') (.cons (r.ext (e'.to S)) rs)⟩⟩
theorem de_tup {j} (h : DA X ρ es ds) (hl : ds.length ≤ sizeLine) : DE X ρ (.Tuple es j pos) (.tup ds) :=
  PE.weak (pe_tup h) fun σ H Q ⟨S, ve, k⟩ => ⟨S, ve, fun vs H' e rs => ⟨by rw [← rs.length]; exact hl, fun p hp => k _ _ (e.trans (Ext.new hp)) (Rds.newTup (ve.ext e).dom hp rs)⟩⟩
theorem de_lst (h : DA X ρ es ds) (hl : ds.length ≤ sizeLine) : DE X ρ (.List es pos) (.lst ds) :=
  PE.weak (pe_lst h) fun σ H Q ⟨S, ve, k⟩ => ⟨S, ve, fun vs H' e rs => ⟨by rw [← rs.length]; exact hl, fun p hp => k _ _ (e.trans (Ext.new hp)) (Rds.newLst (ve.ext e).dom hp rs)⟩⟩
/-- the call's rule r takes ds to d -/
def CD (K : PySem.W.Frag) (r : List V → Hp → VK → Prop) (ds : List D) (d : D) : Prop := ∀ (xs : List V) (H : Hp) (S : Ad) (Q : VK), RdsL K H S ds xs → Dom H S → (∀ v H', Ext0 H H' → Rds K H' S d v → Q v H') → r xs H Q
theorem call_D {r : List V → Hp → VK → Prop} (h : CD X.K r ds d) (σ : St) (H : Hp) (Q : VK) (q : tD X.K ρ d σ H Q) : tCB r (tDA X.K ρ ds) σ H Q := by
  obtain ⟨S, ve, k⟩ := q
  exact ⟨S, ve, fun vs H1 e1 rs => h vs H1 S Q rs (ve.ext e1).dom fun v H' e3 r3 => k v H' (e1.trans e3) r3⟩
end
end CT
set_option Elab.async false
set_option linter.all false
set_option maxRecDepth 100000
/-! THE DATA LAYER: what is walked, comprehensions, statements, defs -/
namespace CT
open PySem PySem.Spec L2
open PyProof.Rows hiding St
/-! ### what is walked -/
/-- J gives the items, in every later heap -/
def ItD (K : PySem.W.Frag) (S : Ad) (J : It) (its : List D) (H : Hp) : Prop :=
  ∀ (H' : Hp) (S' : Ad), Ext S H H' → (∀ a, S' a → S a ∨ H a = none) → Dom H' S' → ∀ i : Nat, (∀ d, its[i]? = some d → J.go i H' ∧ ∀ x H'', J.yld i H' x H'' → Ext0 H' H'' ∧ Rds K H'' S' d x) ∧ (its.length ≤ i → J.stop i H')
def tDI (K : PySem.W.Frag) (ρ : Rho) (its : List D) : TI := fun σ H R => ∃ S, VE K H S ρ σ ∧ ∀ J H', Ext0 H H' → ItD K S J its H' → R J H'
def DI (X : Cx) (tg : Expr) (ρ : Rho) (iter : Expr) (its : List D) : Prop := PI X tg iter (tDI X.K ρ its)
/-- .. in every later heap in which nothing is changed (a comprehension changes nothing) -/
def ItD0 (K : PySem.W.Frag) (S : Ad) (J : It) (its : List D) (H : Hp) : Prop :=
  ∀ H', Ext0 H H' → Dom H' S → ∀ i : Nat, (∀ d, its[i]? = some d → J.go i H' ∧ ∀ x H'', J.yld i H' x H'' → Ext0 H' H'' ∧ Rds K H'' S d x) ∧ (its.length ≤ i → J.stop i H')
def tDI0 (K : PySem.W.Frag) (ρ : Rho) (its : List D) : TI := fun σ H R => ∃ S, VE K H S ρ σ ∧ ∀ J H', Ext0 H H' → ItD0 K S J its H' → R J H'
def DI0 (X : Cx) (tg : Expr) (ρ : Rho) (iter : Expr) (its : List D) : Prop := PI X tg iter (tDI0 X.K ρ its)
section
variable {X : Cx} {tg e : Expr} {ρ : Rho} {pos : Pos}
theorem PI.weak {wi wi' : TI} (h : PI X tg e wi) (w : ∀ σ H R, wi' σ H R → wi σ H R) : PI X tg e wi' := fun pins s σ H R I q => h pins s σ H R I (w σ H R q)
theorem DI.dI0 {its : List D} (h : DI X tg ρ e its) : DI0 X tg ρ e its := PI.weak h fun σ H R ⟨S, ve, k⟩ => ⟨S, ve, fun J H' ex hJ => k J H' ex fun H'' ex' dm i => hJ H'' S (ex'.to S) (fun a h => .inl h) dm i⟩
theorem RdsL.later {K : PySem.W.Frag} {S S' : Ad} {H H' : Hp} {xs : List D} {vs : List V} (r : RdsL K H S xs vs) (e : Ext S H H') (h : ∀ a, S' a → S a ∨ H a = none) : RdsL K H' S' xs vs :=
  ((r.av (S' := fun a => S a ∨ S' a) fun a z => z.elim .inl (h a)).ext fun a o n q => e a o (fun z => n (.inl z)) q).av fun a z => .inl (.inr z)
theorem Rds.later_lst {K : PySem.W.Frag} {S : Ad} {H : Hp} {xs : List D} {v : V} (r : Rds K H S (.lst xs) v) : ∃ a vs, v = .ref a ∧ ∀ (H' : Hp) (S' : Ad), Ext S H H' → (∀ a, S' a → S a ∨ H a = none) → SqL K H' a vs ∧ RdsL K H' S' xs vs := by
  cases r with
  | lst h n r => exact ⟨_, _, rfl, fun H' S' e z => ⟨.inl (CT.Rd.ext e n h), r.later e z⟩⟩
  | lstK h r => exact ⟨_, _, rfl, fun H' S' e z => ⟨.inr h, r.later e z⟩⟩
theorem Rds.later_tup {K : PySem.W.Frag} {S : Ad} {H : Hp} {xs : List D} {v : V} (r : Rds K H S (.tup xs) v) : ∃ a vs, v = .ref a ∧ ∀ (H' : Hp) (S' : Ad), Ext S H H' → (∀ a, S' a → S a ∨ H a = none) → SqT K H' a vs ∧ RdsL K H' S' xs vs := by
  cases r with
  | tup h n r => exact ⟨_, _, rfl, fun H' S' e z => ⟨.inl (.inl (e _ _ n h)), r.later e z⟩⟩
theorem itd_lst {K : PySem.W.Frag} {S : Ad} {H : Hp} {xs : List D} {a : Addr} {vs : List V} (h : ∀ (H' : Hp) (S' : Ad), Ext S H H' → (∀ a, S' a → S a ∨ H a = none) → SqL K H' a vs ∧ RdsL K H' S' xs vs) : ItD K S (Itl K a) xs H := by
  intro H' S' e z dm i
  obtain ⟨sq, rl⟩ := h H' S' e z
  refine ⟨fun d hd => ?_, fun hi => ⟨vs, sq, by rw [← rl.length]; exact hi⟩⟩
  obtain ⟨v, hv, r⟩ := rl.get hd
  refine ⟨⟨vs, v, sq, hv⟩, fun x H'' y => ?_⟩
  obtain ⟨e2, y⟩ := y
  subst e2
  have hx := y vs sq
  rw [hv] at hx; cases hx
  exact ⟨Ext.refl, r⟩
theorem itd_tup {K : PySem.W.Frag} {S : Ad} {H : Hp} {xs : List D} {a : Addr} {vs : List V} (h : ∀ (H' : Hp) (S' : Ad), Ext S H H' → (∀ a, S' a → S a ∨ H a = none) → SqT K H' a vs ∧ RdsL K H' S' xs vs) : ItD K S (Itt K a) xs H := by
  intro H' S' e z dm i
  obtain ⟨sq, rl⟩ := h H' S' e z
  refine ⟨fun d hd => ?_, fun hi => ⟨vs, sq, by rw [← rl.length]; exact hi⟩⟩
  obtain ⟨v, hv, r⟩ := rl.get hd
  refine ⟨⟨vs, v, sq, hv⟩, fun x H'' y => ?_⟩
  obtain ⟨e2, y⟩ := y
  subst e2
  have hx := y vs sq
  rw [hv] at hx; cases hx
  exact ⟨Ext.refl, r⟩
theorem di_lst {xs : List D} (h : DE X ρ e (.lst xs)) : DI X tg ρ e xs := PI.weak (pi_list h) fun σ H R ⟨S, ve, k⟩ => ⟨S, ve, fun v H' ex r => by
  obtain ⟨a, vs, rfl, l⟩ := r.later_lst
  exact ⟨a, rfl, ⟨vs, (l H' S Ext.refl fun a h => .inl h).1⟩, k _ H' ex (itd_lst l)⟩⟩
theorem di_tup {xs : List D} (h : DE X ρ e (.tup xs)) : DI X tg ρ e xs := PI.weak (pi_tup h) fun σ H R ⟨S, ve, k⟩ => ⟨S, ve, fun v H' ex r => by
  obtain ⟨a, vs, rfl, l⟩ := r.later_tup
  exact ⟨a, rfl, ⟨vs, (l H' S Ext.refl fun a h => .inl h).1⟩, k _ H' ex (itd_tup l)⟩⟩
/-- 0, 1, .. -/
def upto (n : Nat) : List D := (List.range n).map fun k : Nat => D.int (k : Int)
theorem itd_rng {K : PySem.W.Frag} {S : Ad} {H : Hp} {n : Nat} : ItD K S (Itr 0 n) (upto n) H := by
  intro H' S' e z dm i
  refine ⟨fun d hd => ?_, fun hi => show n ≤ i by simpa [upto] using hi⟩
  have hi : i < n := by
    have := (List.getElem?_eq_some_iff.mp hd).1
    simpa [upto] using this
  refine ⟨hi, fun x H'' y => ?_⟩
  obtain ⟨e2, e3⟩ := y
  subst e2 e3
  have hd' : d = .int (i : Int) := by
    rw [upto, List.getElem?_map, List.getElem?_range hi] at hd
    exact (Option.some.inj hd).symm
  subst hd'
  rw [Int.zero_add]
  exact ⟨Ext.refl, .int _⟩
theorem di_range {a : Expr} {j : Int} {p : Pos} (hg : Gl X "range") (hm : X.mg "range" = none) (ha : DA X ρ [a] [.int j]) (h1 : -(2 ^ 62) ≤ j) (h2 : j < 2 ^ 62) (hs : starEach [a] X.env = [(false, eval a X.env)] := by rfl) : DI X tg ρ (.Call (.Name "range" p) [a] [] pos) (upto j.toNat) :=
  PI.weak (pi_range1 hg hm ha hs) fun σ H R ⟨S, ve, k⟩ => ⟨S, ve, fun vs H' ex rs => by
    obtain ⟨v, rfl, r⟩ := rs.one
    rw [r.intV]
    exact ⟨j, rfl, h1, h2, k _ H' ex itd_rng⟩⟩
/-- a sequence: a list or a tuple -/
inductive Sq : D → List D → Prop
  | lst (xs : List D) : Sq (.lst xs) xs
  | tup (xs : List D) : Sq (.tup xs) xs
theorem Sq.later {K : PySem.W.Frag} {S : Ad} {H : Hp} {d : D} {xs : List D} {v : V} (q : Sq d xs) (r : Rds K H S d v) : ∃ b a vs, v = .ref a ∧ ∀ (H' : Hp) (S' : Ad), Ext S H H' → (∀ a, S' a → S a ∨ H a = none) → SqB K H' b a vs ∧ RdsL K H' S' xs vs := by
  cases q with
  | lst => obtain ⟨a, vs, e, l⟩ := r.later_lst; exact ⟨false, a, vs, e, l⟩
  | tup => obtain ⟨a, vs, e, l⟩ := r.later_tup; exact ⟨true, a, vs, e, l⟩
theorem di_sq {d : D} {xs : List D} (q : Sq d xs) (h : DE X ρ e d) : DI X tg ρ e xs := by
  cases q with
  | lst => exact di_lst h
  | tup => exact di_tup h
def zipD : List D → List D → List D
  | x :: xs, y :: ys => .tup [x, y] :: zipD xs ys
  | _, _ => []
theorem zipD_get : ∀ {xs ys : List D} {i : Nat} {d : D}, (zipD xs ys)[i]? = some d → ∃ x y, xs[i]? = some x ∧ ys[i]? = some y ∧ d = .tup [x, y]
  | x :: xs, y :: ys, 0, d, h => by
    simp [zipD] at h
    exact ⟨x, y, rfl, rfl, h.symm⟩
  | x :: xs, y :: ys, i + 1, d, h => by
    simp [zipD] at h
    obtain ⟨x', y', h1, h2, h3⟩ := zipD_get h
    exact ⟨x', y', by simpa using h1, by simpa using h2, h3⟩
  | [], _, _, _, h => by simp [zipD] at h
  | _ :: _, [], _, _, h => by simp [zipD] at h
theorem zipD_len : ∀ {xs ys : List D}, (zipD xs ys).length = min xs.length ys.length
  | x :: xs, y :: ys => by simp [zipD, zipD_len]
  | [], _ => by simp [zipD]
  | _ :: _, [] => by simp [zipD]
theorem di_zip2 {a b : Expr} {da db : D} {xs ys : List D} {elts : List Expr} {k} {tpos p : Pos} (hg : Gl X "zip") (hm : X.mg "zip" = none) (qa : Sq da xs) (qb : Sq db ys) (ha : DA X ρ [a, b] [da, db])
    (hs : starEach [a, b] X.env = [(false, eval a X.env), (false, eval b X.env)] := by rfl) (hs2 : starEach [b] X.env = [(false, eval b X.env)] := by rfl) : DI X (.Tuple elts k tpos) ρ (.Call (.Name "zip" p) [a, b] [] pos) (zipD xs ys) :=
  PI.weak (pi_zip2 hg hm ha hs hs2) fun σ H R ⟨S, ve, kk⟩ => ⟨S, ve, fun vs H' ex rs => by
    obtain ⟨v, u, rfl, r1, r2⟩ := rs.two
    obtain ⟨b1, a1, vs1, rfl, l1⟩ := qa.later r1
    obtain ⟨b2, a2, vs2, rfl, l2⟩ := qb.later r2
    refine ⟨b1, b2, a1, a2, vs1, vs2, rfl, (l1 H' S Ext.refl fun a h => .inl h).1, (l2 H' S Ext.refl fun a h => .inl h).1, kk _ H' ex fun H2 S2 e2 z2 dm i => ?_⟩
    obtain ⟨s1, t1⟩ := l1 H2 S2 e2 z2
    obtain ⟨s2, t2⟩ := l2 H2 S2 e2 z2
    refine ⟨fun d hd => ?_, fun hi => ⟨vs1, vs2, s1, s2, ?_⟩⟩
    · obtain ⟨x, y, hx, hy, rfl⟩ := zipD_get hd
      obtain ⟨x', hx', rx⟩ := t1.get hx
      obtain ⟨y', hy', ry⟩ := t2.get hy
      refine ⟨⟨vs1, vs2, x', y', s1, s2, hx', hy'⟩, fun z H3 yl => ?_⟩
      obtain ⟨T, x2, y2, hT, rfl, rfl, g1, g2⟩ := yl
      have e1 := g1 vs1 s1
      have e2' := g2 vs2 s2
      rw [hx'] at e1; cases e1
      rw [hy'] at e2'; cases e2'
      exact ⟨Ext.new hT, Rds.newTup dm hT (.cons rx (.cons ry .nil))⟩
    · have h1 := t1.length
      have h2 := t2.length
      rw [zipD_len] at hi
      omega⟩
end
/-! ### targets -/
def Chg (ks : List Nat) (σ σ' : St) : Prop := σ'.length = σ.length ∧ ∀ i : Nat, i ∉ ks → σ'[i]? = σ[i]?
theorem Chg.fgt {ks : List Nat} {σ σ' : St} (c : Chg ks σ σ') (h : ∀ k ∈ ks, σ[k]? = some none) : Fgt σ σ' := ⟨c.1.symm, fun i v e => by
  by_cases hi : i ∈ ks
  · rw [h i hi] at e; cases e
  · rw [c.2 i hi]; exact e⟩
theorem Chg.trans {ks ls : List Nat} {σ σ' σ'' : St} (a : Chg ks σ σ') (b : Chg ls σ' σ'') : Chg (ks ++ ls) σ σ'' := ⟨b.1.trans a.1, fun i hi => by
  rw [List.mem_append, not_or] at hi
  exact (b.2 i hi.2).trans (a.2 i hi.1)⟩
def tDG (K : PySem.W.Frag) (ρ : Rho) (d : D) (ρ' : Rho) (ks : List Nat) : TG := fun v σ H Q => ∃ S, VE K H S ρ σ ∧ Rds K H S d v ∧ ∀ σ', VE K H S ρ' σ' → Chg ks σ σ' → Q σ' H
def tDGs (K : PySem.W.Frag) (ρ : Rho) (ds : List D) (ρ' : Rho) (ks : List Nat) : TGs := fun vs σ H Q => ∃ S, VE K H S ρ σ ∧ RdsL K H S ds vs ∧ ∀ σ', VE K H S ρ' σ' → Chg ks σ σ' → Q σ' H
def DG (X : Cx) (tg : Expr) (ρ : Rho) (d : D) (ρ' : Rho) (ks : List Nat) : Prop := PG X tg (tDG X.K ρ d ρ' ks)
def DGs (X : Cx) (tgs : List Expr) (ρ : Rho) (ds : List D) (ρ' : Rho) (ks : List Nat) : Prop := PGs X tgs (tDGs X.K ρ ds ρ' ks)
section
variable {X : Cx} {ρ ρ' ρ'' : Rho} {d : D} {ds : List D} {ks ls : List Nat} {pos : Pos} {tg : Expr} {tgs : List Expr}
theorem PG.weak {g g' : TG} (h : PG X tg g) (w : ∀ v σ H Q, g' v σ H Q → g v σ H Q) : PG X tg g' := fun pins s σ H v u Q I r q => h pins s σ H v u Q I r (w v σ H Q q)
theorem PGs.weak {g g' : TGs} (h : PGs X tgs g) (w : ∀ v σ H Q, g' v σ H Q → g v σ H Q) : PGs X tgs g' := fun pins s σ H v u Q I r q => h pins s σ H v u Q I r (w v σ H Q q)
theorem dg_name {k : Nat} {x : Str} (hN : X.N.Nodup) (hi : X.N[k]? = some x) (hx : Loc X.env.scope x) (hf : X.fn x = true ∨ X.env.scope.names.lookup x = some .local := by first | exact .inl rfl | exact .inr rfl | assumption) : DG X (.Name x pos) ρ d (ρ.set k (.val d)) [k] :=
  PG.weak (pg_name hN hi hx hf) fun v σ H Q ⟨S, ve, r, q⟩ => q _ (ve.set r) ⟨by simp, fun i hi => by
    rw [List.getElem?_set_ne]
    intro z; exact hi (by simp [z])⟩
theorem dgs_nil : DGs X [] ρ [] ρ [] := PGs.weak pgs_nil fun vs σ H Q ⟨S, ve, r, q⟩ => ⟨by cases r; rfl, q σ ve ⟨rfl, fun _ _ => rfl⟩⟩
theorem dgs_cons (h1 : DG X tg ρ d ρ' ks) (h2 : DGs X tgs ρ' ds ρ'' ls) (hs : (assignEach (tg :: tgs) X.env).map (·.2) = assign tg X.env :: (assignEach tgs X.env).map (·.2) := by rfl) : DGs X (tg :: tgs) ρ (d :: ds) ρ'' (ks ++ ls) :=
  PGs.weak (pgs_cons h1 h2 hs) fun vs σ H Q ⟨S, ve, r, q⟩ => by
    cases r with
    | cons r1 r2 => exact ⟨_, _, rfl, S, ve, r1, fun σ' ve' c => ⟨S, ve', r2, fun σ'' ve'' c' => q σ'' ve'' (c.trans c')⟩⟩
theorem dg_tup {k} {n : Nat} (hc : X.calm = true) (h : DGs X tgs ρ ds ρ' ks) (hl : ds.length = n) (hn : (assignEach tgs X.env).length = n := by rfl) (hst : (assignEach tgs X.env).findIdx? (·.1) = none := by rfl) : DG X (.Tuple tgs k pos) ρ (.tup ds) ρ' ks :=
  PG.weak (pg_tup hc h hn hst) fun v σ H Q ⟨S, ve, r, q⟩ => by
    obtain ⟨a, vs, rfl, ha, rl⟩ := r.tupV
    exact ⟨a, vs, rfl, .inl (.inl ha), by rw [← rl.length]; exact hl, S, ve, rl, q⟩
end
/-! ### comprehensions -/
def tDB (K : PySem.W.Frag) (ρ : Rho) (out : List D) : TB := fun σ H ys Q => ∃ S, VE K H S ρ σ ∧ ys.length + out.length ≤ sizeLine ∧ ∀ vs H', Ext0 H H' → RdsL K H' S out vs → Q (ys ++ vs) H'
def DB (Y : Cx) (acc : Addr) (m : Sem Unit) (ρ : Rho) (out : List D) : Prop := PB Y acc m (tDB Y.K ρ out)
def DTs (Y : Cx) (ρ : Rho) (ifs : List Expr) (b : Bool) : Prop := PTs Y ifs (tDT Y.K ρ b)
theorem PB.weak {Y : Cx} {acc : Addr} {m : Sem Unit} {t t' : TB} (h : PB Y acc m t) (w : ∀ σ H ys Q, t' σ H ys Q → t σ H ys Q) : PB Y acc m t' := fun pins s σ H ys Q I f a q => h pins s σ H ys Q I f a (w σ H ys Q q)
theorem PTs.weak {Y : Cx} {ifs : List Expr} {t t' : TT} (h : PTs Y ifs t) (w : ∀ σ H Q, t' σ H Q → t σ H Q) : PTs Y ifs t' := fun pins s σ H Q I q => h pins s σ H Q I (w σ H Q q)
section
variable {Y : Cx} {acc : Addr} {ρ : Rho} {d : D}
theorem dts_nil : DTs Y ρ [] true := PTs.weak pts_nil fun σ H Q ⟨S, ve, k⟩ => k H Ext.refl
theorem db_emit {elt : Expr} (he : DE Y ρ elt d) : DB Y acc (do let _ ← call (.builtin "list.append") [.ref acc, ← eval elt Y.env]) ρ [d] :=
  PB.weak (pb_emit he) fun σ H ys Q ⟨S, ve, hl, k⟩ => ⟨Nat.le_trans (Nat.le_add_right _ _) hl, S, ve, fun v H' e r => k [v] H' e (.cons r .nil)⟩
/-- one turn: the target is set, the tests are b, out comes -/
def TurnD (G : Rho → D → Rho → List Nat → Prop) (T : Rho → Bool → Prop) (B : Rho → List D → Prop) (ρ : Rho) (ks : List Nat) (d : D) (out : List D) : Prop :=
  ∃ ρ' b, G ρ d ρ' ks ∧ T ρ' b ∧ (b = true → B ρ' out) ∧ (b = false → out = [])
/-- the readings of a loop whose turns are known -/
def gA (K : PySem.W.Frag) (G : Rho → D → Rho → List Nat → Prop) : TG := fun v σ H Q => ∃ ρ d ρ' ks, G ρ d ρ' ks ∧ tDG K ρ d ρ' ks v σ H Q
def ttA (K : PySem.W.Frag) (T : Rho → Bool → Prop) : TT := fun σ H Q => ∃ ρ b, T ρ b ∧ tDT K ρ b σ H Q
def tbA (K : PySem.W.Frag) (B : Rho → List D → Prop) : TB := fun σ H ys Q => ∃ ρ out, B ρ out ∧ tDB K ρ out σ H ys Q
theorem pg_A {tg : Expr} {G : Rho → D → Rho → List Nat → Prop} (h : ∀ ρ d ρ' ks, G ρ d ρ' ks → DG Y tg ρ d ρ' ks) : PG Y tg (gA Y.K G) := fun pins s σ H v u Q I r ⟨_, _, _, _, g, q⟩ => h _ _ _ _ g pins s σ H v u Q I r q
theorem pts_A {ifs : List Expr} {T : Rho → Bool → Prop} (h : ∀ ρ b, T ρ b → DTs Y ρ ifs b) : PTs Y ifs (ttA Y.K T) := fun pins s σ H Q I ⟨_, _, g, q⟩ => h _ _ g pins s σ H Q I q
theorem pb_A {m : Sem Unit} {B : Rho → List D → Prop} (h : ∀ ρ out, B ρ out → DB Y acc m ρ out) : PB Y acc m (tbA Y.K B) := fun pins s σ H ys Q I f a ⟨_, _, g, q⟩ => h _ _ g pins s σ H ys Q I f a q
theorem flatten_step {outs : List (List D)} {i : Nat} (h : i < outs.length) : (outs.take (i + 1)).flatten = (outs.take i).flatten ++ outs[i] := by
  rw [List.take_succ_eq_append_getElem h, List.flatten_append]
  simp
theorem loop_D {K : PySem.W.Frag} {G : Rho → D → Rho → List Nat → Prop} {T : Rho → Bool → Prop} {B : Rho → List D → Prop} {ks : List Nat} {J : It} {its : List D} {outs : List (List D)} (hks : ∀ k ∈ ks, ρ[k]? = some .nil) (hl : its.length = outs.length)
    (ht : ∀ (i : Nat) d out, its[i]? = some d → outs[i]? = some out → TurnD G T B ρ ks d out) {σ : St} {H : Hp} {S : Ad} {ys : List V} {Q : List V → Hp → Prop} (ve : VE K H S ρ σ) (hJ : ItD0 K S J its H) (hz : ys.length + outs.flatten.length ≤ sizeLine)
    (q : ∀ vs H', Ext0 H H' → RdsL K H' S outs.flatten vs → Q (ys ++ vs) H') : tLoop (gA K G) (ttA K T) (tbA K B) J σ H ys Q := by
  refine ⟨fun i n ys' H' => n = its.length - i ∧ i ≤ its.length ∧ Ext0 H H' ∧ ∃ vs, ys' = ys ++ vs ∧ RdsL K H' S (outs.take i).flatten vs, ⟨its.length, by simp, Nat.zero_le _, Ext.refl, [], by simp, by simpa using RdsL.nil⟩, ?_⟩
  rintro i n ys' H' ⟨rfl, hi, ex, vs, rfl, rv⟩
  have dm := (ve.ext ex).dom
  obtain ⟨J1, J2⟩ := hJ H' ex dm i
  by_cases hlt : i < its.length
  · have hlo : i < outs.length := hl ▸ hlt
    have hd : its[i]? = some its[i] := by simp [hlt]
    have ho : outs[i]? = some outs[i] := by simp [hlo]
    obtain ⟨go, yld⟩ := J1 _ hd
    obtain ⟨ρ', b, hg, hts, hb1, hb2⟩ := ht i _ _ hd ho
    have step := flatten_step hlo
    have lenO : (outs.take i).flatten.length + outs[i].length ≤ outs.flatten.length := by
      have e : outs.flatten = (outs.take (i + 1)).flatten ++ (outs.drop (i + 1)).flatten := by rw [← List.flatten_append, List.take_append_drop]
      rw [e, step, List.length_append, List.length_append]
      omega
    refine .inr ⟨go, fun x H1 y => ?_⟩
    obtain ⟨e1, r1⟩ := yld x H1 y
    have ve1 := (ve.ext ex).ext e1
    refine ⟨ρ, its[i], ρ', ks, hg, S, ve1, r1, fun σ2 ve2 c => ⟨c.fgt fun k hk => ve.unset (hks k hk), ρ', b, hts, S, ve2, fun H2 e2 => ?_⟩⟩
    cases b with
    | true =>
      refine iteT ⟨ρ', _, hb1 rfl, S, ve2.ext e2, ?_, fun us H3 e3 ru => ⟨its.length - (i + 1), by omega, rfl, hlt, ex.trans (e1.trans (e2.trans e3)), vs ++ us, by rw [List.append_assoc], ?_⟩⟩
      · rw [List.length_append, ← rv.length]
        omega
      · rw [step]
        exact RdsL.app (rv.ext ((e1.trans (e2.trans e3)).to S)) ru
    | false =>
      refine iteF ⟨its.length - (i + 1), by omega, rfl, hlt, ex.trans (e1.trans e2), vs, rfl, ?_⟩
      rw [step, hb2 rfl, List.append_nil]
      exact rv.ext ((e1.trans e2).to S)
  · have e : i = its.length := by omega
    subst e
    refine .inl ⟨J2 (Nat.le_refl _), q vs H' ex ?_⟩
    rw [hl, List.take_length] at rv
    exact rv
end
/-- the block's slots -/
def capS : Option Sl → Sl
  | some (.val d) => .val d
  | some .nil => .nil
  | _ => .any
def cR (own : List Str) (cap : List (Str × Nat)) (ρ : Rho) : Rho := own.map (fun _ => .nil) ++ cap.map fun p => capS ρ[p.2]?
theorem capS_own {o : Option Sl} : ¬ (capS o).owns := by
  unfold capS
  split <;> exact fun h => h
theorem VE.cap {K : PySem.W.Frag} {H : Hp} {S : Ad} {ρ : Rho} {σ : St} {own : List Str} {cap : List (Str × Nat)} (ve : VE K H S ρ σ) : VE K H S (cR own cap ρ) (cS own cap σ) := by
  have nown : ∀ (i : Nat) (x : Sl), (cR own cap ρ)[i]? = some x → ¬ x.owns := fun i x h o => by
    have hm := List.mem_of_getElem? h
    unfold cR at hm
    rcases List.mem_append.mp hm with hm | hm
    · obtain ⟨y, _, e⟩ := List.mem_map.mp hm; rw [← e] at o; exact o
    · obtain ⟨p, _, e⟩ := List.mem_map.mp hm; rw [← e] at o; exact capS_own o
  refine ⟨by simp [cR, cS], fun i x h => ?_, fun i j x y a _ h _ o => absurd o (nown i x h), ve.dom⟩
  unfold cR at h
  unfold cS
  by_cases hi : i < own.length
  · rw [List.getElem?_append_left (by simpa using hi), List.getElem?_map] at h
    rw [List.getElem?_append_left (by simpa using hi), List.getElem?_map]
    cases hq : own[i]? with
    | none => rw [hq] at h; cases h
    | some y => rw [hq] at h; cases h; exact ⟨none, rfl, rfl⟩
  · have hi' : own.length ≤ i := Nat.le_of_not_lt hi
    rw [List.getElem?_append_right (by simpa using hi'), List.getElem?_map, List.length_map] at h
    rw [List.getElem?_append_right (by simpa using hi'), List.getElem?_map, List.length_map]
    cases hq : cap[i - own.length]? with
    | none => rw [hq] at h; cases h
    | some p =>
      rw [hq] at h
      have e : capS ρ[p.2]? = x := Option.some.inj h
      refine ⟨_, rfl, ?_⟩
      subst e
      cases hr : ρ[p.2]? with
      | none => trivial
      | some y =>
        cases y with
        | nil => show (σ[p.2]?).join = none; rw [ve.unset hr]; rfl
        | any => trivial
        | owx xs => trivial
        | new C x dx fs => trivial
        | val d =>
          obtain ⟨u, hu, r⟩ := ve.get hr
          exact ⟨u, by show (σ[p.2]?).join = some u; rw [hu]; rfl, r⟩
section
variable {X : Cx} {scope : Scope} {own : List Str} {cap : List (Str × Nat)} {ρ : Rho} {elt tg iter : Expr} {ifs : List Expr} {rest : List Comprehension} {pos : Pos} {ks : List Nat} {its : List D} {outs : List (List D)}
/-- a comprehension that comes to ds, as a value and where a name is set to it -/
structure DC (X : Cx) (ρ : Rho) (e : Expr) (ds : List D) : Prop where
  /-- the list is new -/
  pe : PE X e (fun σ H Q => ∃ S, VE X.K H S ρ σ ∧ ∀ a vs H', Ext0 H H' → H' a = none → RdsL X.K H' S ds vs → Q (.ref a) (upd H' a (.lst vs)))
  ps : ∀ (i : Nat) (x : Str) (pos' spos : Pos), X.N.Nodup → X.N[i]? = some x → Loc X.env.scope x → (X.fn x = true ∨ X.env.scope.names.lookup x = some .local) → swapsWith e (some (.Name x pos')) spos.line X.env = pure true →
    PS X (.Assign [.Name x pos'] e spos) (tAsg (fun σ H Q => ∃ S, VE X.K H S ρ σ ∧ ∀ a vs H', Ext0 H H' → H' a = none → RdsL X.K H' S ds vs → Q (.ref a) (upd H' a (.lst vs))) (gName i))
theorem dc_comp (cs : CS X scope own cap) (hc : X.calm = true) (hi : DI0 X tg ρ iter its) (hks : ∀ k ∈ ks, (cR own cap ρ)[k]? = some .nil) (hl : its.length = outs.length) (hz : outs.flatten.length ≤ sizeLine)
    (ht : ∀ (i : Nat) d out, its[i]? = some d → outs[i]? = some out → TurnD (fun ρ d ρ' ks => ∀ p s h f, DG (cX X scope own cap p s h f) tg ρ d ρ' ks) (fun ρ b => ∀ p s h f, DTs (cX X scope own cap p s h f) ρ ifs b)
      (fun ρ out => ∀ p s h f acc, DB (cX X scope own cap p s h f) acc (insideOf elt (⟨tg, iter, ifs, 0⟩ :: rest) scope pos 0 (.ref acc) (cEnv X scope s.heap.objs.size)) ρ out) (cR own cap ρ) ks d out)
    (hs : ∀ x, foldedSetIterable iter X.env x = pure x := by intro _; rfl) : DC X ρ (.ListComp elt (⟨tg, iter, ifs, 0⟩ :: rest) scope pos) outs.flatten := by
  have rd : ∀ (σ : St) (H : Hp) (Q : VK), (∃ S, VE X.K H S ρ σ ∧ ∀ a vs H', Ext0 H H' → H' a = none → RdsL X.K H' S outs.flatten vs → Q (.ref a) (upd H' a (.lst vs))) →
      tComp own cap (tDI0 X.K ρ its) (gA X.K _) (ttA X.K _) (tbA X.K _) σ H Q := fun σ H Q ⟨S, ve, k⟩ => ⟨S, ve, fun J H1 e1 hJ => loop_D hks hl ht (ve.ext e1).cap hJ (by simpa using hz) fun vs H2 e2 r => ⟨by rw [List.nil_append, ← r.length]; exact hz, fun a ha => by
    rw [List.nil_append]; exact k a vs H2 (e1.trans e2) ha r⟩⟩
  have g1 : ∀ p s h f, PG (cX X scope own cap p s h f) tg (gA X.K (fun ρ d ρ' ks => ∀ p s h f, DG (cX X scope own cap p s h f) tg ρ d ρ' ks)) := fun p s h f => pg_A (Y := cX X scope own cap p s h f) fun _ _ _ _ g => g p s h f
  have g2 : ∀ p s h f, PTs (cX X scope own cap p s h f) ifs (ttA X.K (fun ρ b => ∀ p s h f, DTs (cX X scope own cap p s h f) ρ ifs b)) := fun p s h f => pts_A (Y := cX X scope own cap p s h f) fun _ _ g => g p s h f
  have g3 : ∀ p s h f acc, PB (cX X scope own cap p s h f) acc (insideOf elt (⟨tg, iter, ifs, 0⟩ :: rest) scope pos 0 (.ref acc) (cEnv X scope s.heap.objs.size)) (tbA X.K (fun ρ out => ∀ p s h f acc, DB (cX X scope own cap p s h f) acc (insideOf elt (⟨tg, iter, ifs, 0⟩ :: rest) scope pos 0 (.ref acc) (cEnv X scope s.heap.objs.size)) ρ out)) :=
    fun p s h f acc => pb_A (Y := cX X scope own cap p s h f) fun _ _ g => g p s h f acc
  refine ⟨PE.weak (pe_comp cs hc hi g1 g2 g3 hs) rd, fun i x pos' spos hN hix hx hf hsw => PS.weak (ps_comp cs hc hN hix hx hi g1 g2 g3 hsw hs hf) fun D σ H q => rd σ H _ q⟩
theorem DC.de {e : Expr} {ds : List D} (h : DC X ρ e ds) : DE X ρ e (.lst ds) := PE.weak h.pe fun σ H Q ⟨S, ve, k⟩ => ⟨S, ve, fun a vs H' e hp r => k _ _ (e.trans (Ext.new hp)) (Rds.newLst (ve.ext e).dom hp r)⟩
theorem getmap {α β : Type} {l : List α} {g : α → β} {i : Nat} {b : β} (h : (l.map g)[i]? = some b) : ∃ a, l[i]? = some a ∧ g a = b := by
  rw [List.getElem?_map] at h
  cases e : l[i]? with
  | none => rw [e] at h; cases h
  | some a => rw [e] at h; exact ⟨a, rfl, Option.some.inj h⟩
theorem flat_single {α : Type} {l : List α} {f : α → D} : (l.map fun a => [f a]).flatten = l.map f := by
  induction l with
  | nil => rfl
  | cons a l ih => simp only [List.map_cons, List.flatten_cons, ih]; rfl
variable {α : Type} {l : List α} {f g : α → D} {x : Str} {k : Nat} {px : Pos}
/-- [elt for x in iter] -/
theorem dc_map (cs : CS X scope own cap) (hc : X.calm = true) (hk : own[k]? = some x) (hi : DI0 X (.Name x px) ρ iter (l.map g)) (hz : l.length ≤ sizeLine)
    (he : ∀ a ∈ l, ∀ p s h fp, DE (cX X scope own cap p s h fp) ((cR own cap ρ).set k (.val (g a))) elt (f a))
    (hs : ∀ x, foldedSetIterable iter X.env x = pure x := by intro _; rfl) : DC X ρ (.ListComp elt [⟨.Name x px, iter, [], 0⟩] scope pos) (l.map f) := by
  have hown := (List.getElem?_eq_some_iff.mp hk).1
  rw [← flat_single]
  refine dc_comp (ks := [k]) (outs := l.map fun a => [f a]) cs hc hi (fun j hj => ?_) (by simp) (by rw [flat_single, List.length_map]; exact hz) (fun i d out h1 h2 => ?_) hs
  · have e : j = k := by simpa using hj
    subst e
    unfold cR
    rw [List.getElem?_append_left (by simpa using hown), List.getElem?_map, hk]; rfl
  · obtain ⟨a, ea, rfl⟩ := getmap h1
    obtain ⟨a', ea', rfl⟩ := getmap h2
    rw [ea] at ea'; cases ea'
    refine ⟨_, true, fun p s h fp => PG.weak (cg cs hk) ?_, fun p s h fp => dts_nil, fun _ p s h fp acc => db_emit (Y := cX X scope own cap p s h fp) (he a (List.mem_of_getElem? ea) p s h fp), fun z => nomatch z⟩
    intro v σ H Q ⟨S, ve, r, q⟩
    exact q _ (ve.set r) ⟨by simp, fun i hi => by
      rw [List.getElem?_set_ne]
      intro z; exact hi (by simp [z])⟩
end
end CT
set_option Elab.async false
set_option linter.all false
set_option maxRecDepth 100000
/-! THE DATA LAYER: statements, defs, calls -/
namespace CT
open PySem PySem.Spec L2
open PyProof.Rows hiding St
/-- how a statement ends: onward with the slots ρ; with the value d; with a new list -/
inductive Out where
  | nx (ρ : Rho) | rt (d : D) | rfx (c : Ow)
abbrev Out.rf (xs : List D) : Out := .rfx (.l xs)
abbrev Ad.and (S : Ad) (a : Addr) : Ad := fun b => S b ∨ b = a
/-- the frame: H₀, S₀ at the def's entry, H, S now -/
structure Fm (K : PySem.W.Frag) (H₀ : Hp) (S₀ : Ad) (H : Hp) (S : Ad) (ρ : Rho) (σ : St) : Prop where
  ve : VE K H S ρ σ
  ext : Ext0 H₀ H
  sub : ∀ a, S₀ a → S a
  new : ∀ a, S a → S₀ a ∨ H₀ a = none
  dm : Dom H₀ S₀
  own : ∀ (i : Nat) (x : Sl) (a : Addr), ρ[i]? = some x → x.owns → σ[i]? = some (some (.ref a)) → H₀ a = none
def OutK (K : PySem.W.Frag) (H₀ : Hp) (S₀ : Ad) (E : Ends) : Out → Prop
  | .nx ρ' => ∀ σ' H' S', Fm K H₀ S₀ H' S' ρ' σ' → E.nx σ' H'
  | .rt d => ∀ v H', Ext0 H₀ H' → Rds K H' S₀ d v → E.rt v H'
  | .rfx c => ∀ a o H', Ext0 H₀ H' → H₀ a = none → H' a = some o → OwIs K H' (S₀.and a) a c o → E.rt (.ref a) H'
def tDS (K : PySem.W.Frag) (ρ : Rho) (o : Out) : TS := fun E σ H => ∃ H₀ S₀ S, Fm K H₀ S₀ H S ρ σ ∧ OutK K H₀ S₀ E o
def DS (X : Cx) (ρ : Rho) (st : Stmt) (o : Out) : Prop := PS X st (tDS X.K ρ o)
def DSs (X : Cx) (ρ : Rho) (sts : List Stmt) (o : Out) : Prop := PSs X sts (tDS X.K ρ o)
/-- e comes to a new list -/
def tDF (K : PySem.W.Frag) (ρ : Rho) (xs : List D) : TE := fun σ H Q => ∃ S, VE K H S ρ σ ∧ ∀ a vs H', Ext0 H H' → H a = none → H' a = some (.lst vs) → RdsL K H' (S.and a) xs vs → Q (.ref a) H'
def DF (X : Cx) (ρ : Rho) (e : Expr) (xs : List D) : Prop := PE X e (tDF X.K ρ xs)
/-- e comes to a new container -/
def tDFx (K : PySem.W.Frag) (ρ : Rho) (c : Ow) : TE := fun σ H Q => ∃ S, VE K H S ρ σ ∧ ∀ a o H', Ext0 H H' → H a = none → H' a = some o → OwIs K H' (S.and a) a c o → Q (.ref a) H'
def DFx (X : Cx) (ρ : Rho) (e : Expr) (c : Ow) : Prop := PE X e (tDFx X.K ρ c)
section
variable {K : PySem.W.Frag} {H₀ H H' : Hp} {S₀ S : Ad} {ρ : Rho} {σ : St}
theorem Ext.back {a : Addr} (e : Ext0 H H') (h : H' a = none) : H a = none := by
  cases q : H a with
  | none => rfl
  | some o => rw [e a o (fun z => z) q] at h; cases h
theorem Fm.grow (f : Fm K H₀ S₀ H S ρ σ) (e : Ext0 H H') : Fm K H₀ S₀ H' S ρ σ := ⟨f.ve.ext e, f.ext.trans e, f.sub, f.new, f.dm, f.own⟩
theorem Fm.set {i : Nat} {d : D} {u : V} (f : Fm K H₀ S₀ H S ρ σ) (r : Rds K H S d u) : Fm K H₀ S₀ H S (ρ.set i (.val d)) (σ.set i (some u)) := ⟨f.ve.set r, f.ext, f.sub, f.new, f.dm, fun j x a h o h2 => by
  by_cases hj : i = j
  · subst hj
    have hi := (List.getElem?_eq_some_iff.mp h).1
    rw [List.getElem?_set_self (by simpa using hi)] at h; cases h; exact o.elim
  · rw [List.getElem?_set_ne hj] at h h2
    exact f.own j x a h o h2⟩
theorem Fm.out (f : Fm K H₀ S₀ H S ρ σ) {d : D} {v : V} (r : Rds K H S d v) : Rds K H S₀ d v := r.av fun a h => .inl (f.sub a h)
theorem RO.av {S' : Ad} {x : Sl} {v : Option V} (e : ∀ a, S' a → S a ∨ H a = none) (up : ∀ a, v = some (.ref a) → S a → S' a) (r : RO K H S x v) : RO K H S' x v := by
  cases x with
  | nil => exact r
  | any => trivial
  | val d => obtain ⟨u, h, r⟩ := r; exact ⟨u, h, r.av e⟩
  | owx c => obtain ⟨a, vs, h, s, o, r⟩ := r; exact ⟨a, vs, h, up a h s, o, r.av e⟩
  | new C x dx fs => obtain ⟨gs, h, s, o, r⟩ := r; exact ⟨gs, h, up _ h s, o, r.av e⟩
/-- a new list of one's own is stored -/
theorem Fm.setOwx {i : Nat} {c : Ow} {a : Addr} {ob : HO} (f : Fm K H₀ S₀ H S ρ σ) (e : Ext0 H H') (hn : H a = none) (ha : H' a = some ob) (r : OwIs K H' (S.and a) a c ob) :
    Fm K H₀ S₀ H' (S.and a) (ρ.set i (.owx c)) (σ.set i (some (.ref a))) := by
  have nS : ∀ b, S b → b ≠ a := fun b h z => f.ve.dom b h (by rw [z]; exact hn)
  have up : ∀ (x : Sl) (v : Option V), RO K H S x v → RO K H' (S.and a) x v := fun x v r => (RO.av (S' := S.and a) (fun b h => h.imp_right fun z => by rw [z]; exact hn) (fun b _ h => .inl h) r).ext e
  refine ⟨⟨by simpa using f.ve.len, fun j x h => ?_, fun j k x y b hjk h1 h2 o1 o2 h3 h4 => ?_, fun b h => ?_⟩, f.ext.trans e, fun b h => .inl (f.sub b h), fun b h => ?_, f.dm, fun j x b h o h2 => ?_⟩
  · by_cases hj : i = j
    · subst hj
      have hi := (List.getElem?_eq_some_iff.mp h).1
      rw [List.getElem?_set_self (by simpa using hi)] at h
      cases h
      exact ⟨some (.ref a), List.getElem?_set_self (f.ve.len ▸ (by simpa using hi)), a, ob, rfl, .inr rfl, ha, r⟩
    · rw [List.getElem?_set_ne hj] at h ⊢
      obtain ⟨v, h1, h2⟩ := f.ve.rel j x h
      exact ⟨v, h1, up x v h2⟩
  · -- distinct
    have own_ne : ∀ (m : Nat) (x : Sl) (c : Addr), ρ[m]? = some x → x.owns → σ[m]? = some (some (.ref c)) → S c := fun m x c hm ho hs => by
      obtain ⟨v, q1, q2⟩ := f.ve.rel m x hm
      rw [hs] at q1; cases q1
      cases x with
      | owx c => obtain ⟨a', _, z, s, _⟩ := q2; cases z; exact s
      | new C x dx fs => obtain ⟨_, z, s, _⟩ := q2; cases z; exact s
      | nil => exact ho.elim
      | any => exact ho.elim
      | val d => exact ho.elim
    by_cases hj : i = j
    · subst hj
      have hi := (List.getElem?_eq_some_iff.mp h1).1
      rw [List.getElem?_set_self (by rw [← f.ve.len]; simpa using hi)] at h3
      cases h3
      rw [List.getElem?_set_ne hjk] at h2 h4
      exact nS _ (own_ne k y _ h2 o2 h4) rfl
    · by_cases hk : i = k
      · subst hk
        have hi := (List.getElem?_eq_some_iff.mp h2).1
        rw [List.getElem?_set_self (by rw [← f.ve.len]; simpa using hi)] at h4
        cases h4
        rw [List.getElem?_set_ne hj] at h1 h3
        exact nS _ (own_ne j x _ h1 o1 h3) rfl
      · rw [List.getElem?_set_ne hj] at h1 h3
        rw [List.getElem?_set_ne hk] at h2 h4
        exact f.ve.dist j k x y b hjk h1 h2 o1 o2 h3 h4
  · rcases h with h | h
    · exact (f.ve.dom.ext e) b h
    · rw [h, ha]; intro z; cases z
  · rcases h with h | h
    · exact f.new b h
    · rw [h]; exact .inr (f.ext.back hn)
  · by_cases hj : i = j
    · subst hj
      have hi := (List.getElem?_eq_some_iff.mp h).1
      rw [List.getElem?_set_self (by rw [← f.ve.len]; simpa using hi)] at h2
      cases h2
      exact f.ext.back hn
    · rw [List.getElem?_set_ne hj] at h h2
      exact f.own j x b h o h2
theorem Fm.setOwn {i : Nat} {xs : List D} {a : Addr} {vs : List V} (f : Fm K H₀ S₀ H S ρ σ) (e : Ext0 H H') (hn : H a = none) (ha : H' a = some (.lst vs)) (r : RdsL K H' (S.and a) xs vs) :
    Fm K H₀ S₀ H' (S.and a) (ρ.set i (.own xs)) (σ.set i (some (.ref a))) := f.setOwx (c := .l xs) e hn ha ⟨vs, rfl, r⟩
/-- a container of one's own is changed -/
theorem Fm.putOwx {i : Nat} {c c' : Ow} {a : Addr} {ob : HO} (f : Fm K H₀ S₀ H S ρ σ) (hr : ρ[i]? = some (.owx c)) (hs : σ[i]? = some (some (.ref a))) (r : OwIs K H S a c' ob) : Fm K H₀ S₀ (upd H a ob) S (ρ.set i (.owx c')) σ := by
  have hi := (List.getElem?_eq_some_iff.mp hr).1
  obtain ⟨v, q1, a', vs, z, sa, ha, _⟩ := f.ve.rel i _ hr
  rw [hs] at q1; cases q1; cases z
  have e : Ext S H (upd H a ob) := Ext.set sa
  refine ⟨⟨by simpa using f.ve.len, fun j x h => ?_, fun j k x y b hjk h1 h2 o1 o2 h3 => ?_, fun b h z => ?_⟩, fun b o n h => ?_, f.sub, f.new, f.dm, fun j x b h o h2 => ?_⟩
  · by_cases hj : i = j
    · subst hj
      rw [List.getElem?_set_self hi] at h
      cases h
      exact ⟨_, hs, a, ob, rfl, sa, upd_same, r.ext e⟩
    · rw [List.getElem?_set_ne hj] at h
      obtain ⟨v, h1, h2⟩ := f.ve.rel j x h
      refine ⟨v, h1, ?_⟩
      cases x with
      | nil => exact h2
      | any => trivial
      | val d => obtain ⟨u, p, r⟩ := h2; exact ⟨u, p, r.ext e⟩
      | owx c =>
        obtain ⟨b, ws, p, s, o, r⟩ := h2
        subst p
        have nb : b ≠ a := fun z => f.ve.dist i j _ _ a hj hr h trivial trivial hs (by rw [h1, z])
        exact ⟨b, ws, rfl, s, by rw [upd_ne nb]; exact o, r.ext e⟩
      | new C b dx fs =>
        obtain ⟨gs, p, s, o, r⟩ := h2
        subst p
        have nb : b ≠ a := fun z => f.ve.dist i j _ _ a hj hr h trivial trivial hs (by rw [h1, z])
        exact ⟨gs, rfl, s, by rw [upd_ne nb]; exact o, r.ext e⟩
  · by_cases hj : i = j
    · subst hj
      rw [List.getElem?_set_ne hjk] at h2
      exact f.ve.dist i k _ y b hjk hr h2 trivial o2 h3
    · rw [List.getElem?_set_ne hj] at h1
      by_cases hk : i = k
      · subst hk
        exact f.ve.dist j i x _ b hjk h1 hr o1 trivial h3
      · rw [List.getElem?_set_ne hk] at h2
        exact f.ve.dist j k x y b hjk h1 h2 o1 o2 h3
  · by_cases hb : b = a
    · rw [hb, upd_same] at z; cases z
    · rw [upd_ne hb] at z; exact f.ve.dom b h z
  · have nb : b ≠ a := fun z => by
      have := f.own i _ a hr trivial hs
      rw [← z, h] at this; cases this
    rw [upd_ne nb]; exact f.ext b o n h
  · by_cases hj : i = j
    · subst hj
      exact f.own i _ b hr trivial h2
    · rw [List.getElem?_set_ne hj] at h
      exact f.own j x b h o h2
theorem Fm.putOwn {i : Nat} {xs ys : List D} {a : Addr} {us : List V} (f : Fm K H₀ S₀ H S ρ σ) (hr : ρ[i]? = some (.own xs)) (hs : σ[i]? = some (some (.ref a))) (r : RdsL K H S ys us) : Fm K H₀ S₀ (upd H a (.lst us)) S (ρ.set i (.own ys)) σ := f.putOwx (c' := .l ys) hr hs ⟨us, rfl, r⟩
/-- fields -/
def putD (f : Str) (d : D) : List (Str × D) → List (Str × D)
  | [] => [(f, d)]
  | (g, x) :: r => if g = f then (g, d) :: r else (g, x) :: putD f d r
theorem RdsF.put {f : Str} {d : D} {v : V} (q : Rds K H S d v) : ∀ {ds : List (Str × D)} {vs : List (Str × V)}, RdsF K H S ds vs → RdsF K H S (putD f d ds) (putF f v vs)
  | [], _, .nil => .cons q .nil
  | (n, x) :: r, _, .cons q' t => by
    unfold putD putF
    split
    · exact .cons q t
    · exact .cons q' (RdsF.put q t)
theorem RdsF.len : ∀ {ds : List (Str × D)} {vs : List (Str × V)}, RdsF K H S ds vs → ds.length = vs.length
  | [], _, .nil => rfl
  | _ :: _, _, .cons _ t => by rw [List.length_cons, List.length_cons, RdsF.len t]
/-- the instance that is made gets a field -/
theorem Fm.putNew {i : Nat} {C a dx : Addr} {fs hs : List (Str × D)} {us : List (Str × V)} (f : Fm K H₀ S₀ H S ρ σ) (hr : ρ[i]? = some (.new C a dx fs)) (r : RdsF K H S hs us) : Fm K H₀ S₀ (upd H a (.ins C dx us)) S (ρ.set i (.new C a dx hs)) σ := by
  have hi := (List.getElem?_eq_some_iff.mp hr).1
  obtain ⟨v, hs', gs, z, sa, ha, _⟩ := f.ve.rel i _ hr
  subst z
  have e : Ext S H (upd H a (.ins C dx us)) := Ext.set sa
  refine ⟨⟨by simpa using f.ve.len, fun j x h => ?_, fun j k x y b hjk h1 h2 o1 o2 h3 => ?_, fun b h z => ?_⟩, fun b o n h => ?_, f.sub, f.new, f.dm, fun j x b h o h2 => ?_⟩
  · by_cases hj : i = j
    · subst hj
      rw [List.getElem?_set_self hi] at h
      cases h
      exact ⟨_, hs', us, rfl, sa, upd_same, r.ext e⟩
    · rw [List.getElem?_set_ne hj] at h
      obtain ⟨v, h1, h2⟩ := f.ve.rel j x h
      refine ⟨v, h1, ?_⟩
      cases x with
      | nil => exact h2
      | any => trivial
      | val d => obtain ⟨u, p, r⟩ := h2; exact ⟨u, p, r.ext e⟩
      | owx c =>
        obtain ⟨b, ws, p, s, o, r⟩ := h2
        subst p
        have nb : b ≠ a := fun z => f.ve.dist i j _ _ a hj hr h trivial trivial hs' (by rw [h1, z])
        exact ⟨b, ws, rfl, s, by rw [upd_ne nb]; exact o, r.ext e⟩
      | new C b dx fs =>
        obtain ⟨gs, p, s, o, r⟩ := h2
        subst p
        have nb : b ≠ a := fun z => f.ve.dist i j _ _ a hj hr h trivial trivial hs' (by rw [h1, z])
        exact ⟨gs, rfl, s, by rw [upd_ne nb]; exact o, r.ext e⟩
  · by_cases hj : i = j
    · subst hj
      rw [List.getElem?_set_ne hjk] at h2
      exact f.ve.dist i k _ y b hjk hr h2 trivial o2 h3
    · rw [List.getElem?_set_ne hj] at h1
      by_cases hk : i = k
      · subst hk
        exact f.ve.dist j i x _ b hjk h1 hr o1 trivial h3
      · rw [List.getElem?_set_ne hk] at h2
        exact f.ve.dist j k x y b hjk h1 h2 o1 o2 h3
  · by_cases hb : b = a
    · rw [hb, upd_same] at z; cases z
    · rw [upd_ne hb] at z; exact f.ve.dom b h z
  · have nb : b ≠ a := fun z => by
      have := f.own i _ a hr trivial hs'
      rw [← z, h] at this; cases this
    rw [upd_ne nb]; exact f.ext b o n h
  · by_cases hj : i = j
    · subst hj
      exact f.own i _ b hr trivial h2
    · rw [List.getElem?_set_ne hj] at h
      exact f.own j x b h o h2
end
section
variable {X : Cx} {ρ ρ' : Rho} {e : Expr} {d : D} {st : Stmt} {sts : List Stmt} {o : Out} {pos : Pos} {xs : List D}
theorem DF.x (h : DF X ρ e xs) : DFx X ρ e (.l xs) := PE.weak h fun σ H Q ⟨S, ve, k⟩ => ⟨S, ve, fun a vs H' ex hn ha r => k a (.lst vs) H' ex hn ha ⟨vs, rfl, r⟩⟩
theorem DFx.l (h : DFx X ρ e (.l xs)) : DF X ρ e xs := PE.weak h fun σ H Q ⟨S, ve, k⟩ => ⟨S, ve, fun a o H' ex hn ha ⟨vs, q, r⟩ => k a vs H' ex hn (by rw [ha, q]) r⟩
theorem DFx.de {c : Ow} (h : DFx X ρ e c) : DE X ρ e c.D := PE.weak h fun σ H Q ⟨S, ve, k⟩ => ⟨S, ve, fun a o H' ex hn ha r => k _ H' ex ((r.av fun b h => .inl (.inl h)).rds ha (ve.dom.not hn))⟩
theorem DF.de (h : DF X ρ e xs) : DE X ρ e (.lst xs) := PE.weak h fun σ H Q ⟨S, ve, k⟩ => ⟨S, ve, fun a vs H' ex hn ha r => k _ H' ex (.lst (.inl ha) (ve.dom.not hn) (r.av fun b h => .inl (.inl h)))⟩
theorem df_lst {es : List Expr} (h : DA X ρ es xs) (hl : xs.length ≤ sizeLine) : DF X ρ (.List es pos) xs :=
  PE.weak (pe_lst h) fun σ H Q ⟨S, ve, k⟩ => ⟨S, ve, fun vs H' ex rs => ⟨by rw [← rs.length]; exact hl, fun p hp => k p vs _ (ex.trans (Ext.new hp)) (ex.back hp) upd_same ((rs.av (S' := S.and p) fun b h => h.imp_right fun z => by rw [z]; exact hp).ext ((Ext.new hp).to _))⟩⟩
/-! ### blocks -/
theorem dss_nil : DSs X ρ [] (.nx ρ) := PSs.weak pss_nil fun E σ H ⟨H₀, S₀, S, f, k⟩ => k σ H S f
theorem dss_cons (h1 : DS X ρ st (.nx ρ')) (h2 : DSs X ρ' sts o) : DSs X ρ (st :: sts) o := PSs.weak (pss_cons h1 h2) fun E σ H ⟨H₀, S₀, S, f, k⟩ => ⟨H₀, S₀, S, f, fun σ' H' S' f' => ⟨H₀, S₀, S', f', k⟩⟩
/-- nothing behind a return is reached -/
def Out.ends : Out → Prop
  | .nx _ => False
  | _ => True
theorem dss_end (h1 : DS X ρ st o) (ho : o.ends) : DSs X ρ (st :: sts) o := PSs.weak (pss_cons h1 (pss_never (sts := sts))) fun E σ H ⟨H₀, S₀, S, f, k⟩ => ⟨H₀, S₀, S, f, by
  cases o with
  | nx _ => exact ho.elim
  | rt d => exact k
  | rfx xs => exact k⟩
theorem ds_ret (h : DE X ρ e d) : DS X ρ (.Return (some e) pos) (.rt d) := PS.weak (ps_ret h) fun E σ H ⟨H₀, S₀, S, f, k⟩ => ⟨S, f.ve, fun v H' ex r => k v H' (f.ext.trans ex) ((f.grow ex).out r)⟩
theorem ds_expr (h : DE X ρ e d) (hs : swapsWith e none pos.line X.env = pure false := by rfl) : DS X ρ (.Expr e pos) (.nx ρ) := PS.weak (ps_expr h hs) fun E σ H ⟨H₀, S₀, S, f, k⟩ => ⟨S, f.ve, fun v H' ex r => k σ H' S (f.grow ex)⟩
/-! ### assignments -/
variable {i : Nat} {x : Str} {pos' : Pos}
theorem ds_set (hN : X.N.Nodup) (hi : X.N[i]? = some x) (hx : Loc X.env.scope x) (he : DE X ρ e d) (hs : swapsWith e (some (.Name x pos')) pos.line X.env = pure false := by rfl) (hf : X.fn x = true ∨ X.env.scope.names.lookup x = some .local := by first | exact .inl rfl | exact .inr rfl | assumption) :
    DS X ρ (.Assign [.Name x pos'] e pos) (.nx (ρ.set i (.val d))) := PS.weak (ps_set hN hi hx he hs hf) fun E σ H ⟨H₀, S₀, S, f, k⟩ => ⟨S, f.ve, fun v H' ex r => k _ H' S ((f.grow ex).set r)⟩
theorem ds_setF (hN : X.N.Nodup) (hi : X.N[i]? = some x) (hx : Loc X.env.scope x) (he : DF X ρ e xs) (hs : swapsWith e (some (.Name x pos')) pos.line X.env = pure false := by rfl) (hf : X.fn x = true ∨ X.env.scope.names.lookup x = some .local := by first | exact .inl rfl | exact .inr rfl | assumption) :
    DS X ρ (.Assign [.Name x pos'] e pos) (.nx (ρ.set i (.own xs))) := PS.weak (ps_set hN hi hx he hs hf) fun E σ H ⟨H₀, S₀, S, f, k⟩ => ⟨S, f.ve, fun a vs H' ex hn ha r => k _ H' _ (f.setOwn ex hn ha r)⟩
theorem ds_addI {a b : Int} (hN : X.N.Nodup) (hi : X.N[i]? = some x) (hx : Loc X.env.scope x) (hr : ρ[i]? = some (.val (.int a))) (he : DE X ρ e (.int b)) (hf : X.fn x = true ∨ X.env.scope.names.lookup x = some .local := by first | exact .inl rfl | exact .inr rfl | assumption) :
    DS X ρ (.AugAssign (.Name x pos') .Add e pos) (.nx (ρ.set i (.val (.int (a + b))))) := PS.weak (ps_aug hN hi hx he ip_add hf) fun E σ H ⟨H₀, S₀, S, f, k⟩ => by
  obtain ⟨u, h1, r⟩ := f.ve.get hr
  exact ⟨u, h1, S, f.ve, fun v H' ex rv => ⟨a, b, r.intV, rv.intV, k _ H' S ((f.grow ex).set (.int _))⟩⟩
/-- x.append(e), x a list of one's own -/
theorem ds_append {a : Expr} {p ap cp : Pos} (hN : X.N[i]? = some x) (hv : Vis X.env.scope x) (hr : ρ[i]? = some (.own xs)) (he : DE X ρ a d) (hz : xs.length < sizeLine) (hd : (x == ("__debug__" : Str)) = false := by decide) (hcd : (x == ("__classdict__" : Str)) = false := by decide)
    (hs : swapsWith (.Call (.Attribute (.Name x p) "append" ap) [a] [] cp) none pos.line X.env = pure false := by rfl)
    (hbase : attributeBase (.Name x p) "append" X.env (eval (.Name x p) X.env) = eval (.Name x p) X.env := by rfl)
    (hfew : ((backTo cp (starEach [a] X.env)).all (fun x => !x.1) && (backToKw cp (keywordEach [] X.env)).all (fun x => x.1.isSome) && decide (([a] : List Expr).length + ([] : List Keyword).length + (if ([] : List Keyword).isEmpty then 0 else 1) < 30)) = true := by rfl)
    (hline : (ap.endLine == cp.line) = true := by rfl) (hst : starEach [a] X.env = (false, eval a X.env) :: starEach [] X.env := by rfl) (hplain : (backTo cp (starEach [] X.env)).any (·.1) = false := by rfl) :
    DS X ρ (.Expr (.Call (.Attribute (.Name x p) "append" ap) [a] [] cp) pos) (.nx (ρ.set i (.own (xs ++ [d])))) :=
  PS.weak (ps_expr (pe_bm PySem.F.plainAttrs_list PySem.F.slot_list_append PySem.F.type_list_append mt_append (pe_var hN hv hd hcd) (pa_cons he pa_nil hst) hbase hfew hline hst hplain) hs) fun E σ H ⟨H₀, S₀, S, f, k⟩ => by
    obtain ⟨v, h1, l, _, rfl, sa, ha, vs, rfl, r⟩ := f.ve.rel i _ hr
    refine ⟨_, h1, .inl ⟨rfl, vs, .inl (.inl ha)⟩, S, f.ve, fun y H' ex ry => ⟨l, vs, y, rfl, rfl, ex _ _ (fun z => z) ha, by rw [← r.length]; exact hz, ?_⟩⟩
    exact k _ _ S ((f.grow ex).putOwn hr h1 (RdsL.app (r.ext (ex.to S)) (.cons ry .nil)))
/-- self.f = e, where the instance is made -/
theorem ds_fld {C a dx : Addr} {fs : List (Str × D)} {fl : Str} {p : Pos} (hN : X.N[i]? = some x) (hv : Vis X.env.scope x) (hr : ρ[i]? = some (.new C a dx fs)) (c : Cls X.K C) (na : NoAttr X.K C fl) (hl : fs.length < 1000) (he : DE X ρ e d)
    (hs : swapsWith e (some (.Attribute (.Name x p) fl pos')) pos.line X.env = pure false := by rfl) (hd : (x == ("__debug__" : Str)) = false := by decide) (hcd : (x == ("__classdict__" : Str)) = false := by decide) :
    DS X ρ (.Assign [.Attribute (.Name x p) fl pos'] e pos) (.nx (ρ.set i (.new C a dx (putD fl d fs)))) :=
  PS.weak (ps_fld (pe_var hN hv hd hcd) he hs) fun E σ H ⟨H₀, S₀, S, f, k⟩ => ⟨S, f.ve, fun v H' ex r => by
    have f' := f.grow ex
    obtain ⟨w, h1, gs, rfl, sa, ha, rf⟩ := f'.ve.rel i _ hr
    exact ⟨_, h1, a, C, dx, gs, rfl, ha, c, na, by rw [← rf.len]; exact hl, k _ _ S (f'.putNew hr (rf.put r))⟩⟩
/-! ### if -/
theorem pss_any {sts : List Stmt} : PSs X sts (fun E σ H => ∃ ρ o, DSs X ρ sts o ∧ tDS X.K ρ o E σ H) := fun pins s σ H D I ⟨_, _, h, q⟩ => h pins s σ H D I q
theorem ds_if {c : Expr} {a b : List Stmt} {q : Bool} (hc : DT X ρ c q) (ha : q = true → DSs X ρ a o) (hb : q = false → DSs X ρ b o) : DS X ρ (.If c a b pos) o :=
  PS.weak (ps_if hc (pss_any (sts := a)) (pss_any (sts := b))) fun E σ H ⟨H₀, S₀, S, f, k⟩ => ⟨S, f.ve, fun H' ex => by
    cases q with
    | true => exact iteT ⟨ρ, o, ha rfl, H₀, S₀, S, f.grow ex, k⟩
    | false => exact iteF ⟨ρ, o, hb rfl, H₀, S₀, S, f.grow ex, k⟩⟩
end
end CT
set_option Elab.async false
set_option linter.all false
set_option maxRecDepth 100000
/-! THE DATA LAYER: loops, what is given up, defs and calls -/
namespace CT
open PySem PySem.Spec L2
open PyProof.Rows hiding St
section
variable {X : Cx} {ρ ρ' : Rho} {e : Expr} {d : D} {o : Out} {pos : Pos} {xs : List D} {i : Nat}
/-! ### a list of one's own is given up: it is data from now on -/
theorem Fm.give {K : PySem.W.Frag} {H₀ H : Hp} {S₀ S : Ad} {σ : St} {c : Ow} (f : Fm K H₀ S₀ H S ρ σ) (hr : ρ[i]? = some (.owx c)) : ∃ S', (∀ a, S' a → S a) ∧ Fm K H₀ S₀ H S' (ρ.set i (.val c.D)) σ := by
  have hi := (List.getElem?_eq_some_iff.mp hr).1
  obtain ⟨v, q1, a, vs, rfl, sa, ha, r⟩ := f.ve.rel i _ hr
  have own_ne : ∀ (m : Nat) (x : Sl) (c : Addr), i ≠ m → ρ[m]? = some x → x.owns → σ[m]? = some (some (.ref c)) → c ≠ a := fun m x c hm h ho hs z => f.ve.dist i m _ x a hm hr h trivial ho q1 (by rw [hs, z])
  refine ⟨fun b => S b ∧ b ≠ a, fun b h => h.1, ⟨⟨by simpa using f.ve.len, fun j x h => ?_, fun j k x y b hjk h1 h2 o1 o2 h3 => ?_, fun b h => f.ve.dom b h.1⟩, f.ext, fun b h => ⟨f.sub b h, fun z => ?_⟩, fun b h => f.new b h.1, f.dm, fun j x b h o h2 => ?_⟩⟩
  · by_cases hj : i = j
    · subst hj
      rw [List.getElem?_set_self hi] at h
      cases h
      exact ⟨_, q1, _, rfl, (r.av fun b h => .inl h.1).rds ha fun z => z.2 rfl⟩
    · rw [List.getElem?_set_ne hj] at h
      obtain ⟨v, h1, h2⟩ := f.ve.rel j x h
      refine ⟨v, h1, ?_⟩
      cases x with
      | nil => exact h2
      | any => trivial
      | val d => obtain ⟨u, p, r⟩ := h2; exact ⟨u, p, r.av fun b h => .inl h.1⟩
      | owx zs => exact RO.av (x := .owx zs) (fun b h => .inl h.1) (fun b z s => ⟨s, own_ne j _ b hj h trivial (by rw [h1, z])⟩) h2
      | new C y dx fs => exact RO.av (x := .new C y dx fs) (fun b h => .inl h.1) (fun b z s => ⟨s, own_ne j _ b hj h trivial (by rw [h1, z])⟩) h2
  · have n1 : i ≠ j := fun z => by
      subst z
      rw [List.getElem?_set_self hi] at h1; cases h1; exact o1
    have n2 : i ≠ k := fun z => by
      subst z
      rw [List.getElem?_set_self hi] at h2; cases h2; exact o2
    rw [List.getElem?_set_ne n1] at h1
    rw [List.getElem?_set_ne n2] at h2
    exact f.ve.dist j k x y b hjk h1 h2 o1 o2 h3
  · have := f.own i _ a hr trivial q1
    exact f.dm b h (by rw [z]; exact this)
  · have n1 : i ≠ j := fun z => by
      subst z
      rw [List.getElem?_set_self hi] at h; cases h; exact o
    rw [List.getElem?_set_ne n1] at h
    exact f.own j x b h o h2
/-- a list of one's own is read by code that comes to a scalar -/
theorem VE.give {K : PySem.W.Frag} {H : Hp} {S : Ad} {σ : St} {c : Ow} (f : VE K H S ρ σ) (hr : ρ[i]? = some (.owx c)) : ∃ S', VE K H S' (ρ.set i (.val c.D)) σ := by
  have F : Fm K (fun _ => none) no H S ρ σ := ⟨f, (fun a o _ h => by cases h), fun a h => h.elim, fun a h => .inr rfl, fun a h => h.elim, fun _ _ _ _ _ _ => rfl⟩
  obtain ⟨S', _, f'⟩ := F.give hr
  exact ⟨S', f'.ve⟩
theorem de_read {u : V} {c : Ow} (hr : ρ[i]? = some (.owx c)) (hf : flat d = some u) (h : DE X (ρ.set i (.val c.D)) e d) : DE X ρ e d := PE.weak h fun σ H Q ⟨S, ve, k⟩ => by
  obtain ⟨S', ve'⟩ := ve.give hr
  refine ⟨S', ve', fun v H' ex r => k v H' ex ?_⟩
  cases d <;> first | (cases hf; done) | (cases r; constructor)
/-! ### for -/
/-- a target sets slots to data -/
def TgOk (ρ ρ1 : Rho) (ks : List Nat) : Prop := ∀ (i : Nat) (x : Sl), ρ1[i]? = some x → x.owns → i ∉ ks ∧ ρ[i]? = some x
theorem tg_set {k : Nat} : TgOk ρ (ρ.set k (.val d)) [k] := fun i x h o => by
  by_cases hj : k = i
  · subst hj
    have hi := (List.getElem?_eq_some_iff.mp h).1
    rw [List.getElem?_set_self (by simpa using hi)] at h; cases h; exact o.elim
  · rw [List.getElem?_set_ne hj] at h
    exact ⟨by simp [Ne.symm hj], h⟩
theorem TgOk.trans {ρ1 ρ2 : Rho} {ks ls : List Nat} (a : TgOk ρ ρ1 ks) (b : TgOk ρ1 ρ2 ls) : TgOk ρ ρ2 (ks ++ ls) := fun i x h o => by
  obtain ⟨n1, h1⟩ := b i x h o
  obtain ⟨n2, h2⟩ := a i x h1 o
  exact ⟨by simp [n1, n2], h2⟩
/-- the turns over the items, from the slots ρ -/
inductive ForO (X : Cx) (tg : Expr) (body : List Stmt) : List D → Rho → Out → Prop
  | nil (ρ : Rho) : ForO X tg body [] ρ (.nx ρ)
  | cons {d : D} {ds : List D} {ρ ρ1 ρ2 : Rho} {ks : List Nat} {o : Out} : DG X tg ρ d ρ1 ks → TgOk ρ ρ1 ks → DSs X ρ1 body (.nx ρ2) → ForO X tg body ds ρ2 o → ForO X tg body (d :: ds) ρ o
  | ret {d : D} {ds : List D} {ρ ρ1 : Rho} {ks : List Nat} {o : Out} : DG X tg ρ d ρ1 ks → TgOk ρ ρ1 ks → DSs X ρ1 body o → o.ends → ForO X tg body (d :: ds) ρ o
theorem Fm.tgt {K : PySem.W.Frag} {H₀ H : Hp} {S₀ S : Ad} {ρ ρ1 : Rho} {σ σ' : St} {ks : List Nat} (f : Fm K H₀ S₀ H S ρ σ) (ve : VE K H S ρ1 σ') (c : Chg ks σ σ') (h : TgOk ρ ρ1 ks) : Fm K H₀ S₀ H S ρ1 σ' :=
  ⟨ve, f.ext, f.sub, f.new, f.dm, fun i x a h1 o h2 => by
    obtain ⟨n, h3⟩ := h i x h1 o
    exact f.own i x a h3 o (by rw [← c.2 i n]; exact h2)⟩
theorem Fm.mono {K : PySem.W.Frag} {H₀ H1 H : Hp} {S₀ S : Ad} {σ : St} (f : Fm K H1 S₀ H S ρ σ) (e : Ext0 H₀ H1) (dm : Dom H₀ S₀) : Fm K H₀ S₀ H S ρ σ :=
  ⟨f.ve, e.trans f.ext, f.sub, fun a h => (f.new a h).imp_right e.back, dm, fun i x a h o h2 => e.back (f.own i x a h o h2)⟩
theorem OutK.mono {K : PySem.W.Frag} {H₀ H1 : Hp} {S₀ : Ad} {E : Ends} (e : Ext0 H₀ H1) (dm : Dom H₀ S₀) (k : OutK K H₀ S₀ E o) : OutK K H1 S₀ E o := by
  cases o with
  | nx ρ' => exact fun σ' H' S' f => k σ' H' S' (f.mono e dm)
  | rt d => exact fun v H' ex r => k v H' (e.trans ex) r
  | rfx xs => exact fun a vs H' ex hn ha r => k a vs H' (e.trans ex) (e.back hn) ha r
/-- the heap without one's own lists, as a frame -/
def cut (H : Hp) (S S₀ : Ad) (H1 : Hp) : Prop := ∀ a o, H1 a = some o ↔ (H a = some o ∧ (S a → S₀ a))
open Classical in
noncomputable def cutH (H : Hp) (S S₀ : Ad) : Hp := fun a => if S a ∧ ¬ S₀ a then none else H a
theorem cutH_some {H : Hp} {S S₀ : Ad} {a : Addr} {u : HO} (h : H a = some u) (n : S a → S₀ a) : cutH H S S₀ a = some u := by
  unfold cutH; rw [if_neg fun z => z.2 (n z.1)]; exact h
theorem cutH_none {H : Hp} {S S₀ : Ad} {a : Addr} (h : S a) (n : ¬ S₀ a) : cutH H S S₀ a = none := by
  unfold cutH; rw [if_pos ⟨h, n⟩]
theorem cutH_of {H : Hp} {S S₀ : Ad} {a : Addr} {u : HO} (h : cutH H S S₀ a = some u) : H a = some u ∧ (S a → S₀ a) := by
  unfold cutH at h
  split at h
  · cases h
  · rename_i n
    exact ⟨h, fun s => Classical.byContradiction fun z => n ⟨s, z⟩⟩
theorem Fm.cut {K : PySem.W.Frag} {H₀ H : Hp} {S₀ S : Ad} {σ : St} (f : Fm K H₀ S₀ H S ρ σ) : Ext0 H₀ (cutH H S S₀) ∧ Fm K (cutH H S S₀) S₀ H S ρ σ := by
  refine ⟨fun a u n h => cutH_some (f.ext a u n h) fun s => (f.new a s).elim (fun z => z) fun z => (by rw [h] at z; cases z), ⟨f.ve, fun a u n h => (cutH_of h).1, f.sub, fun a s => ?_, fun a s z => ?_, fun i x a h o h2 => ?_⟩⟩
  · by_cases q : S₀ a
    · exact .inl q
    · exact .inr (cutH_none s q)
  · cases q : H a with
    | none => exact f.ve.dom a (f.sub a s) q
    | some u => rw [cutH_some q fun _ => s] at z; cases z
  · have hn := f.own i x a h o h2
    have ns : ¬ S₀ a := fun z => f.dm a z hn
    obtain ⟨v, q1, q2⟩ := f.ve.rel i x h
    rw [h2] at q1; cases q1
    cases x with
    | owx xs => obtain ⟨b, _, z, s, _⟩ := q2; cases z; exact cutH_none s ns
    | new C y dx fs => obtain ⟨_, z, s, _⟩ := q2; cases z; exact cutH_none s ns
    | nil => exact o.elim
    | any => exact o.elim
    | val d => exact o.elim
theorem ds_for {tg iter : Expr} {body : List Stmt} {its : List D} (hp : PassesOwn (model X.prog X.w) X.A X.env X.xe) (hc : X.calm = true) (hi : DI X tg ρ iter its) (hb : ForO X tg body its ρ o)
    (hs : ∀ x, foldedSetIterable iter X.env x = pure x := by intro _; rfl) : DS X ρ (.For tg iter body [] pos) o := by
  refine PS.weak (ps_for hp hc hi (pg_A (G := DG X tg) fun _ _ _ _ h => h) (pss_any (sts := body)) hs) ?_
  rintro E σ H ⟨H₀, S₀, S, f, k⟩
  refine ⟨S, f.ve, fun J H1 ex hJ => ?_⟩
  have f1 := f.grow ex
  obtain ⟨e0, fc⟩ := f1.cut
  have k1 := k.mono e0 f.dm
  refine ⟨fun i m σ' H' => ∃ S' ρ', Fm X.K (cutH H1 S S₀) S₀ H' S' ρ' σ' ∧ ForO X tg body (its.drop i) ρ' o ∧ i ≤ its.length ∧ m = its.length - i, ⟨its.length, S, ρ, fc, by simpa using hb, Nat.zero_le _, by simp⟩, ?_⟩
  rintro i m σ' H' ⟨S', ρ', f', hf, hi', rfl⟩
  have ext1 : Ext S H1 H' := fun a u n h => f'.ext a u (fun z => z) (cutH_some h fun s => (n s).elim)
  have new1 : ∀ a, S' a → S a ∨ H1 a = none := fun a s => by
    rcases f'.new a s with z | z
    · exact .inl (f.sub a z)
    · by_cases q : S a
      · exact .inl q
      · cases h : H1 a with
        | none => exact .inr rfl
        | some u => rw [cutH_some h fun s => (q s).elim] at z; cases z
  obtain ⟨J1, J2⟩ := hJ H' S' ext1 new1 f'.ve.dom i
  by_cases hlt : i < its.length
  · have hd : its[i]? = some its[i] := by simp [hlt]
    obtain ⟨go, yld⟩ := J1 _ hd
    rw [List.drop_eq_getElem_cons hlt] at hf
    have rep : ∀ {ρ1 : Rho} {ks : List Nat} {x : V} {H2 : Hp}, J.yld i H' x H2 → DG X tg ρ' its[i] ρ1 ks → TgOk ρ' ρ1 ks → ∀ (R : St → Hp → Prop), (∀ σ2, Fm X.K (cutH H1 S S₀) S₀ H2 S' ρ1 σ2 → R σ2 H2) → gA X.K (DG X tg) x σ' H2 R := fun {ρ1 ks x H2} y hg htg R hR => by
      obtain ⟨e1, r1⟩ := yld x H2 y
      exact ⟨ρ', its[i], ρ1, ks, hg, S', (f'.grow e1).ve, r1, fun σ2 ve2 c => hR σ2 ((f'.grow e1).tgt ve2 c htg)⟩
    cases hf with
    | cons hg htg hbd hrest =>
      rename_i ρ1 ρ2 ks
      refine .inr ⟨go, fun σ2 H2 => ∃ S2, Fm X.K (cutH H1 S S₀) S₀ H2 S2 ρ2 σ2, fun σ2 H2 ⟨S2, f2⟩ => ⟨its.length - (i + 1), by omega, S2, ρ2, f2, hrest, hlt, rfl⟩, fun x H2 y => ?_⟩
      exact rep y hg htg _ fun σ2 f2 => ⟨ρ1, _, hbd, _, _, S', f2, fun σ3 H3 S3 f3 => ⟨S3, f3⟩⟩
    | ret hg htg hbd hend =>
      rename_i ρ1 ks
      refine .inr ⟨go, fun _ _ => False, fun _ _ z => z.elim, fun x H2 y => ?_⟩
      refine rep y hg htg _ fun σ2 f2 => ⟨ρ1, o, hbd, _, _, S', f2, ?_⟩
      cases o with
      | nx _ => exact hend.elim
      | rt d => exact k1
      | rfx xs => exact k1
  · have e : i = its.length := by omega
    subst e
    rw [List.drop_length] at hf
    cases hf
    exact .inl ⟨J2 (Nat.le_refl _), k1 σ' H' S' f'⟩
end
end CT
set_option Elab.async false
set_option linter.all false
set_option maxRecDepth 100000
/-! THE DATA LAYER: defs, calls, methods, fields, instances, while -/
namespace CT
open PySem PySem.Spec L2
open PyProof.Rows hiding St
/-- a promise by data: P takes the arguments' data to the value's -/
def spD (K : PySem.W.Frag) (P : List D → D → Prop) : Sp := fun vs H Q _ => ∃ S ds d, Dom H S ∧ RdsL K H S ds vs ∧ P ds d ∧ ∀ v H', Ext0 H H' → Rds K H' S d v → Q v H'
/-- .. a new list comes -/
def spF (K : PySem.W.Frag) (P : List D → List D → Prop) : Sp := fun vs H Q _ => ∃ S ds xs, Dom H S ∧ RdsL K H S ds vs ∧ P ds xs ∧ ∀ a us H', Ext0 H H' → H a = none → H' a = some (.lst us) → RdsL K H' (S.and a) xs us → Q (.ref a) H'
/-- __init__: the instance's fields -/
def spI (K : PySem.W.Frag) (C : Addr) (P : List D → List (Str × D) → Prop) : Sp := fun vs H Q _ => ∃ S x dx us ds fs, vs = .ref x :: us ∧ H x = some (.ins C dx []) ∧ Dom H S ∧ S x ∧ RdsL K H S ds us ∧ P ds fs ∧
  ∀ H' gs, (∀ a o, a ≠ x → H a = some o → H' a = some o) → H' x = some (.ins C dx gs) → RdsF K H' S fs gs → Q .non H'
def startR (N : List Str) (ds : List D) : Rho := ds.map .val ++ List.replicate (N.length - ds.length) .nil
theorem start_ve {K : PySem.W.Frag} {H : Hp} {S : Ad} {N : List Str} {ds : List D} {vs : List V} (dm : Dom H S) (r : RdsL K H S ds vs) : VE K H S (startR N ds) (start N vs) := by
  have hl := r.length
  have nown : ∀ (i : Nat) (x : Sl), (startR N ds)[i]? = some x → ¬ x.owns := fun i x h o => by
    have hm := List.mem_of_getElem? h
    unfold startR at hm
    rcases List.mem_append.mp hm with hm | hm
    · obtain ⟨y, _, e⟩ := List.mem_map.mp hm; rw [← e] at o; exact o
    · rw [(List.mem_replicate.mp hm).2] at o; exact o
  refine ⟨by simp [startR, L2.start, hl], fun i x h => ?_, fun i j x y a _ h _ o => absurd o (nown i x h), dm⟩
  unfold startR at h
  unfold L2.start
  by_cases hi : i < ds.length
  · rw [List.getElem?_append_left (by simpa using hi), List.getElem?_map] at h
    rw [List.getElem?_append_left (by simpa [← hl] using hi), List.getElem?_map]
    cases hq : ds[i]? with
    | none => rw [hq] at h; cases h
    | some d =>
      rw [hq] at h; cases h
      obtain ⟨v, hv, rv⟩ := r.get hq
      exact ⟨some v, by rw [hv]; rfl, v, rfl, rv⟩
  · have hi' : ds.length ≤ i := Nat.le_of_not_lt hi
    rw [List.getElem?_append_right (by simpa using hi'), List.length_map, List.getElem?_replicate] at h
    rw [List.getElem?_append_right (by simpa [← hl] using hi'), List.length_map, List.getElem?_replicate]
    rw [← hl]
    split at h
    · rename_i z
      rw [if_pos z]
      cases h
      exact ⟨none, rfl, rfl⟩
    · cases h
theorem start_fm {K : PySem.W.Frag} {H : Hp} {S : Ad} {N : List Str} {ds : List D} {vs : List V} (dm : Dom H S) (r : RdsL K H S ds vs) : Fm K H S H S (startR N ds) (start N vs) :=
  ⟨start_ve dm r, Ext.refl, fun a h => h, fun a h => .inl h, dm, fun i x a h o _ => by
    have hm := List.mem_of_getElem? h
    unfold startR at hm
    rcases List.mem_append.mp hm with hm | hm
    · obtain ⟨y, _, e⟩ := List.mem_map.mp hm; rw [← e] at o; exact o.elim
    · rw [(List.mem_replicate.mp hm).2] at o; exact o.elim⟩
/-- a body's end and the value -/
def OutV : Out → D → Prop
  | .rt d, d' => d = d'
  | .nx _, d' => d' = .non
  | .rfx c, d' => d' = c.D
section
variable {P : Program} {w : World} {K : PySem.W.Frag} {mg : Str → Option Value} {base : Heap} {x qual : Str} {st : Stmt} {f : Addr} {fd : FuncData} {N ps : List Str} {k : Nat}
theorem fn_D {Pr : List D → D → Prop} (F : Fun K x qual st f fd) (S : FnScope N ps (defScope st)) (len : ∀ ds d, Pr ds d → ds.length = ps.length)
    (hb : ∀ (cdv : Value) (A : Around) (outer : List Env) (s : Shared) (H : Hp) (E : XK) (ds : List D) (d : D), Room k (A.deeper (envOfC qual (defScope st) s.heap.objs.size f cdv)) → Pr ds d →
      ∃ o, OutV o d ∧ DSs (cxOf CX0 P w K mg base N qual (defScope st) f cdv A outer s H E).nox (startR N ds) (defBody st) o) : FnOk P w K mg base CX0 (k + 1) f fd ps (spD K Pr) := by
  refine F.ok S (fun vs H Q E ⟨S, ds, d, dm, r, p, kk⟩ => by rw [← r.length]; exact len ds d p) fun cdv A outer s H vs Q E hr ⟨S', ds, d, dm, r, p, kk⟩ => ?_
  obtain ⟨o, ov, h⟩ := hb cdv A outer s H E ds d hr p
  refine ⟨_, h, H, S', S', start_fm dm r, ?_⟩
  cases o with
  | rt d' => cases ov; exact kk
  | nx ρ' => cases ov; exact fun σ' H' S'' f => kk .non H' f.ext .non
  | rfx c => cases ov; exact fun a vs H' ex hn ha r' => kk _ H' ex ((r'.av fun b h => .inl (.inl h)).rds ha (dm.not hn))
theorem FnOk.pure {Pr : List D → List D → Prop} (F : FnOk P w K mg base CX0 k f fd ps (spF K Pr)) : FnOk P w K mg base CX0 k f fd ps (spD K fun ds d => ∃ xs, Pr ds xs ∧ d = .lst xs) :=
  F.imp fun vs H Q E ⟨S, ds, d, dm, r, ⟨xs, p, e⟩, kk⟩ => ⟨S, ds, xs, dm, r, p, fun a us H' ex hn ha r' => by subst e; exact kk _ H' ex (.lst (.inl ha) (dm.not hn) (r'.av fun b h => .inl (.inl h)))⟩
/-- __init__ -/
theorem fn_I {C : Addr} {Pr : List D → List (Str × D) → Prop} (F : Fun K x qual st f fd) (S : FnScope N ps (defScope st)) (len : ∀ ds fs, Pr ds fs → ds.length + 1 = ps.length)
    (hb : ∀ (cdv : Value) (A : Around) (outer : List Env) (s : Shared) (H : Hp) (E : XK) (ds : List D) (fs : List (Str × D)) (z dx : Addr), Room k (A.deeper (envOfC qual (defScope st) s.heap.objs.size f cdv)) → Pr ds fs →
      ∃ ρ', ρ'[0]? = some (.new C z dx fs) ∧ DSs (cxOf CX0 P w K mg base N qual (defScope st) f cdv A outer s H E).nox (.new C z dx [] :: (startR N (.non :: ds)).tail) (defBody st) (.nx ρ')) : FnOk P w K mg base CX0 (k + 1) f fd ps (spI K C Pr) := by
  refine F.ok S ?_ ?_
  · rintro vs H Q E ⟨S, z, dx, us, ds, fs, rfl, hz, dm, sz, r, p, kk⟩
    rw [List.length_cons, ← r.length]; exact len ds fs p
  · rintro cdv A outer s H vs Q E hr ⟨S', z, dx, us, ds, fs, rfl, hz, dm, sz, r, p, kk⟩
    obtain ⟨ρ', h0, h⟩ := hb cdv A outer s H E ds fs z dx hr p
    have ve := start_ve (N := N) dm (.cons (.non : Rds K H S' .non .non) r)
    have e1 : startR N (.non :: ds) = .val .non :: (startR N (.non :: ds)).tail := rfl
    have e2 : start N (.non :: us) = some .non :: (start N (.non :: us)).tail := rfl
    have e3 : start N (.ref z :: us) = some (.ref z) :: (start N (.non :: us)).tail := rfl
    have nown : ∀ (i : Nat) (x : Sl), (startR N (.non :: ds))[i]? = some x → ¬ x.owns := fun i x h o => by
      have hm := List.mem_of_getElem? h
      unfold startR at hm
      rcases List.mem_append.mp hm with hm | hm
      · obtain ⟨y, _, e⟩ := List.mem_map.mp hm; rw [← e] at o; exact o
      · rw [(List.mem_replicate.mp hm).2] at o; exact o
    have nt : ∀ (i : Nat) (x : Sl), (startR N (.non :: ds)).tail[i]? = some x → ¬ x.owns := fun i x h => nown (i + 1) x (by rw [e1]; exact h)
    refine ⟨_, h, fun a => if a = z then none else H a, fun a => S' a ∧ a ≠ z, S', ⟨⟨?_, fun i x h => ?_, fun i j x y a hij h1 h2 o1 o2 _ => ?_, dm⟩, fun a o _ h => ?_, fun a h => h.1, fun a h => ?_, fun a h => ?_, fun i x a h o h2 => ?_⟩, fun σ' H' S'' f => ?_⟩
    · have := ve.len
      rw [e3, List.length_cons, List.length_cons]
      rw [e1, e2, List.length_cons, List.length_cons] at this
      exact this
    · rw [e3]
      cases i with
      | zero => cases h; exact ⟨_, rfl, [], rfl, sz, hz, .nil⟩
      | succ i =>
        obtain ⟨v, q1, q2⟩ := ve.rel (i + 1) x (by rw [e1]; exact h)
        rw [e2] at q1
        exact ⟨v, q1, q2⟩
    · cases i with
      | zero => cases j with
        | zero => exact absurd rfl hij
        | succ j => exact absurd o2 (nt j y h2)
      | succ i => exact absurd o1 (nt i x h1)
    · by_cases ha : a = z
      · rw [if_pos ha] at h; cases h
      · rw [if_neg ha] at h; exact h
    · by_cases ha : a = z
      · exact .inr (if_pos ha)
      · exact .inl ⟨h, ha⟩
    · show (if a = z then none else H a) ≠ none
      rw [if_neg h.2]; exact dm a h.1
    · cases i with
      | zero =>
        rw [e3] at h2
        cases h2
        exact if_pos rfl
      | succ i => exact absurd o (nt i x h)
    · obtain ⟨v, _, gs, _, sz', hz', rf⟩ := f.ve.rel 0 _ h0
      refine kk H' gs (fun a o ha h => f.ext a o (fun z => z) (by rw [if_neg ha]; exact h)) hz' (rf.av fun a h => ?_)
      by_cases ha : a = z
      · subst ha; exact .inl sz'
      · exact .inl (f.sub a ⟨h, ha⟩)
end
section
variable {X : Cx} {ρ : Rho} {k : Nat} {f C : Addr} {fd : FuncData} {ps : List Str} {x m : Str} {p pos apos : Pos} {e o : Expr} {es : List Expr} {ds : List D} {d : D}
theorem app_nil {K : PySem.W.Frag} {H : Hp} {S : Ad} {ds : List D} {vs : List V} (r : RdsL K H S ds vs) : RdsL K H S ds (vs ++ []) := by rw [List.append_nil]; exact r
theorem de_call {Pr : List D → D → Prop} (F : FnOk X.prog X.w X.K X.mg X.base CX0 k f fd ps (spD X.K Pr)) (hr : Room k X.A) (hg : Gl X x) (hm : X.mg x = some (.ref f)) (hk : PySem.W.keepIn X.K (.ref f) = true) (hb : Binds X.K fd ps [])
    (ha : DA X ρ (e :: es) ds) (hp : Pr ds d) (hdb : (x == ("__debug__" : Str)) = false := by decide) (he : starEach (e :: es) X.env = (false, eval e X.env) :: starEach es X.env := by rfl) (hpl : (backTo pos (starEach es X.env)).any (·.1) = false := by rfl) :
    DE X ρ (.Call (.Name x p) (e :: es) [] pos) d := PE.weak (pe_call F hr hg hm hk hb .nil pass0 ha hdb he hpl) fun σ H Q ⟨S, ve, kk⟩ => ⟨S, ve, fun vs H' ex r => ⟨S, ds, d, (ve.ext ex).dom, app_nil r, hp, fun v H'' ex' r' => kk v H'' (ex.trans ex') r'⟩⟩
/-- o.m(e, ..) -/
theorem de_meth {Pr : List D → D → Prop} {fs : List (Str × D)} {pl : Sem Bool} (ho : DE X ρ o (.ins C fs)) (hl : fs.lookup m = none) (c : Cls X.K C) (hm : Meth X.K C m f) (F : FnOk X.prog X.w X.K X.mg X.base CX0 k f fd ps (spD X.K Pr)) (hr : Room k X.A) (hb : Binds X.K fd ps [])
    (ha : DA X ρ (e :: es) ds) (hp : Pr (.ins C fs :: ds) d) (hst : starEach (e :: es) X.env = (false, eval e X.env) :: starEach es X.env := by rfl) (hpl : (backTo pos (starEach es X.env)).any (·.1) = false := by rfl)
    (ht : eval (.Call (.Attribute o m apos) (e :: es) [] pos) X.env = (do
      let ov ← eval o X.env
      standAt apos.atName
      let (f, first) ← holding [ov] (getMethod ov m pl)
      callWith pos f first (backTo pos (starEach (e :: es) X.env)) (backToKw pos (keywordEach [] X.env))) := by rfl) :
    DE X ρ (.Call (.Attribute o m apos) (e :: es) [] pos) d := PE.weak (pe_meth ho c hm F hr hb .nil pass0 ha hst hpl ht) fun σ H Q ⟨S, ve, kk⟩ => ⟨S, ve, fun v H1 ex1 r1 => by
      obtain ⟨a, dx, gs, rfl, hh, rf⟩ := r1.insV
      exact ⟨a, dx, gs, rfl, hh, rf.none hl, S, ve.ext ex1, fun vs H' ex r => ⟨S, _, d, ((ve.ext ex1).ext ex).dom, .cons (r1.ext (ex.to S)) (app_nil r), hp, fun v H'' ex' r' => kk v H'' (ex1.trans (ex.trans ex')) r'⟩⟩⟩
/-- o.m() -/
theorem de_meth0 {Pr : List D → D → Prop} {fs : List (Str × D)} {pl : Sem Bool} (ho : DE X ρ o (.ins C fs)) (hl : fs.lookup m = none) (c : Cls X.K C) (hm : Meth X.K C m f) (F : FnOk X.prog X.w X.K X.mg X.base CX0 k f fd ps (spD X.K Pr)) (hr : Room k X.A) (hb : Binds X.K fd ps [])
    (hp : Pr [.ins C fs] d)
    (ht : eval (.Call (.Attribute o m apos) [] [] pos) X.env = (do
      let ov ← eval o X.env
      standAt apos.atName
      let (f, first) ← holding [ov] (getMethod ov m pl)
      callWith pos f first (backTo pos (starEach [] X.env)) (backToKw pos (keywordEach [] X.env))) := by rfl) :
    DE X ρ (.Call (.Attribute o m apos) [] [] pos) d := PE.weak (pe_meth0 ho c hm F hr hb .nil pass0 ht) fun σ H Q ⟨S, ve, kk⟩ => ⟨S, ve, fun v H1 ex1 r1 => by
      obtain ⟨a, dx, gs, rfl, hh, rf⟩ := r1.insV
      exact ⟨a, dx, gs, rfl, hh, rf.none hl, S, _, d, (ve.ext ex1).dom, .cons r1 .nil, hp, fun v H'' ex' r' => kk v H'' (ex1.trans ex') r'⟩⟩
/-- o.f -/
theorem de_fld {fs : List (Str × D)} {fl : Str} (ho : DE X ρ o (.ins C fs)) (c : Cls X.K C) (n : NoAttr X.K C fl) (l : fs.lookup fl = some d) (hb : attributeBase o fl X.env (eval o X.env) = eval o X.env := by rfl) : DE X ρ (.Attribute o fl pos) d :=
  PE.weak (pe_fld ho hb) fun σ H Q ⟨S, ve, kk⟩ => ⟨S, ve, fun v H1 ex1 r1 => by
    obtain ⟨a, dx, gs, rfl, hh, rf⟩ := r1.insV
    obtain ⟨u, hu, ru⟩ := rf.look l
    exact ⟨a, C, dx, gs, u, rfl, hh, c, n, hu, kk u H1 ex1 ru⟩⟩
/-- C(e, ..) -/
theorem de_make {Pr : List D → List (Str × D) → Prop} {fs : List (Str × D)} (M : Mk X.K C f) (F : FnOk X.prog X.w X.K X.mg X.base CX0 k f fd ps (spI X.K C Pr)) (hr : Room (k + 1) X.A) (hg : Gl X x) (hm : X.mg x = some (.ref C)) (hb : Binds X.K fd ps [])
    (ha : DA X ρ (e :: es) ds) (hp : Pr ds fs) (hdb : (x == ("__debug__" : Str)) = false := by decide) (he : starEach (e :: es) X.env = (false, eval e X.env) :: starEach es X.env := by rfl) (hpl : (backTo pos (starEach es X.env)).any (·.1) = false := by rfl) :
    DE X ρ (.Call (.Name x p) (e :: es) [] pos) (.ins C fs) := PE.weak (pe_make M F hr hg hm hb .nil pass0 ha hdb he hpl) fun σ H Q ⟨S, ve, kk⟩ => ⟨S, ve, fun vs H1 ex r z dx hz hdx hne => by
      have e1 : Ext0 H1 (upd H1 dx (.own z)) := Ext.new hdx
      have hz1 : upd H1 dx (.own z) z = none := by rw [upd_ne (Ne.symm hne)]; exact hz
      have e2 : Ext0 H1 (upd (upd H1 dx (.own z)) z (.ins C dx [])) := e1.trans (Ext.new hz1)
      have dm := (ve.ext ex).dom
      refine ⟨S.and z, z, dx, vs ++ [], ds, fs, rfl, upd_same, fun a h => ?_, .inr rfl, app_nil ((r.av (S' := S.and z) fun b h => h.imp_right fun q => by rw [q]; exact hz).ext (e2.to _)), hp, fun H' gs hk hz' rf => ⟨rfl, ?_⟩⟩
      · rcases h with h | h
        · exact dm.ext e2 a h
        · rw [h, upd_same]; intro q; cases q
      · refine kk _ H' (ex.trans fun a o n h => hk a o (ne_of_none h hz) (e2 a o n h)) (.ins hz' (dm.not hz) (rf.av fun b h => .inl (.inl h)))⟩
end
end CT
set_option Elab.async false
set_option linter.all false
set_option maxRecDepth 100000
/-! THE DATA LAYER: built-in functions, operators on tuples and lists, equality of data -/
namespace CT
open PySem PySem.Spec L2
open PyProof.Rows hiding St
/-! ### rules of the hand layer -/
section
variable {X : Cx}
theorem bools_of : ∀ {ys : List Bool} {its : List Value}, Vals (ys.map .bl) its → its = ys.map .bool
  | [], _, .nil => rfl
  | y :: ys, _, .cons r t => by rw [bools_of t, show _ = Value.bool y from r]; rfl
theorem ints_of : ∀ {ns : List Int} {its : List Value}, Vals (ns.map .int) its → IntsAre its ns
  | [], _, .nil => .nil
  | n :: ns, _, .cons r t => by obtain ⟨k, rfl⟩ := (show ∃ k, _ = Value.int n k from r); exact .cons n k (ints_of t)
theorem all_range {ys : List Bool} : (List.range ys.length).all (fun i => ys.getD i true) = ys.all id := by
  induction ys with
  | nil => rfl
  | cons y ys ih =>
    rw [List.length_cons, List.range_succ_eq_map, List.all_cons, List.all_map, List.all_cons]
    rw [← ih]
    rfl
theorem truth_bools {prog : Program} {w : World} {A : Around} {ys : List Bool} : TruthOf prog w A (fun i v => (ys.map Value.bool).toArray[i]? = some v) (fun i => ys.getD i true) := fun i v s Q E hv q => by
  have hv' : (ys.map Value.bool)[i]? = some v := by simpa using hv
  obtain ⟨b, hb, rfl⟩ := getmap hv'
  have e : ys.getD i true = b := by simp [hb]
  exact wpAny_truthy_bool (by rw [← e]; exact q)
theorem walk_S {prog : Program} {w : World} {A : Around} (hh : A.handled = none) (b : Bool) (I ax : Addr) (hne : ax ≠ I) (items : Array Value) : Walks prog w A I [I, ax] [I] items.size (fun i v => items[i]? = some v) (fun i h => Sit h b I ax i ∧ Ssq h b ax items) := by
  cases b with
  | true => exact Walks.tuple hh I ax hne items
  | false => exact Walks.list hh I ax hne items
theorem call_allB (hc : X.calm = true) : CallR X (.builtin "all") (fun xs H Q => ∃ (b : Bool) (a : Addr) (ys : List Bool), xs = [.ref a] ∧ SqB X.K H b a (ys.map .bl) ∧ Q (.bl (ys.all id)) H) := by
  intro pins s σ H xs us Q I r h
  obtain ⟨b, a, ys, rfl, hq, q⟩ := h
  obtain ⟨u, rfl, rx⟩ := vals1 r
  cases rx
  obtain ⟨its, r', pl, hz⟩ := CT.Inv.sqb I hq
  have e := bools_of r'
  subst e
  have hal : a < s.heap.objs.size := by
    cases b with
    | true => obtain ⟨o, ho, _⟩ := pl; exact Heap.lt_size ho
    | false => obtain ⟨o, ho, _⟩ := pl; exact Heap.lt_size ho
  refine call_all_walk (pyIterS pl ⟨_, _, _, _, _, _, _, rfl, walk_S (A := X.A.in1) (I.ok.hd hc) b s.heap.objs.size a (Nat.ne_of_lt hal) (ys.map Value.bool).toArray, ⟨Sit.new b a, pl.at fun o e => Heap.get?_push_of_some _ e⟩, truth_bools (ys := ys), fun h' tk hk => ?_⟩)
  refine ⟨.bl (ys.all id), H, I.kept (t' := tk) fun c o e => hk c o (by simp; exact Nat.ne_of_lt (Heap.lt_size e)) (Heap.get?_push_of_some _ e), ?_, q⟩
  show Value.bool _ = Value.bool _
  rw [List.size_toArray, List.length_map, all_range]
theorem call_sumI (hc : X.calm = true) : CallR X (.builtin "sum") (fun xs H Q => ∃ (a : Addr) (ns : List Int), xs = [.ref a] ∧ SqL X.K H a (ns.map .int) ∧ Q (.int ns.sum) H) := by
  intro pins s σ H xs us Q I r h
  obtain ⟨a, ns, rfl, hq, q⟩ := h
  obtain ⟨u, rfl, rx⟩ := vals1 r
  cases rx
  obtain ⟨its, r', pl, hz⟩ := I.list hq
  have hi := ints_of r'
  obtain ⟨xs, ex⟩ := hi.allInts.items
  have en : xs.toList.map (·.1) = ns := by rw [← nums_intItems, ← ex]; exact hi.numsOf
  refine sum_intListG (I.ok.hd hc) (xs := xs) (by rw [← ex]; exact pl.isList) fun h' tk t' hk => ?_
  rw [preSum_eq, List.take_of_length_le (by simp), en]
  exact ⟨.int ns.sum, H, I.kept (t' := tk) hk, ⟨t', rfl⟩, q⟩
theorem op_isnotB : OpR X (compareOp .IsNot) (fun x y H Q => ∃ a b, x = .bl a ∧ y = .bl b ∧ Q (.bl (a != b)) H) := by
  intro pins s σ H x y v u Q I rx ry h
  obtain ⟨a, b, rfl, rfl, q⟩ := h
  cases rx; cases ry
  exact isnot_bool ⟨.bl _, H, I, rfl, q⟩
/-- () + t -/
theorem op_catT0 : OpR X (binaryOp .Add) (fun x y H Q => ∃ a b ys, x = .ref a ∧ y = .ref b ∧ SqT X.K H a [] ∧ SqT X.K H b ys ∧ Q (.ref b) H) := by
  intro pins s σ H x y v u Q I rx ry h
  obtain ⟨a, b, ys, rfl, rfl, ha, hb, q⟩ := h
  cases rx
  cases ry
  obtain ⟨its, r1, p1, _⟩ := I.tuple ha
  obtain ⟨its2, r2, p2, _⟩ := I.tuple hb
  cases r1
  obtain ⟨⟨cls, dd, data, sl⟩, ho, hc, n, hd⟩ := p1
  obtain ⟨⟨cls2, dd2, data2, sl2⟩, ho2, hc2, n2, hd2⟩ := p2
  simp only at hc hd hc2 hd2
  subst hc hd hc2 hd2
  exact concat_meets ⟨_, ho, rfl⟩ ⟨_, ho2, rfl⟩ noFill_tuple_add seq_tuple_add PySem.F.slot_tuple_add PySem.F.entry_tuple_add (PySem.F.args_tuple_add_2 _ _)
    (tuple_addW0 a b #[] its2.toArray n n2 dd dd2 sl sl2 (by simp)) ⟨ho, ho2, ⟨.ref b, H, I, rfl, q⟩⟩
/-- (v,) * k -/
theorem op_repT : OpR X (binaryOp .Mult) (fun x y H Q => ∃ a k z, x = .ref a ∧ y = .int k ∧ SqT X.K H a [z] ∧ 0 ≤ k ∧ k < 2 ^ 20 ∧ (k = 1 → Q (.ref a) H) ∧ (k ≠ 1 → ∀ p, H p = none → Q (.ref p) (upd H p (.tup (List.replicate k.toNat z))))) := by
  intro pins s σ H x y v u Q I rx ry h
  obtain ⟨a, k, z, rfl, rfl, ha, h0, h1, q1, q2⟩ := h
  cases rx
  obtain ⟨t, rfl⟩ := ry
  obtain ⟨its, r1, p1, _⟩ := I.tuple ha
  cases r1 with
  | cons rz rn =>
    cases rn
    rename_i uz
    obtain ⟨⟨cls, dd, data, sl⟩, ho, hc, n, hd⟩ := p1
    simp only at hc hd
    subst hc hd
    refine wpAny_binaryOp_repeat_ref (T := "tuple") (U := "int") (by decide) ⟨_, ho, rfl⟩ (fun s' => typeIs_int s' k t) noFill_tuple_mul F.fills_int_mul F.slot_int_rmul repeat_tuple F.slot_int_index.lookup
      (call_meets F.slot_int_rmul (typeIs_int s k t) F.entry_int_rmul (F.args_int_rmul_2 _ _) (rmul_int_tuple k t a dd _ n sl)
        ⟨ho, rfl, ⟨_, ho, rfl⟩, call_meets F.slot_tuple_mul ⟨_, ho, rfl⟩ F.entry_tuple_mul (F.args_tuple_mul_2 _ _) (mul_one_tuple a dd uz n sl k t h0 h1) ⟨ho, ?_⟩⟩)
    by_cases k1 : k = 1
    · rw [if_pos k1]
      exact ⟨.ref a, H, I, rfl, q1 k1⟩
    · rw [if_neg k1]
      have rr : ∀ m : Nat, Vals (List.replicate m z) (List.replicate m uz) := fun m => by
        induction m with
        | zero => exact .nil
        | succ m ih => exact .cons rz ih
      refine ⟨.ref s.heap.objs.size, _, I.laid (t' := s.toks) (o := .tup (List.replicate k.toNat z)) (fun b ob q => Heap.get?_push_of_some _ q) (Nat.le_refl _) ?_, rfl, q2 k1 _ (I.hok.fresh (Nat.le_refl _))⟩
      exact ⟨by rw [List.length_replicate]; show k.toNat ≤ 2 ^ 24; omega, _, rr _, IsTup.new _ _⟩
end
end CT
set_option Elab.async false
set_option linter.all false
set_option maxRecDepth 100000
/-! THE DATA LAYER: built-ins over data -/
namespace CT
open PySem PySem.Spec L2
open PyProof.Rows hiding St
section
variable {X : Cx} {ρ : Rho} {e a b : Expr} {es : List Expr} {d da db : D} {ds xs ys : List D} {x : Str} {p pos : Pos}
/-! ### calls of built-ins -/
theorem de_callB {id : String} {r : List V → Hp → VK → Prop} (hc : CallR X (.builtin id) r) (hcd : CD X.K r ds d) (hg : Gl X x) (hm : X.mg x = none) (hv : bootBuiltins x = some (.builtin id)) (ha : DA X ρ (e :: es) ds) (hn : x ≠ "__name__" := by decide) (hdb : (x == ("__debug__" : Str)) = false := by decide)
    (he : starEach (e :: es) X.env = (false, eval e X.env) :: starEach es X.env := by rfl) (hpl : (backTo pos (starEach es X.env)).any (·.1) = false := by rfl) : DE X ρ (.Call (.Name x p) (e :: es) [] pos) d := PE.weak (pe_callB hc hg hm hv ha hn hdb he hpl) (call_D hcd)
theorem de_callTy {T : String} {r : List V → Hp → VK → Prop} (hc : CallR X (.type T) r) (hcd : CD X.K r ds d) (hg : Gl X x) (hm : X.mg x = none) (hv : bootBuiltins x = some (.type T)) (ha : DA X ρ (e :: es) ds) (hn : x ≠ "__name__" := by decide) (hdb : (x == ("__debug__" : Str)) = false := by decide)
    (he : starEach (e :: es) X.env = (false, eval e X.env) :: starEach es X.env := by rfl) (hpl : (backTo pos (starEach es X.env)).any (·.1) = false := by rfl) : DE X ρ (.Call (.Name x p) (e :: es) [] pos) d := PE.weak (pe_callTy hc hg hm hv ha hn hdb he hpl) (call_D hcd)
theorem Sq.sq {K : PySem.W.Frag} {H : Hp} {S : Ad} {v : V} (q : Sq d xs) (r : Rds K H S d v) : ∃ b a vs, v = .ref a ∧ SqB K H b a vs ∧ RdsL K H S xs vs := by
  obtain ⟨b, a, vs, e, l⟩ := q.later r
  exact ⟨b, a, vs, e, l H S Ext.refl fun _ h => .inl h⟩
theorem SqB.or {K : PySem.W.Frag} {H : Hp} {c : Bool} {a : Addr} {vs : List V} (h : SqB K H c a vs) : SqL K H a vs ∨ SqT K H a vs := by
  cases c with
  | true => exact .inr h
  | false => exact .inl h
theorem de_len (q : Sq da xs) (hg : Gl X "len") (hm : X.mg "len" = none) (ha : DA X ρ [e] [da]) (he : starEach [e] X.env = (false, eval e X.env) :: starEach [] X.env := by rfl) (hpl : (backTo pos (starEach [] X.env)).any (·.1) = false := by rfl) : DE X ρ (.Call (.Name "len" p) [e] [] pos) (.int xs.length) :=
  de_callB call_len_seq (fun vs H S Q rs dm k => by
    obtain ⟨v, rfl, r⟩ := rs.one
    obtain ⟨c, a, us, rfl, sq, rl⟩ := q.sq r
    exact ⟨a, us, rfl, sq.or, by rw [← rl.length]; exact k _ H Ext.refl (.int _)⟩) hg hm boot_len ha (by decide) (by decide) he hpl
theorem boot_tuple' : bootBuiltins "tuple" = some (.type "tuple") := by decide +kernel
theorem boot_list' : bootBuiltins "list" = some (.type "list") := by decide +kernel
theorem boot_int' : bootBuiltins "int" = some (.type "int") := by decide +kernel
theorem boot_bool' : bootBuiltins "bool" = some (.type "bool") := by decide +kernel
theorem boot_all' : bootBuiltins "all" = some (.builtin "all") := by decide +kernel
theorem boot_sum' : bootBuiltins "sum" = some (.builtin "sum") := by decide +kernel
theorem boot_abs' : bootBuiltins "abs" = some (.builtin "abs") := by decide +kernel
theorem boot_isinstance' : bootBuiltins "isinstance" = some (.builtin "isinstance") := by decide +kernel
theorem de_tuple (q : Sq da xs) (hg : Gl X "tuple") (hm : X.mg "tuple" = none) (ha : DA X ρ [e] [da]) (he : starEach [e] X.env = (false, eval e X.env) :: starEach [] X.env := by rfl) (hpl : (backTo pos (starEach [] X.env)).any (·.1) = false := by rfl) : DE X ρ (.Call (.Name "tuple" p) [e] [] pos) (.tup xs) :=
  de_callTy call_tuple_of (fun vs H S Q rs dm k => by
    obtain ⟨v, rfl, r⟩ := rs.one
    cases q with
    | lst =>
      obtain ⟨a, us, rfl, sq, rl⟩ := r.lstV
      exact ⟨a, us, rfl, .inl ⟨sq, fun l hl => k _ _ (Ext.new hl) (Rds.newTup dm hl rl)⟩⟩
    | tup =>
      obtain ⟨a, us, rfl, h, rl⟩ := r.tupV
      exact ⟨a, us, rfl, .inr ⟨.inl (.inl h), k _ H Ext.refl r⟩⟩) hg hm boot_tuple' ha (by decide) (by decide) he hpl
theorem df_list (q : Sq da xs) (hg : Gl X "list") (hm : X.mg "list" = none) (ha : DA X ρ [e] [da]) (he : starEach [e] X.env = (false, eval e X.env) :: starEach [] X.env := by rfl) (hpl : (backTo pos (starEach [] X.env)).any (·.1) = false := by rfl) : DF X ρ (.Call (.Name "list" p) [e] [] pos) xs :=
  PE.weak (pe_callTy call_list_of hg hm boot_list' ha (by decide) (by decide) he hpl) fun σ H Q ⟨S, ve, k⟩ => ⟨S, ve, fun vs H' ex rs => by
    obtain ⟨v, rfl, r⟩ := rs.one
    obtain ⟨c, a, us, rfl, sq, rl⟩ := q.sq r
    exact ⟨a, us, rfl, sq.or, fun l hl => k l us _ (ex.trans (Ext.new hl)) (ex.back hl) upd_same ((rl.av (S' := S.and l) fun b h => h.imp_right fun z => by rw [z]; exact hl).ext ((Ext.new hl).to _))⟩⟩
theorem bls_V {K : PySem.W.Frag} {H : Hp} {S : Ad} : ∀ {ys : List Bool} {vs : List V}, RdsL K H S (ys.map .bl) vs → vs = ys.map .bl
  | [], _, .nil => rfl
  | y :: ys, _, .cons r t => by rw [bls_V t, r.blV]; rfl
theorem ints_V {K : PySem.W.Frag} {H : Hp} {S : Ad} : ∀ {ns : List Int} {vs : List V}, RdsL K H S (ns.map .int) vs → vs = ns.map .int
  | [], _, .nil => rfl
  | y :: ys, _, .cons r t => by rw [ints_V t, r.intV]; rfl
theorem de_all {bs : List Bool} (hc : X.calm = true) (q : Sq da (bs.map .bl)) (hg : Gl X "all") (hm : X.mg "all" = none) (ha : DA X ρ [e] [da]) (he : starEach [e] X.env = (false, eval e X.env) :: starEach [] X.env := by rfl) (hpl : (backTo pos (starEach [] X.env)).any (·.1) = false := by rfl) :
    DE X ρ (.Call (.Name "all" p) [e] [] pos) (.bl (bs.all id)) :=
  de_callB (call_allB hc) (fun vs H S Q rs dm k => by
    obtain ⟨v, rfl, r⟩ := rs.one
    obtain ⟨c, a, us, rfl, sq, rl⟩ := q.sq r
    exact ⟨c, a, bs, rfl, by rw [← bls_V rl]; exact sq, k _ H Ext.refl (.bl _)⟩) hg hm boot_all' ha (by decide) (by decide) he hpl
theorem de_sum {ns : List Int} (hc : X.calm = true) (hg : Gl X "sum") (hm : X.mg "sum" = none) (ha : DA X ρ [e] [.lst (ns.map .int)]) (he : starEach [e] X.env = (false, eval e X.env) :: starEach [] X.env := by rfl) (hpl : (backTo pos (starEach [] X.env)).any (·.1) = false := by rfl) :
    DE X ρ (.Call (.Name "sum" p) [e] [] pos) (.int ns.sum) :=
  de_callB (call_sumI hc) (fun vs H S Q rs dm k => by
    obtain ⟨v, rfl, r⟩ := rs.one
    obtain ⟨a, us, rfl, sq, rl⟩ := r.lstV
    exact ⟨a, ns, rfl, by rw [← ints_V rl]; exact sq, k _ H Ext.refl (.int _)⟩) hg hm boot_sum' ha (by decide) (by decide) he hpl
theorem de_abs {i : Int} (hg : Gl X "abs") (hm : X.mg "abs" = none) (ha : DA X ρ [e] [.int i]) (he : starEach [e] X.env = (false, eval e X.env) :: starEach [] X.env := by rfl) (hpl : (backTo pos (starEach [] X.env)).any (·.1) = false := by rfl) :
    DE X ρ (.Call (.Name "abs" p) [e] [] pos) (.int (if i < 0 then -i else i)) :=
  de_callB call_abs (fun vs H S Q rs dm k => by
    obtain ⟨v, rfl, r⟩ := rs.one
    exact ⟨i, by rw [r.intV], k _ H Ext.refl (.int _)⟩) hg hm boot_abs' ha (by decide) (by decide) he hpl
theorem dt_isnotB {q r : Bool} (ha : DE X ρ a (.bl q)) (hb : DE X ρ b (.bl r)) : DT X ρ (.Compare a [.IsNot] [b] pos) (q != r) :=
  dt_cmp op_isnotB (fun x y H S Q rx ry dm k => ⟨q, r, rx.blV, ry.blV, k _ H Ext.refl (.bl _)⟩) ha hb (nomark _)
theorem de_catT (ha : DE X ρ a (.tup xs)) (hb : DE X ρ b (.tup ys)) (hl : xs.length + ys.length ≤ sizeLine) : DE X ρ (.BinOp a .Add b pos) (.tup (xs ++ ys)) := by
  by_cases hx : xs = []
  · subst hx
    exact de_op op_catT0 (fun x y H S Q rx ry dm k => by
      obtain ⟨p, us, rfl, h1, r1⟩ := rx.tupV
      obtain ⟨q, vs, rfl, h2, r2⟩ := ry.tupV
      cases r1
      exact ⟨p, q, vs, rfl, rfl, .inl (.inl h1), .inl (.inl h2), k _ H Ext.refl ry⟩) ha hb
  · exact de_op op_catT (fun x y H S Q rx ry dm k => by
      obtain ⟨p, us, rfl, h1, r1⟩ := rx.tupV
      obtain ⟨q, vs, rfl, h2, r2⟩ := ry.tupV
      refine ⟨p, q, us, vs, rfl, rfl, .inl (.inl h1), .inl (.inl h2), fun z => hx ?_, by rw [← r1.length, ← r2.length]; exact hl, fun z => ?_, fun z l hp => k _ _ (Ext.new hp) (Rds.newTup dm hp (RdsL.app r1 r2))⟩
      · subst z; cases r1; rfl
      · subst z; cases r2; rw [List.append_nil] at k; exact k _ H Ext.refl rx) ha hb
theorem de_repT {k : Int} (ha : DE X ρ a (.tup [d])) (hb : DE X ρ b (.int k)) (h0 : 0 ≤ k) (h1 : k < 2 ^ 20) : DE X ρ (.BinOp a .Mult b pos) (.tup (List.replicate k.toNat d)) :=
  de_op op_repT (fun x y H S Q rx ry dm kk => by
    obtain ⟨p, us, rfl, h2, r1⟩ := rx.tupV
    obtain ⟨v, rfl, r⟩ := r1.one
    refine ⟨p, k, v, rfl, ry.intV, .inl (.inl h2), h0, h1, fun z => ?_, fun z l hp => kk _ _ (Ext.new hp) (Rds.newTup dm hp (RdsL.rep r _))⟩
    subst z
    exact kk _ H Ext.refl rx) ha hb
theorem atI_D {K : PySem.W.Frag} {H : Hp} {S : Ad} {vs : List V} {i : Int} (r : RdsL K H S xs vs) (h : atI xs i = some d) : ∃ v, atI vs i = some v ∧ Rds K H S d v := by
  unfold atI at h ⊢
  rw [← r.length]
  cases q : ixN xs.length i with
  | none => rw [q] at h; cases h
  | some j =>
    rw [q] at h
    exact r.get h
theorem de_ixL {i : Int} (ha : DE X ρ a (.lst xs)) (hb : DE X ρ b (.int i)) (h : atI xs i = some d) (hs : PlainIx b := by exact fun _ _ => rfl) : DE X ρ (.Subscript a b pos) d :=
  PE.weak (pe_ix ix_list ha hb hs) (op_D fun x y H S Q rx ry dm k => by
    obtain ⟨p, us, rfl, sq, r1⟩ := rx.lstV
    obtain ⟨v, hv, r⟩ := atI_D r1 h
    exact ⟨p, us, i, v, rfl, ry.intV, sq, hv, k _ H Ext.refl r⟩)
theorem de_ixT {i : Int} (ha : DE X ρ a (.tup xs)) (hb : DE X ρ b (.int i)) (h : atI xs i = some d) (hs : PlainIx b := by exact fun _ _ => rfl) : DE X ρ (.Subscript a b pos) d :=
  PE.weak (pe_ix ix_tup ha hb hs) (op_D fun x y H S Q rx ry dm k => by
    obtain ⟨p, us, rfl, h2, r1⟩ := rx.tupV
    obtain ⟨v, hv, r⟩ := atI_D r1 h
    exact ⟨p, us, i, v, rfl, ry.intV, .inl (.inl h2), hv, k _ H Ext.refl r⟩)
/-- a <= b < c, of ints -/
theorem de_chain {c : Expr} {i j k : Int} (ha : DE X ρ a (.int i)) (hb : DE X ρ b (.int j)) (hc : DE X ρ c (.int k)) (hm : lastMarks [CmpOp.LtE, CmpOp.Lt] [b, c] = false := by with_unfolding_all rfl) :
    DE X ρ (.Compare a [.LtE, .Lt] [b, c] pos) (.bl (decide (i ≤ j) && decide (j < k))) := PE.weak (pe_chain op_le op_lt ha hb hc hm) fun σ H Q ⟨S, ve, kk⟩ =>
  ⟨S, ve, fun x H1 e1 r1 => ⟨S, ve.ext e1, fun y H2 e2 r2 => ⟨i, j, r1.intV, r2.intV, decide (i ≤ j), rfl, by
    cases hq : decide (i ≤ j) with
    | false =>
      rw [hq] at kk
      exact iteF (kk _ H2 (e1.trans e2) (.bl _))
    | true =>
      rw [hq, Bool.true_and] at kk
      exact iteT ⟨S, (ve.ext e1).ext e2, fun z H3 e3 r3 => ⟨j, k, r2.intV, r3.intV, kk _ H3 (e1.trans (e2.trans e3)) (.bl _)⟩⟩⟩⟩⟩
/-! ### isinstance -/
/-- what an own class must be for isinstance -/
structure Isi (K : PySem.W.Frag) (C : Addr) : Prop where
  cl : Cls K C
  ha : PySem.W.findIn K (.ref C) "__class__" = some (some (.builtin "object.__class__"))
  hn : PySem.W.specialIn K (.builtin "object.__class__") "__get__" = some (some (.builtin "getset_descriptor.__get__"))
  tk : PySem.W.takesIn K (.builtin "object.__class__") = some true
  mr : PySem.W.mroIn K C (.type "object") = some true
/-- what a class of exceptions must be for isinstance -/
structure XIsi (K : PySem.W.Frag) (C : Addr) : Prop where
  cl : XCls K C
  ha : PySem.W.findIn K (.ref C) "__class__" = some (some (.builtin "object.__class__"))
  hn : PySem.W.specialIn K (.builtin "object.__class__") "__get__" = some (some (.builtin "getset_descriptor.__get__"))
  tk : PySem.W.takesIn K (.builtin "object.__class__") = some true
theorem XIsi.find {K : PySem.W.Frag} {C : Addr} (i : XIsi K C) (od : Option Obj) : PySem.W.findObj K C od "__class__" = some (.bind (.builtin "getset_descriptor.__get__") (.builtin "object.__class__")) := by
  obtain ⟨cd, hc, _⟩ := PySem.W.any_some i.cl.ov
  unfold PySem.W.findObj
  rw [hc, Option.bind_some, i.ha, Option.bind_some]
  simp [i.hn, i.tk]
/-- the type of data -/
inductive TyD (K : PySem.W.Frag) : D → Value → Prop
  | non : TyD K .non (.type "NoneType")
  | bl (b : Bool) : TyD K (.bl b) (.type "bool")
  | int (i : Int) : TyD K (.int i) (.type "int")
  | str (x : Str) : TyD K (.str x) (.type "str")
  | tup (xs : List D) : TyD K (.tup xs) (.type "tuple")
  | lst (xs : List D) : TyD K (.lst xs) (.type "list")
  | ins {C : Addr} (fs : List (Str × D)) (i : Isi K C) : TyD K (.ins C fs) (.ref C)
  | exc {C : Addr} (fs : List (Str × D)) (i : XIsi K C) : TyD K (.exc C fs) (.ref C)
  | dct (kvs : List (D × D)) : TyD K (.dct kvs) (.type "dict")
  | pdc (es : List (PK × D)) : TyD K (.pdc es) (.type "dict")
theorem kit_D {pins : List (Addr × Obj)} {σ : St} {H : Hp} {s : Shared} {S : Ad} {v : V} {u t : Value} (I : Inv X pins σ H s) (r : Rds X.K H S d v) (rv : RelV v u) (ty : TyD X.K d t) :
    ∃ Hh : Heap → Prop, PySem.W.KitX X.K u t Hh ∧ Hh s.heap ∧ u ≠ .builtin "__main__.__loader__#opaque" := by
  cases ty with
  | non => cases r; cases (show u = Value.none from rv); exact ⟨_, PySem.W.kitx_none, True.intro, fun z => nomatch z⟩
  | bl b => cases r; cases (show u = Value.bool b from rv); exact ⟨_, PySem.W.kitx_bool, True.intro, fun z => nomatch z⟩
  | int i => cases r; obtain ⟨t, q⟩ := (show ∃ t, u = Value.int i t from rv); cases q; exact ⟨_, PySem.W.kitx_int, True.intro, fun z => nomatch z⟩
  | str x => cases r; obtain ⟨t, q⟩ := (show ∃ t, u = Value.str x t from rv); cases q; exact ⟨_, PySem.W.kitx_str, True.intro, fun z => nomatch z⟩
  | tup xs =>
    obtain ⟨a, vs, rfl, h, _⟩ := r.tupV
    cases (show u = Value.ref a from rv)
    obtain ⟨its, _, ⟨o, h1, h2, _⟩, _⟩ := I.tuple (.inl (.inl h))
    exact ⟨_, PySem.W.kitx_tuple, ⟨o, h1, h2⟩, fun z => nomatch z⟩
  | lst xs =>
    obtain ⟨a, vs, rfl, h, _⟩ := r.lstV
    cases (show u = Value.ref a from rv)
    obtain ⟨its, _, ⟨o, n, h1, h2, _⟩, _⟩ := I.list h
    exact ⟨_, PySem.W.kitx_list, ⟨o, h1, h2⟩, fun z => nomatch z⟩
  | @ins C fs i =>
    obtain ⟨a, dx, gs, rfl, h, _⟩ := r.insV
    cases (show u = Value.ref a from rv)
    obtain ⟨mA, O, _⟩ := ins_get I.hok h
    obtain ⟨od, J, _⟩ := O.look
    exact ⟨_, PySem.W.kitx_own (i.cl.get _) i.cl.hd i.ha i.hn i.tk i.mr, J, fun z => nomatch z⟩
  | @exc C fs i =>
    cases r with
    | @exc0 fr a _ h n =>
      cases (show u = Value.ref a from rv)
      obtain ⟨vs, h1, _⟩ := exc_at (I.hok a _ h)
      exact ⟨_, kitx_exc (ox := ⟨.ref C, none, .fields vs, #[]⟩) (od := none) i.cl (i.find none), ⟨h1, rfl, rfl, trivial⟩, fun z => nomatch z⟩
    | @exc fr a _ dx _ gs h h2 n n2 rf =>
      cases (show u = Value.ref a from rv)
      obtain ⟨vs, mA, odd, h1, _, _, _, J, _⟩ := xinst I h h2
      exact ⟨_, kitx_exc i.cl (i.find _), J, fun z => nomatch z⟩
  | dct kvs =>
    cases r with
    | @dK a ks _ h _ _ _ =>
      cases (show u = Value.ref a from rv)
      obtain ⟨_, _, _, _, o, _, _, h1, h2, _⟩ := I.hok a _ h
      exact ⟨_, PySem.W.kitx_dict, ⟨o, h1, h2.1⟩, fun z => nomatch z⟩
  | pdc es =>
    cases r with
    | @dP a ep ks _ h _ _ =>
      cases (show u = Value.ref a from rv)
      obtain ⟨_, _, _, _, o, _, h1, h2, _⟩ := pd_of I.hok h
      exact ⟨_, PySem.W.kitx_dict, ⟨o, h1, h2.1⟩, fun z => nomatch z⟩
/-- a class as data -/
inductive ClD : D → Value → Prop
  | ty (n : String) : ClD (.ty n) (.type n)
  | cl (C : Addr) : ClD (.cl C) (.ref C)
inductive ClDs : List D → List Value → Prop
  | nil : ClDs [] []
  | cons {d : D} {c : Value} {ds : List D} {cs : List Value} : ClD d c → ClDs ds cs → ClDs (d :: ds) (c :: cs)
theorem ClD.val {K : PySem.W.Frag} {H : Hp} {S : Ad} {v : V} {u c : Value} (h : ClD d c) (r : Rds K H S d v) (rv : RelV v u) : u = c := by
  cases h with
  | ty n => cases r; exact rv
  | cl C => cases r; exact rv
theorem ClDs.vals {K : PySem.W.Frag} {H : Hp} {S : Ad} : ∀ {ds : List D} {vs : List V} {us cs : List Value}, ClDs ds cs → RdsL K H S ds vs → Vals vs us → us = cs
  | _, _, _, _, .nil, .nil, .nil => rfl
  | _, _, _, _, .cons h t, .cons r rt, .cons q qt => by rw [h.val r q, ClDs.vals t rt qt]
theorem call_pair {t : TA} {R : V → V → Hp → VK → Prop} (hR : ∀ (pins : List (Addr × Obj)) (s : Shared) (σ : St) (H : Hp) (x y : V) (u c : Value) (Q : VK), Inv X pins σ H s → RelV x u → RelV y c → R x y H Q → wpAny (model X.prog X.w) X.A (call (.builtin "isinstance") [u, c]) (EP X pins σ Q) X.xe s) :
    CallR X (.builtin "isinstance") (fun xs H Q => ∃ x y, xs = [x, y] ∧ R x y H Q) := by
  intro pins s σ H xs us Q I r h
  obtain ⟨x, y, rfl, q⟩ := h
  cases r with
  | cons r1 r2 =>
    cases r2 with
    | cons r2 r3 =>
      cases r3
      exact hR pins s σ H x y _ _ Q I r1 r2 q
theorem de_isi {t c : Value} {q : Bool} {dc : D} (hg : Gl X "isinstance") (hm : X.mg "isinstance" = none) (ty : TyD X.K d t) (cl : ClD dc c) (hk : PySem.W.kitOne X.K t c = some q) (ha : DA X ρ [a, b] [d, dc])
    (he : starEach [a, b] X.env = (false, eval a X.env) :: starEach [b] X.env := by rfl) (hpl : (backTo pos (starEach [b] X.env)).any (·.1) = false := by rfl) : DE X ρ (.Call (.Name "isinstance" p) [a, b] [] pos) (.bl q) := by
  refine de_callB (call_pair (t := tNil) (R := fun x y H Q => ∃ S, Rds X.K H S d x ∧ Rds X.K H S dc y ∧ Q (.bl q) H) ?_) (fun vs H S Q rs dm k => ?_) hg hm boot_isinstance' ha (by decide) (by decide) he hpl
  · intro pins s σ H x y u cv Q I rx ry ⟨S, r1, r2, qq⟩
    obtain ⟨Hh, Z, hh, hx⟩ := kit_D I r1 rx ty
    rw [cl.val r2 ry]
    exact PySem.W.kia_one Z I.kIn hh hk hx fun tk => ⟨.bl q, H, I.tok tk, rfl, qq⟩
  · obtain ⟨v, u, rfl, r1, r2⟩ := rs.two
    exact ⟨v, u, rfl, S, r1, r2, k _ H Ext.refl (.bl _)⟩
theorem de_isiT {t : Value} {cs : List Value} {q : Bool} {dcs : List D} (hg : Gl X "isinstance") (hm : X.mg "isinstance" = none) (ty : TyD X.K d t) (cl : ClDs dcs cs) (hk : PySem.W.kitAny X.K t cs = some q) (ha : DA X ρ [a, b] [d, .tup dcs])
    (he : starEach [a, b] X.env = (false, eval a X.env) :: starEach [b] X.env := by rfl) (hpl : (backTo pos (starEach [b] X.env)).any (·.1) = false := by rfl) : DE X ρ (.Call (.Name "isinstance" p) [a, b] [] pos) (.bl q) := by
  refine de_callB (call_pair (t := tNil) (R := fun x y H Q => ∃ S, Rds X.K H S d x ∧ Rds X.K H S (.tup dcs) y ∧ Q (.bl q) H) ?_) (fun vs H S Q rs dm k => ?_) hg hm boot_isinstance' ha (by decide) (by decide) he hpl
  · intro pins s σ H x y u cv Q I rx ry ⟨S, r1, r2, qq⟩
    obtain ⟨Hh, Z, hh, hx⟩ := kit_D I r1 rx ty
    obtain ⟨tp, us, rfl, h2, rl⟩ := r2.tupV
    cases (show cv = Value.ref tp from ry)
    obtain ⟨its, rv, ⟨⟨oc, od, odt, osl⟩, h3, h4, n, h5⟩, _⟩ := I.tuple (.inl (.inl h2))
    simp only at h4 h5
    subst h4 h5
    rw [← cl.vals rl rv] at hk
    exact PySem.W.kia_tup Z I.kIn hh h3 hk hx fun tk => ⟨.bl q, H, I.tok tk, rfl, qq⟩
  · obtain ⟨v, u, rfl, r1, r2⟩ := rs.two
    exact ⟨v, u, rfl, S, r1, r2, k _ H Ext.refl (.bl _)⟩
/-! ### equality of data -/
mutual
def toPy : D → PyData
  | .non => .none | .bl b => .bool b | .int i => .int i | .str x => .str x
  | .tup xs => .tuple (toPyL xs) | .lst xs => .list (toPyL xs)
  | .ins _ _ => .none | .ty _ => .none | .cl _ => .none | .exc _ _ => .none | .dct _ => .none | .pdc _ => .none
def toPyL : List D → List PyData
  | [] => []
  | x :: xs => toPy x :: toPyL xs
end
mutual
/-- data alone: no instance, no class -/
def isDat : D → Bool
  | .non => true | .bl _ => true | .int _ => true | .str x => PyData.strOk x
  | .tup xs => isDatL xs | .lst xs => isDatL xs
  | .ins _ _ => false | .ty _ => false | .cl _ => false | .exc _ _ => false | .dct _ => false | .pdc _ => false
def isDatL : List D → Bool
  | [] => true
  | x :: xs => isDat x && isDatL xs
end
mutual
theorem dat_lay : ∀ {d : D}, isDat d = true → (toPy d).canLay0 = true
  | .non, _ => rfl
  | .bl _, _ => rfl
  | .int _, _ => rfl
  | .str x, h => h
  | .tup xs, h => dat_layL (xs := xs) h
  | .lst xs, h => dat_layL (xs := xs) h
  | .ins _ _, h => nomatch h
  | .exc _ _, h => nomatch h
  | .dct _, h => nomatch h
  | .pdc _, h => nomatch h
  | .ty _, h => nomatch h
  | .cl _, h => nomatch h
theorem dat_layL : ∀ {xs : List D}, isDatL xs = true → PyData.canLayAll0 (toPyL xs) = true
  | [], _ => rfl
  | x :: xs, h => by
    have h' : isDat x = true ∧ isDatL xs = true := by simpa [isDatL] using h
    show (PyData.canLay0 (toPy x) && PyData.canLayAll0 (toPyL xs)) = true
    rw [dat_lay h'.1, dat_layL h'.2]; rfl
end
section
variable {pins : List (Addr × Obj)} {σ : St} {H : Hp} {s : Shared} {S : Ad}
mutual
theorem reads_D (I : Inv X pins σ H s) : ∀ (d : D) {v : V} {u : Value}, isDat d = true → Rds X.K H S d v → RelV v u → ∃ as, Reads s.heap u (toPy d) as
  | .non, _, u, _, r, q => by cases r; cases (show u = Value.none from q); exact ⟨_, .none⟩
  | .bl b, _, u, _, r, q => by cases r; cases (show u = Value.bool b from q); exact ⟨_, .bool b⟩
  | .int i, _, u, _, r, q => by cases r; obtain ⟨t, q⟩ := (show ∃ t, u = Value.int i t from q); cases q; exact ⟨_, .int i t⟩
  | .str x, _, u, _, r, q => by cases r; obtain ⟨t, q⟩ := (show ∃ t, u = Value.str x t from q); cases q; exact ⟨_, .str x t⟩
  | .tup xs, _, u, hd, r, q => by
    obtain ⟨a, vs, rfl, h, rl⟩ := r.tupV
    cases (show u = Value.ref a from q)
    obtain ⟨its, rv, ⟨o, h1, h2, k, h3⟩, _⟩ := I.tuple (.inl (.inl h))
    obtain ⟨as, ra⟩ := readsL_D I xs hd rl rv
    exact ⟨_, .tuple h1 h2 h3 ra⟩
  | .lst xs, _, u, hd, r, q => by
    obtain ⟨a, vs, rfl, h, rl⟩ := r.lstV
    cases (show u = Value.ref a from q)
    obtain ⟨its, rv, ⟨o, k, h1, h2, _, h3⟩, _⟩ := I.list h
    obtain ⟨as, ra⟩ := readsL_D I xs hd rl rv
    exact ⟨_, .list h1 h2 h3 ra⟩
  | .ins _ _, _, _, h, _, _ => nomatch h
  | .exc _ _, _, _, h, _, _ => nomatch h
  | .dct _, _, _, h, _, _ => nomatch h
  | .pdc _, _, _, h, _, _ => nomatch h
  | .ty _, _, _, h, _, _ => nomatch h
  | .cl _, _, _, h, _, _ => nomatch h
theorem readsL_D (I : Inv X pins σ H s) : ∀ (ds : List D) {vs : List V} {us : List Value}, isDatL ds = true → RdsL X.K H S ds vs → Vals vs us → ∃ as, ReadsAll s.heap us (toPyL ds) as
  | [], _, _, _, r, q => by cases r; cases q; exact ⟨_, .nil⟩
  | d :: ds, _, _, hd, r, q => by
    cases r with
    | cons r t =>
      cases q with
      | cons q qt =>
        have h' : isDat d = true ∧ isDatL ds = true := by simpa [isDatL] using hd
        obtain ⟨as, ra⟩ := reads_D I d h'.1 r q
        obtain ⟨bs, rb⟩ := readsL_D I ds h'.2 t qt
        exact ⟨_, .cons ra rb⟩
end
end
/-- == of data -/
def eqD (d d' : D) : Bool := PyData.eqv (toPy d) (toPy d')
theorem op_eqD {hu : X.A.units + 64 < cLine} (h1 : isDat da = true) (h2 : isDat db = true) (hd : min (toPy da).depth (toPy db).depth ≤ 64) : OpR X (compareOp .Eq) (fun x y H Q => ∃ S, Rds X.K H S da x ∧ Rds X.K H S db y ∧ Q (.bl (eqD da db)) H) := by
  intro pins s σ H x y v u Q I rx ry ⟨S, r1, r2, q⟩
  obtain ⟨as, ra⟩ := reads_D I _ h1 r1 rx
  obtain ⟨bs, rb⟩ := reads_D I _ h2 r2 ry
  exact SeqAt.compareEq_reads ra rb (dat_lay h1) (dat_lay h2) (Nat.lt_of_le_of_lt (Nat.add_le_add_left hd _) hu) ⟨.bl _, H, I, rfl, q⟩
theorem op_neD {hu : X.A.units + 64 < cLine} (h1 : isDat da = true) (h2 : isDat db = true) (hd : min (toPy da).depth (toPy db).depth ≤ 64) : OpR X (compareOp .NotEq) (fun x y H Q => ∃ S, Rds X.K H S da x ∧ Rds X.K H S db y ∧ Q (.bl (!eqD da db)) H) := by
  intro pins s σ H x y v u Q I rx ry ⟨S, r1, r2, q⟩
  obtain ⟨as, ra⟩ := reads_D I _ h1 r1 rx
  obtain ⟨bs, rb⟩ := reads_D I _ h2 r2 ry
  exact SeqAt.compareNe_reads ra rb (dat_lay h1) (dat_lay h2) (Nat.lt_of_le_of_lt (Nat.add_le_add_left hd _) hu) ⟨.bl _, H, I, rfl, q⟩
theorem de_eqD (hu : X.A.units + 64 < cLine) (h1 : isDat da = true) (h2 : isDat db = true) (hd : min (toPy da).depth (toPy db).depth ≤ 64) (ha : DE X ρ a da) (hb : DE X ρ b db) : DE X ρ (.Compare a [.Eq] [b] pos) (.bl (eqD da db)) :=
  de_cmp (op_eqD (hu := hu) h1 h2 hd) (fun x y H S Q rx ry dm k => ⟨S, rx, ry, k _ H Ext.refl (.bl _)⟩) ha hb (nomark _)
theorem dt_eqD (hu : X.A.units + 64 < cLine) (h1 : isDat da = true) (h2 : isDat db = true) (hd : min (toPy da).depth (toPy db).depth ≤ 64) (ha : DE X ρ a da) (hb : DE X ρ b db) : DT X ρ (.Compare a [.Eq] [b] pos) (eqD da db) :=
  dt_cmp (op_eqD (hu := hu) h1 h2 hd) (fun x y H S Q rx ry dm k => ⟨S, rx, ry, k _ H Ext.refl (.bl _)⟩) ha hb (nomark _)
theorem dt_neD (hu : X.A.units + 64 < cLine) (h1 : isDat da = true) (h2 : isDat db = true) (hd : min (toPy da).depth (toPy db).depth ≤ 64) (ha : DE X ρ a da) (hb : DE X ρ b db) : DT X ρ (.Compare a [.NotEq] [b] pos) (!eqD da db) :=
  dt_cmp (op_neD (hu := hu) h1 h2 hd) (fun x y H S Q rx ry dm k => ⟨S, rx, ry, k _ H Ext.refl (.bl _)⟩) ha hb (nomark _)
end
end CT
set_option Elab.async false
set_option linter.all false
set_option maxRecDepth 100000
/-! short words for one's own program -/
namespace CT
open PySem PySem.Spec L2
open PyProof.Rows hiding St
def csOk (scope : Scope) (own : List Str) (cap : List (Str × Nat)) (sc : Scope) (N : List Str) : Bool :=
  decide (scope.kind = .function) && decide ((scope.names.map (·.1)).Nodup) && (scope.names.all fun x => x.2 != .free || sc.names.lookup x.1 == some .cell || sc.names.lookup x.1 == some .free) &&
    (own.all fun x => scope.names.contains (x, .local) || scope.names.contains (x, .cell)) && (cap.all fun p => N[p.2]? == some p.1 && scope.names.contains (p.1, .free)) && decide ((own ++ cap.map (·.1)).Nodup)
theorem CS.of {X : Cx} {scope : Scope} {own : List Str} {cap : List (Str × Nat)} (sc : Scope) (N : List Str) (h1 : X.env.scope = sc) (h2 : X.N = N) (h : csOk scope own cap sc N = true) : CS X scope own cap := by
  unfold csOk at h
  simp only [Bool.and_eq_true, decide_eq_true_eq, List.all_eq_true, Bool.or_eq_true, beq_iff_eq, bne_iff_ne, ne_eq, List.contains_iff_mem] at h
  obtain ⟨⟨⟨⟨⟨a1, a2⟩, a3⟩, a4⟩, a5⟩, a6⟩ := h
  subst h2
  refine ⟨a1, a2, fun x hx e => ?_, a4, a5, a6⟩
  show X.env.scope.names.lookup x.1 = _ ∨ X.env.scope.names.lookup x.1 = _
  rw [h1]
  rcases a3 x hx with (z | z) | z
  · exact absurd e z
  · exact .inl z
  · exact .inr z
section
variable {X : Cx} {scope : Scope} {own : List Str} {cap : List (Str × Nat)} {p : List (Addr × Obj)} {s : Shared} {h : Hp} {fp : List Addr} {ρ : Rho} {d : D} {x : Str} {pos : Pos}
theorem de_cv (cs : CS X scope own cap) {i : Nat} (hi : (own ++ cap.map (·.1))[i]? = some x) (hr : ρ[i]? = some (.val d)) (hd : (x == ("__debug__" : Str)) = false := by decide) (hcd : (x == ("__classdict__" : Str)) = false := by decide) :
    DE (cX X scope own cap p s h fp) ρ (.Name x pos) d := de_var hi (cs.vis hi) hr hd hcd
end
section
variable {X : Cx} {scope : Scope} {own : List Str} {cap : List (Str × Nat)} {ρ : Rho} {elt iter : Expr} {pos px : Pos} {α : Type} {l : List α} {f g : α → D} {x : Str} {k : Nat} {sc : Scope} {N : List Str}
/-- [elt for x in iter], the scope's facts by their check -/
theorem dc_mapW (h1 : X.env.scope = sc) (h2 : X.N = N) (hcs : csOk scope own cap sc N = true) (hc : X.calm = true) (hk : own[k]? = some x) (hi : DI0 X (.Name x px) ρ iter (l.map g)) (hz : l.length ≤ sizeLine)
    (he : CS X scope own cap → ∀ a ∈ l, ∀ p s h fp, DE (cX X scope own cap p s h fp) ((cR own cap ρ).set k (.val (g a))) elt (f a))
    (hs : ∀ x, foldedSetIterable iter X.env x = pure x := by intro _; rfl) : DC X ρ (.ListComp elt [⟨.Name x px, iter, [], 0⟩] scope pos) (l.map f) :=
  dc_map (CS.of sc N h1 h2 hcs) hc hk hi hz (he (CS.of sc N h1 h2 hcs)) hs
end
section
variable {X : Cx} {scope : Scope} {own : List Str} {cap : List (Str × Nat)} {ρ : Rho} {elt iter iter2 : Expr} {pos px py tp : Pos} {α β : Type} {l : List α} {m : α → List β} {g g1 g2 g3 : α → D} {h : β → D} {x y z : Str} {k k2 k3 : Nat} {sc : Scope} {N : List Str}
theorem cR_nil (hk : own[k]? = some x) : (cR own cap ρ)[k]? = some .nil := by
  have hown := (List.getElem?_eq_some_iff.mp hk).1
  unfold cR
  rw [List.getElem?_append_left (by simpa using hown), List.getElem?_map, hk]; rfl
theorem dg_c {p : List (Addr × Obj)} {s : Shared} {H : Hp} {fp : List Addr} {ρ : Rho} {d : D} (cs : CS X scope own cap) (hk : own[k]? = some x) : DG (cX X scope own cap p s H fp) (.Name x px) ρ d (ρ.set k (.val d)) [k] :=
  PG.weak (cg cs hk) fun v σ H Q ⟨S, ve, r, q⟩ => q _ (ve.set r) ⟨by simp, fun i hi => by
      rw [List.getElem?_set_ne]
      intro z; exact hi (by simp [z])⟩
/-- [elt for x, y in iter] -/
theorem dc_map2 {f : α → D} {j} (h1 : X.env.scope = sc) (h2 : X.N = N) (hcs : csOk scope own cap sc N = true) (hc : X.calm = true) (hk : own[k]? = some x) (hk2 : own[k2]? = some y) (hi : DI0 X (.Tuple [.Name x px, .Name y py] j tp) ρ iter (l.map fun a => .tup [g1 a, g2 a])) (hz : l.length ≤ sizeLine)
    (he : CS X scope own cap → ∀ a ∈ l, ∀ p s H fp, DE (cX X scope own cap p s H fp) (((cR own cap ρ).set k (.val (g1 a))).set k2 (.val (g2 a))) elt (f a))
    (hs : ∀ x, foldedSetIterable iter X.env x = pure x := by intro _; rfl) : DC X ρ (.ListComp elt [⟨.Tuple [.Name x px, .Name y py] j tp, iter, [], 0⟩] scope pos) (l.map f) := by
  have cs := CS.of sc N h1 h2 hcs
  rw [← flat_single]
  refine dc_comp (ks := [k] ++ ([k2] ++ [])) (outs := l.map fun a => [f a]) cs hc hi (fun i hj => ?_) (by simp) (by rw [flat_single, List.length_map]; exact hz) (fun i d out q1 q2 => ?_) hs
  · simp only [List.append_nil, List.cons_append, List.nil_append, List.mem_cons, List.not_mem_nil, or_false] at hj
    rcases hj with rfl | rfl
    · exact cR_nil hk
    · exact cR_nil hk2
  · obtain ⟨a, ea, rfl⟩ := getmap q1
    obtain ⟨a', ea', rfl⟩ := getmap q2
    rw [ea] at ea'; cases ea'
    exact ⟨_, true, fun p s H fp => dg_tup (X := cX X scope own cap p s H fp) hc (dgs_cons (dg_c cs hk) (dgs_cons (dg_c cs hk2) dgs_nil)) rfl, fun p s H fp => dts_nil, fun _ p s H fp acc => db_emit (Y := cX X scope own cap p s H fp) (he cs a (List.mem_of_getElem? ea) p s H fp), fun z => nomatch z⟩
end
theorem zipD_ints : ∀ {ks ns : List Int}, zipD (ks.map .int) (ns.map .int) = (ks.zip ns).map fun p => .tup [.int p.1, .int p.2]
  | [], _ => by simp [zipD]
  | _ :: _, [] => by simp [zipD]
  | k :: ks, n :: ns => by simp [zipD, zipD_ints]
theorem zipD_zip {α β : Type} {g : α → D} {h : β → D} : ∀ {as : List α} {bs : List β}, zipD (as.map g) (bs.map h) = (as.zip bs).map fun p => .tup [g p.1, h p.2]
  | [], _ => by simp [zipD]
  | _ :: _, [] => by simp [zipD]
  | a :: as, b :: bs => by simp [zipD, zipD_zip]
/-! ### parts of the text -/
def stN (l : List Stmt) (i : Nat) : Stmt := l.getD i (.Pass ⟨0, 0, 0, 0⟩)
/-- 0, 1, .. as ints -/
def kNats (n : Int) : List Int := (List.range n.toNat).map fun k : Nat => (k : Int)
theorem upto_ints (n : Int) : upto n.toNat = (kNats n).map D.int := by simp [upto, kNats]
theorem di_rangeK {X : Cx} {tg a : Expr} {ρ : Rho} {j : Int} {p pos : Pos} (hg : Gl X "range") (hm : X.mg "range" = none) (ha : DA X ρ [a] [.int j]) (h1 : -(2 ^ 62) ≤ j) (h2 : j < 2 ^ 62) (hs : starEach [a] X.env = [(false, eval a X.env)] := by rfl) : DI X tg ρ (.Call (.Name "range" p) [a] [] pos) ((kNats j).map D.int) := by
  rw [← upto_ints]
  exact di_range hg hm ha h1 h2 hs
theorem sz {n : Nat} (h : n ≤ 1000) : n ≤ sizeLine := Nat.le_trans h (by decide)
theorem DE.to {X : Cx} {ρ : Rho} {e : Expr} {d d' : D} (h : DE X ρ e d) (q : d = d') : DE X ρ e d' := q ▸ h
theorem DT.to {X : Cx} {ρ : Rho} {e : Expr} {d d' : Bool} (h : DT X ρ e d) (q : d = d') : DT X ρ e d' := q ▸ h
theorem DE.tru {X : Cx} {ρ : Rho} {e : Expr} {c : Prop} [Decidable c] (h : DE X ρ e (.bl (decide c))) (q : c) : DE X ρ e (.bl true) := h.to (by rw [decide_eq_true q])
theorem Sq.l {xs : List D} : Sq (.lst xs) xs := .lst xs
theorem Sq.t {xs : List D} : Sq (.tup xs) xs := .tup xs
abbrev intsD (ns : List Int) : List D := ns.map .int
abbrev tupI (ns : List Int) : D := .tup (ns.map .int)
theorem cmR {i j : Int} (h1 : -(2 ^ 64) < j) (h2 : j < 2 ^ 64) : CMul i j := .inr ⟨h1, h2⟩
theorem cmL {i j : Int} (h1 : -(2 ^ 64) < i) (h2 : i < 2 ^ 64) : CMul i j := .inl ⟨h1, h2⟩
/-- the last one walked, as a slot -/
def lastS {α : Type} (g : α → D) (z : Sl) (done : List α) : Sl := match done.getLast? with | some a => .val (g a) | none => z
theorem lastS_snoc {α : Type} {g : α → D} {z : Sl} {done : List α} {a : α} : lastS g z (done ++ [a]) = .val (g a) := by unfold lastS; simp
/-- a for over data, by the slots R behind each turn -/
theorem forO_by {X : Cx} {tg : Expr} {body : List Stmt} {α : Type} {g : α → D} (R : List α → Rho) (all : List α)
    (h : ∀ (done : List α) (a : α) (rest : List α), all = done ++ a :: rest → ∃ ρ1 ks ρ2, DG X tg (R done) (g a) ρ1 ks ∧ TgOk (R done) ρ1 ks ∧ DSs X ρ1 body (.nx ρ2) ∧ ρ2 = R (done ++ [a])) :
    ForO X tg body (all.map g) (R []) (.nx (R all)) := by
  have go : ∀ (l done : List α), all = done ++ l → ForO X tg body (l.map g) (R done) (.nx (R (done ++ l))) := by
    intro l
    induction l with
    | nil => intro done _; rw [List.append_nil]; exact .nil _
    | cons a l ih =>
      intro done e
      obtain ⟨ρ1, ks, ρ2, h1, h2, h3, rfl⟩ := h done a l e
      have := ih (done ++ [a]) (by rw [e, List.append_assoc]; rfl)
      rw [List.append_assoc] at this
      exact .cons h1 h2 h3 this
  have := go all [] rfl
  exact this
/-! ### slots forgotten -/
def Wk (ρ ρ' : Rho) : Prop := ρ'.length = ρ.length ∧ ∀ (i : Nat) (x : Sl), ρ'[i]? = some x → x = .any ∨ ρ[i]? = some x
theorem Wk.refl {ρ : Rho} : Wk ρ ρ := ⟨rfl, fun _ _ h => .inr h⟩
theorem Wk.nil : Wk [] [] := Wk.refl
theorem Wk.same {ρ ρ' : Rho} {x : Sl} (h : Wk ρ ρ') : Wk (x :: ρ) (x :: ρ') := ⟨by simp [h.1], fun i y e => by
  cases i with
  | zero => exact .inr e
  | succ i => exact h.2 i y e⟩
theorem Wk.any {ρ ρ' : Rho} {x : Sl} (h : Wk ρ ρ') : Wk (x :: ρ) (.any :: ρ') := ⟨by simp [h.1], fun i y e => by
  cases i with
  | zero => cases e; exact .inl rfl
  | succ i => exact h.2 i y e⟩
theorem Wk.cons {ρ ρ' : Rho} {x y : Sl} (q : x = y) (h : Wk ρ ρ') : Wk (x :: ρ) (y :: ρ') := q ▸ h.same
theorem Fm.wk {K : PySem.W.Frag} {H₀ H : Hp} {S₀ S : Ad} {ρ ρ' : Rho} {σ : St} (w : Wk ρ ρ') (f : Fm K H₀ S₀ H S ρ σ) : Fm K H₀ S₀ H S ρ' σ := by
  have go : ∀ (i : Nat) (x : Sl), ρ'[i]? = some x → x.owns → ρ[i]? = some x := fun i x h o => by
    rcases w.2 i x h with z | z
    · rw [z] at o; exact o.elim
    · exact z
  refine ⟨⟨w.1.trans f.ve.len, fun i x h => ?_, fun i j x y a hij h1 h2 o1 o2 => f.ve.dist i j x y a hij (go i x h1 o1) (go j y h2 o2) o1 o2, f.ve.dom⟩, f.ext, f.sub, f.new, f.dm, fun i x a h o => f.own i x a (go i x h o) o⟩
  rcases w.2 i x h with z | z
  · subst z
    have hi := (List.getElem?_eq_some_iff.mp h).1
    have hi' : i < σ.length := by rw [← f.ve.len, ← w.1]; exact hi
    exact ⟨σ[i], by simp [hi'], trivial⟩
  · exact f.ve.rel i x z
section
variable {X : Cx} {ρ ρ' ρ1 : Rho} {sts : List Stmt} {st : Stmt} {o : Out}
theorem dss_post (h : DSs X ρ sts (.nx ρ1)) (w : Wk ρ1 ρ') : DSs X ρ sts (.nx ρ') := PSs.weak h fun E σ H ⟨H₀, S₀, S, f, k⟩ => ⟨H₀, S₀, S, f, fun σ' H' S' f' => k σ' H' S' (f'.wk w)⟩
theorem ds_pre (w : Wk ρ ρ') (h : DS X ρ' st o) : DS X ρ st o := PS.weak h fun E σ H ⟨H₀, S₀, S, f, k⟩ => ⟨H₀, S₀, S, f.wk w, k⟩
/-- a for over data, by the slots R, those not needed forgotten -/
theorem ds_forW {tg iter : Expr} {body : List Stmt} {α : Type} {g : α → D} {pos : Pos} (hp : PassesOwn (model X.prog X.w) X.A X.env X.xe) (hc : X.calm = true) (R : List α → Rho) (all : List α) (hi : DI X tg (R []) iter (all.map g)) (w0 : Wk ρ (R []))
    (h : ∀ (done : List α) (a : α) (rest : List α), all = done ++ a :: rest → ∃ ρ1 ks ρ2, DG X tg (R done) (g a) ρ1 ks ∧ TgOk (R done) ρ1 ks ∧ DSs X ρ1 body (.nx ρ2) ∧ Wk ρ2 (R (done ++ [a])))
    (hs : ∀ x, foldedSetIterable iter X.env x = pure x := by intro _; rfl) : DS X ρ (.For tg iter body [] pos) (.nx (R all)) :=
  ds_pre w0 (ds_for hp hc hi (forO_by R all fun done a rest e => by
    obtain ⟨ρ1, ks, ρ2, h1, h2, h3, h4⟩ := h done a rest e
    exact ⟨ρ1, ks, _, h1, h2, dss_post h3 h4, rfl⟩) hs)
end
theorem DSs.to {X : Cx} {ρ : Rho} {sts : List Stmt} {o o' : Out} (h : DSs X ρ sts o) (q : o = o') : DSs X ρ sts o' := q ▸ h
/-! ### a list of one's own is read by code whose value holds no list -/
mutual
def noLst : D → Bool
  | .non => true | .bl _ => true | .int _ => true | .str _ => true | .ty _ => true | .cl _ => false
  | .tup xs => noLstL xs | .lst _ => false | .ins _ fs => noLstF fs | .exc _ _ => false | .dct _ => false | .pdc _ => false
def noLstL : List D → Bool
  | [] => true
  | x :: xs => noLst x && noLstL xs
def noLstF : List (Str × D) → Bool
  | [] => true
  | (_, x) :: xs => noLst x && noLstF xs
end
section
variable {K : PySem.W.Frag} {H : Hp} {S : Ad} {a : Addr} {us : List V} {o : HO}
/-- an object that is no tuple, no instance -/
def Cont (a : Addr) (o : HO) : Prop := (∃ vs, o = .lst vs) ∨ ∃ ep kvs, o = PD a ep kvs
theorem Cont.tup {b : Addr} {vs : List V} (c : Cont a o) (ha : H a = some o) (e : H b = some (.tup vs)) : b ≠ a := fun q => by
  rw [q, ha] at e
  rcases c with ⟨_, rfl⟩ | ⟨_, _, rfl⟩ <;> cases e
theorem Cont.ins {b C dx : Addr} {gs : List (Str × V)} (c : Cont a o) (ha : H a = some o) (e : H b = some (.ins C dx gs)) : b ≠ a := fun q => by
  rw [q, ha] at e
  rcases c with ⟨_, rfl⟩ | ⟨_, _, rfl⟩ <;> cases e
mutual
theorem Rds.addL (cc : Cont a o) (ha : H a = some o) : ∀ (d : D) {v : V}, noLst d = true → Rds K H S d v → Rds K H (S.and a) d v
  | .non, _, _, r => by cases r; exact .non
  | .bl b, _, _, r => by cases r; exact .bl b
  | .int i, _, _, r => by cases r; exact .int i
  | .str x, _, _, r => by cases r; exact .str x
  | .ty n, _, _, r => by cases r; exact .ty n
  | .cl _, _, h, _ => nomatch h
  | .lst _, _, h, _ => nomatch h
  | .exc _ _, _, h, _ => nomatch h
  | .dct _, _, h, _ => nomatch h
  | .pdc _, _, h, _ => nomatch h
  | .tup xs, _, h, r => by
    cases r with
    | tup e n r => exact .tup e (fun z => z.elim n (cc.tup ha e)) (RdsL.addL cc ha xs h r)
  | .ins C fs, _, h, r => by
    cases r with
    | ins e n r => exact .ins e (fun z => z.elim n (cc.ins ha e)) (RdsF.addL cc ha fs h r)
theorem RdsL.addL (cc : Cont a o) (ha : H a = some o) : ∀ (ds : List D) {vs : List V}, noLstL ds = true → RdsL K H S ds vs → RdsL K H (S.and a) ds vs
  | [], _, _, r => by cases r; exact .nil
  | d :: ds, _, h, r => by
    have h' : noLst d = true ∧ noLstL ds = true := by simpa [noLstL] using h
    cases r with
    | cons r t => exact .cons (Rds.addL cc ha d h'.1 r) (RdsL.addL cc ha ds h'.2 t)
theorem RdsF.addL (cc : Cont a o) (ha : H a = some o) : ∀ (ds : List (Str × D)) {vs : List (Str × V)}, noLstF ds = true → RdsF K H S ds vs → RdsF K H (S.and a) ds vs
  | [], _, _, r => by cases r; exact .nil
  | (n, d) :: ds, _, h, r => by
    have h' : noLst d = true ∧ noLstF ds = true := by simpa [noLstF] using h
    cases r with
    | cons r t => exact .cons (Rds.addL cc ha d h'.1 r) (RdsF.addL cc ha ds h'.2 t)
end
end
theorem noLst_ints : ∀ ks : List Int, noLstL (ks.map .int) = true
  | [] => rfl
  | k :: ks => by show (true && noLstL (ks.map .int)) = true; rw [noLst_ints ks]; rfl
theorem VE.give2 {K : PySem.W.Frag} {H : Hp} {S : Ad} {ρ : Rho} {σ : St} {i : Nat} {c : Ow} (f : VE K H S ρ σ) (hr : ρ[i]? = some (.owx c)) : ∃ S' a o, H a = some o ∧ Cont a o ∧ (∀ b, S b → S' b ∨ b = a) ∧ VE K H S' (ρ.set i (.val c.D)) σ := by
  obtain ⟨v, q1, a, vs, rfl, sa, ha, r⟩ := f.rel i _ hr
  have hi := (List.getElem?_eq_some_iff.mp hr).1
  have own_ne : ∀ (m : Nat) (x : Sl) (c : Addr), i ≠ m → ρ[m]? = some x → x.owns → σ[m]? = some (some (.ref c)) → c ≠ a := fun m x c hm h ho hs z => f.dist i m _ x a hm hr h trivial ho q1 (by rw [hs, z])
  refine ⟨fun b => S b ∧ b ≠ a, a, vs, ha, r.sort, fun b h => (Classical.em (b = a)).elim .inr fun n => .inl ⟨h, n⟩, ⟨by simpa using f.len, fun j x h => ?_, fun j k x y b hjk h1 h2 o1 o2 h3 => ?_, fun b h => f.dom b h.1⟩⟩
  · by_cases hj : i = j
    · subst hj
      rw [List.getElem?_set_self hi] at h
      cases h
      exact ⟨_, q1, _, rfl, (r.av fun b h => .inl h.1).rds ha fun z => z.2 rfl⟩
    · rw [List.getElem?_set_ne hj] at h
      obtain ⟨v, h1, h2⟩ := f.rel j x h
      refine ⟨v, h1, ?_⟩
      cases x with
      | nil => exact h2
      | any => trivial
      | val d => obtain ⟨u, p, r⟩ := h2; exact ⟨u, p, r.av fun b h => .inl h.1⟩
      | owx zs => exact RO.av (x := .owx zs) (fun b h => .inl h.1) (fun b z s => ⟨s, own_ne j _ b hj h trivial (by rw [h1, z])⟩) h2
      | new C y dx fs => exact RO.av (x := .new C y dx fs) (fun b h => .inl h.1) (fun b z s => ⟨s, own_ne j _ b hj h trivial (by rw [h1, z])⟩) h2
  · have n1 : i ≠ j := fun z => by
      subst z
      rw [List.getElem?_set_self hi] at h1; cases h1; exact o1
    have n2 : i ≠ k := fun z => by
      subst z
      rw [List.getElem?_set_self hi] at h2; cases h2; exact o2
    rw [List.getElem?_set_ne n1] at h1
    rw [List.getElem?_set_ne n2] at h2
    exact f.dist j k x y b hjk h1 h2 o1 o2 h3
theorem de_readN {X : Cx} {ρ : Rho} {e : Expr} {d : D} {i : Nat} {c : Ow} (hr : ρ[i]? = some (.owx c)) (hf : noLst d = true) (h : DE X (ρ.set i (.val c.D)) e d) : DE X ρ e d := PE.weak h fun σ H Q ⟨S, ve, k⟩ => by
  obtain ⟨S', a, us, ha, cc, hS, ve'⟩ := ve.give2 hr
  refine ⟨S', ve', fun v H' ex r => k v H' ex ?_⟩
  exact (Rds.addL cc (ex _ _ (fun z => z) ha) d hf r).av fun b h => .inl (hS b h)
end CT
set_option Elab.async false
set_option linter.all false
set_option maxRecDepth 100000
/-! zip of three; while; any of ints; min, max, range(a, b), ** over data -/
namespace CT
open PySem PySem.Spec L2
open PyProof.Rows hiding St
theorem sub5 {α : Type} {a b c d e f x : α} (h : x ∈ [a, c, d, e, f]) : x ∈ [a, b, c, d, e, f] := by
  simp only [List.mem_cons, List.not_mem_nil, or_false] at h ⊢
  rcases h with h | h | h | h | h <;> simp [h]
theorem turn_zip3 {P : Program} {w : World} {K : PySem.W.Frag} {elts : List Expr} {x1} {pos : Pos} {z TI TO i1 i2 i3 a1 a2 a3 : Addr} {b1 b2 b3 : Bool} (nd : [z, TI, TO, i1, i2, i3].Nodup) :
    Turn P w K (.Tuple elts x1 pos) (Itz3 K b1 b2 b3 a1 a2 a3) [z, TI, TO, i1, i2, i3] z
      (fun i h => IsZip h z TI TO .none ∧ IsTupAt h TI #[.ref i1, .ref i2, .ref i3] ∧ (∃ ts, IsTupAt h TO ts ∧ ts.size = 3) ∧ Sit h b1 i1 a1 i ∧ Sit h b2 i2 a2 i ∧ Sit h b3 i3 a3 i) where
  mem := by simp
  obj := fun i h ⟨q1, q2, ⟨ts, q3, _⟩, q4, q5, q6⟩ b hb => by
    simp only [List.mem_cons, List.not_mem_nil, or_false] at hb
    rcases hb with rfl | rfl | rfl | rfl | rfl | rfl
    · exact ⟨_, q1, fun v e => by have e' : Data.fields _ = Data.cell v := e; cases e'⟩
    · exact ⟨_, q2, fun v e => by have e' : Data.seq _ _ = Data.cell v := e; cases e'⟩
    · exact ⟨_, q3, fun v e => by have e' : Data.seq _ _ = Data.cell v := e; cases e'⟩
    · obtain ⟨o, n, vs, e, _, d⟩ := q4.rec
      exact ⟨o, e, fun v e => by rw [d] at e; cases e⟩
    · obtain ⟨o, n, vs, e, _, d⟩ := q5.rec
      exact ⟨o, e, fun v e => by rw [d] at e; cases e⟩
    · obtain ⟨o, n, vs, e, _, d⟩ := q6.rec
      exact ⟨o, e, fun v e => by rw [d] at e; cases e⟩
  keep := fun i h h' ⟨q1, q2, ⟨ts, q3, q3'⟩, q4, q5, q6⟩ k => ⟨k z (by simp) _ q1, k TI (by simp) _ q2, ⟨ts, k TO (by simp) _ q3, q3'⟩, q4.at fun o e => k i1 (by simp) o e, q5.at fun o e => k i2 (by simp) o e, q6.at fun o e => k i3 (by simp) o e⟩
  item := by
    intro X hP hw hK hc i pins s σ H E I hf ⟨q1, q2, ⟨ts, q3, q3'⟩, q4, q5, q6⟩ hg
    subst hP hw hK
    obtain ⟨xs, ys, us, x, y, u0, hx, hy, hu, ex, ey, eu0⟩ := hg
    obtain ⟨its, r1, p1, _⟩ := CT.Inv.sqb I hx
    obtain ⟨its2, r2, p2, _⟩ := CT.Inv.sqb I hy
    obtain ⟨its3, r3, p3, _⟩ := CT.Inv.sqb I hu
    obtain ⟨u, eu, ru⟩ := vget r1 ex
    obtain ⟨v, ev, rv⟩ := vget r2 ey
    obtain ⟨t, et, rt⟩ := vget r3 eu0
    have n1 : a1 ∉ [z, TO, i1, i2, i3] := fun m => CT.Inv.ne_fp I hx (hf a1 (sub5 m)) rfl
    have n2 : a2 ∉ [z, TO, i1, i2, i3] := fun m => CT.Inv.ne_fp I hy (hf a2 (sub5 m)) rfl
    have n3 : a3 ∉ [z, TO, i1, i2, i3] := fun m => CT.Inv.ne_fp I hu (hf a3 (sub5 m)) rfl
    refine pyNext_zip q1 (zip3_item nd n1 n2 n3 q1 q2 q3 q3' q4 q5 q6 p1 p2 p3 eu ev et fun h' z1 z2 z3 z4 z4' z5 z6 kk => ?_)
    refine ⟨_, rfl, wpAny_letOwnedTupleGo_zip z1 fun h2 z1' sb => ?_⟩
    have nT : ∀ b ∈ [z, TI, TO, i1, i2, i3], b ≠ s.heap.objs.size := fun b hb => by
      simp only [List.mem_cons, List.not_mem_nil, or_false] at hb
      rcases hb with rfl | rfl | rfl | rfl | rfl | rfl
      · exact Nat.ne_of_lt (Heap.lt_size q1)
      · exact Nat.ne_of_lt (Heap.lt_size q2)
      · exact Nat.ne_of_lt (Heap.lt_size q3)
      · obtain ⟨o, n, vs, e, _, d⟩ := q4.rec; exact Nat.ne_of_lt (Heap.lt_size e)
      · obtain ⟨o, n, vs, e, _, d⟩ := q5.rec; exact Nat.ne_of_lt (Heap.lt_size e)
      · obtain ⟨o, n, vs, e, _, d⟩ := q6.rec; exact Nat.ne_of_lt (Heap.lt_size e)
    have nd' := nd
    simp only [List.nodup_cons, List.mem_cons, List.not_mem_nil, or_false, not_or, List.nodup_nil, and_true, not_false_eq_true] at nd'
    obtain ⟨⟨zTI, zTO, zi1, zi2, zi3⟩, ⟨TITO, TIi1, TIi2, TIi3⟩, ⟨TOi1, TOi2, TOi3⟩, ⟨i12, i13⟩, i23⟩ := nd'
    have k2 : ∀ c o, c ∉ [z, TO, i1, i2, i3] → s.heap.get? c = some o → h2.get? c = some o := fun c o hc e => sb.extBut c o (fun q => hc (by simp [q])) (kk c o hc e)
    have I1 : Inv X pins σ H { s with heap := h2 } := CT.Inv.turnedL (t' := s.toks) (ch := [z, TO, i1, i2, i3]) I (fun b hb => hf b (sub5 hb)) k2
    have hT : h2.get? s.heap.objs.size = some { cls := .type "tuple", data := .seq #[u, v, t] } := sb.extBut _ _ (Ne.symm (nT z (by simp))) z5
    have I2 : Inv X pins σ (upd H s.heap.objs.size (.tup [x, y, u0])) { s with heap := h2 } := CT.Inv.adopt I1 (I.fpOk (Nat.le_refl _) (I.hok.fresh (Nat.le_refl _)))
      ⟨by show 3 ≤ sizeLine; decide, [u, v, t], .cons ru (.cons rv (.cons rt .nil)), _, hT, rfl, _, rfl⟩
    refine ⟨.ref s.heap.objs.size, _, I2, rfl, ⟨_, x, y, u0, I.hok.fresh (Nat.le_refl _), rfl, rfl, fun xs' h' => by rw [CT.Inv.sqb_inj I h' hx]; exact ex, fun ys' h' => by rw [CT.Inv.sqb_inj I h' hy]; exact ey, fun us' h' => by rw [CT.Inv.sqb_inj I h' hu]; exact eu0⟩, ?_, fun b hb => ?_⟩
    · refine ⟨z1', k2 _ _ (by simp [Ne.symm zTI, TITO, TIi1, TIi2, TIi3]) q2, ⟨#[u, v, t], sb.extBut _ _ (Ne.symm zTO) z2, rfl⟩, z3.at fun o e => sb.extBut _ _ (Ne.symm zi1) e, z4.at fun o e => sb.extBut _ _ (Ne.symm zi2) e, z4'.at fun o e => sb.extBut _ _ (Ne.symm zi3) e⟩
    · rw [upd_ne (nT b hb)]; exact (hf b hb).1
  done := by
    intro X hP hw hK hc i pins s σ H E I hf ⟨q1, q2, ⟨ts, q3, q3'⟩, q4, q5, q6⟩ hg
    subst hP hw hK
    obtain ⟨xs, ys, us, hx, hy, hu, he⟩ := hg
    obtain ⟨its, r1, p1, _⟩ := CT.Inv.sqb I hx
    obtain ⟨its2, r2, p2, _⟩ := CT.Inv.sqb I hy
    obtain ⟨its3, r3, p3, _⟩ := CT.Inv.sqb I hu
    have n1 : a1 ∉ [z, TO, i1, i2, i3] := fun m => CT.Inv.ne_fp I hx (hf a1 (sub5 m)) rfl
    have n2 : a2 ∉ [z, TO, i1, i2, i3] := fun m => CT.Inv.ne_fp I hy (hf a2 (sub5 m)) rfl
    have n3 : a3 ∉ [z, TO, i1, i2, i3] := fun m => CT.Inv.ne_fp I hu (hf a3 (sub5 m)) rfl
    refine pyNext_zip q1 (zip3_end (I.ok.hd hc) nd n1 n2 n3 q1 q2 q3 q3' q4 q5 q6 p1 p2 p3 (he.imp (vend r1) fun z => z.imp (vend r2) (vend r3)) fun h' e kk ⟨o, ho, hcls⟩ => ⟨e, o, rfl, ho, hcls, rfl, ?_⟩)
    exact CT.Inv.turnedL (t' := s.toks) (ch := [z, TO, i1, i2, i3]) I (fun b hb => hf b (sub5 hb)) kk
  self := fun _ _ _ _ _ ⟨q1, _⟩ h => wpAny_pyIter_zip q1 h
section
variable {X : Cx} {elts : List Expr} {tpos : Pos}
theorem pi_zip3 {a b c : Expr} {ta : TA} {k} {p pos : Pos} (hg : Gl X "zip") (hm : X.mg "zip" = none) (ha : PA X [a, b, c] ta) (hs : starEach [a, b, c] X.env = [(false, eval a X.env), (false, eval b X.env), (false, eval c X.env)] := by rfl)
    (hs2 : starEach [b, c] X.env = [(false, eval b X.env), (false, eval c X.env)] := by rfl) : PI X (.Tuple elts k tpos) (.Call (.Name "zip" p) [a, b, c] [] pos) (iZip3 X.K ta) := by
  intro pins s σ H R I h
  refine Call_ (ld_blt I hg hm boot_zip (PyProof.Rows.callWith_type1 (thn (ha pos pins s σ H _ I h) fun us s1 ⟨vs, H1, I1, r1, q1⟩ => ?_) (by rw [hs, hs2]) (by rw [hs2]; rfl)))
  obtain ⟨b1, b2, b3, a1, a2, a3, xs, ys, us', e, hx, hy, hu, q⟩ := q1
  subst e
  cases r1 with
  | cons r rr =>
    cases rr with
    | cons r' rr =>
      cases rr with
      | cons r'' rr =>
        cases rr
        cases r
        cases r'
        cases r''
        obtain ⟨its, rv1, p1, _⟩ := CT.Inv.sqb I1 hx
        obtain ⟨its2, rv2, p2, _⟩ := CT.Inv.sqb I1 hy
        obtain ⟨its3, rv3, p3, _⟩ := CT.Inv.sqb I1 hu
        refine call_zip3S p1 p2 p3 fun h' x1 x2 x3 x4 x5 x5' x6 x7 => ?_
        refine wpAny_pyIter_zip x3 ?_
        refine ⟨_, _, _, _, H1, rfl, I1.kept (t' := s1.toks) x6, turn_zip3 (TI := s1.heap.objs.size + 3) (TO := s1.heap.objs.size + 4) (i1 := s1.heap.objs.size) (i2 := s1.heap.objs.size + 1) (i3 := s1.heap.objs.size + 2) (by simp), ⟨x3, x1, ⟨_, x2, rfl⟩, x4, x5, x5'⟩, fun b hb => ?_, q⟩
        have hle : s1.heap.objs.size ≤ b := by
          simp only [List.mem_cons, List.not_mem_nil, or_false] at hb
          rcases hb with rfl | rfl | rfl | rfl | rfl | rfl <;> omega
        exact I1.fpOk hle (I1.hok.fresh hle)
end
theorem RdsL.three {K : PySem.W.Frag} {H : Hp} {S : Ad} {d e f : D} {vs : List V} (r : RdsL K H S [d, e, f] vs) : ∃ v u t, vs = [v, u, t] ∧ Rds K H S d v ∧ Rds K H S e u ∧ Rds K H S f t := by
  cases r with | cons r t => obtain ⟨u, w, rfl, q1, q2⟩ := t.two; exact ⟨_, _, _, rfl, r, q1, q2⟩
def zipD3 : List D → List D → List D → List D
  | x :: xs, y :: ys, z :: zs => .tup [x, y, z] :: zipD3 xs ys zs
  | _, _, _ => []
theorem zipD3_get : ∀ {xs ys zs : List D} {i : Nat} {d : D}, (zipD3 xs ys zs)[i]? = some d → ∃ x y z, xs[i]? = some x ∧ ys[i]? = some y ∧ zs[i]? = some z ∧ d = .tup [x, y, z]
  | x :: xs, y :: ys, z :: zs, 0, d, h => by
    simp [zipD3] at h
    exact ⟨x, y, z, rfl, rfl, rfl, h.symm⟩
  | x :: xs, y :: ys, z :: zs, i + 1, d, h => by
    simp [zipD3] at h
    obtain ⟨x', y', z', h1, h2, h3, h4⟩ := zipD3_get h
    exact ⟨x', y', z', by simpa using h1, by simpa using h2, by simpa using h3, h4⟩
  | [], _, _, _, _, h => by simp [zipD3] at h
  | _ :: _, [], _, _, _, h => by simp [zipD3] at h
  | _ :: _, _ :: _, [], _, _, h => by simp [zipD3] at h
theorem zipD3_len : ∀ {xs ys zs : List D}, (zipD3 xs ys zs).length = min xs.length (min ys.length zs.length)
  | x :: xs, y :: ys, z :: zs => by simp [zipD3, zipD3_len]
  | [], _, _ => by simp [zipD3]
  | _ :: _, [], _ => by simp [zipD3]
  | _ :: _, _ :: _, [] => by simp [zipD3]
section
variable {X : Cx} {ρ : Rho} {pos p tpos : Pos} {a b c : Expr}
theorem di_zip3 {da db dc : D} {xs ys zs : List D} {elts : List Expr} {k} (hg : Gl X "zip") (hm : X.mg "zip" = none) (qa : Sq da xs) (qb : Sq db ys) (qc : Sq dc zs) (ha : DA X ρ [a, b, c] [da, db, dc])
    (hs : starEach [a, b, c] X.env = [(false, eval a X.env), (false, eval b X.env), (false, eval c X.env)] := by rfl) (hs2 : starEach [b, c] X.env = [(false, eval b X.env), (false, eval c X.env)] := by rfl) : DI X (.Tuple elts k tpos) ρ (.Call (.Name "zip" p) [a, b, c] [] pos) (zipD3 xs ys zs) :=
  PI.weak (pi_zip3 hg hm ha hs hs2) fun σ H R ⟨S, ve, kk⟩ => ⟨S, ve, fun vs H' ex rs => by
    obtain ⟨v, u, t, rfl, r1, r2, r3⟩ := rs.three
    obtain ⟨b1, a1, vs1, rfl, l1⟩ := qa.later r1
    obtain ⟨b2, a2, vs2, rfl, l2⟩ := qb.later r2
    obtain ⟨b3, a3, vs3, rfl, l3⟩ := qc.later r3
    refine ⟨b1, b2, b3, a1, a2, a3, vs1, vs2, vs3, rfl, (l1 H' S Ext.refl fun a h => .inl h).1, (l2 H' S Ext.refl fun a h => .inl h).1, (l3 H' S Ext.refl fun a h => .inl h).1, kk _ H' ex fun H2 S2 e2 z2 dm i => ?_⟩
    obtain ⟨s1, t1⟩ := l1 H2 S2 e2 z2
    obtain ⟨s2, t2⟩ := l2 H2 S2 e2 z2
    obtain ⟨s3, t3⟩ := l3 H2 S2 e2 z2
    refine ⟨fun d hd => ?_, fun hi => ⟨vs1, vs2, vs3, s1, s2, s3, ?_⟩⟩
    · obtain ⟨x, y, z, hx, hy, hz, rfl⟩ := zipD3_get hd
      obtain ⟨x', hx', rx⟩ := t1.get hx
      obtain ⟨y', hy', ry⟩ := t2.get hy
      obtain ⟨z', hz', rz⟩ := t3.get hz
      refine ⟨⟨vs1, vs2, vs3, x', y', z', s1, s2, s3, hx', hy', hz'⟩, fun w H3 yl => ?_⟩
      obtain ⟨T, x2, y2, w2, hT, rfl, rfl, g1, g2, g3⟩ := yl
      have e1 := g1 vs1 s1
      have e2' := g2 vs2 s2
      have e3' := g3 vs3 s3
      rw [hx'] at e1; cases e1
      rw [hy'] at e2'; cases e2'
      rw [hz'] at e3'; cases e3'
      exact ⟨Ext.new hT, Rds.newTup dm hT (.cons rx (.cons ry (.cons rz .nil)))⟩
    · have h1 := t1.length
      have h2 := t2.length
      have h3 := t3.length
      rw [zipD3_len] at hi
      omega⟩
end
/-- [elt for x, y, z in iter] -/
theorem dc_map3 {X : Cx} {scope : Scope} {own : List Str} {cap : List (Str × Nat)} {ρ : Rho} {elt iter : Expr} {pos px py pz tp : Pos} {α : Type} {l : List α} {g1 g2 g3 f : α → D} {x y z : Str} {k k2 k3 : Nat} {sc : Scope} {N : List Str} {j} (h1 : X.env.scope = sc) (h2 : X.N = N) (hcs : csOk scope own cap sc N = true) (hc : X.calm = true)
    (hk : own[k]? = some x) (hk2 : own[k2]? = some y) (hk3 : own[k3]? = some z) (hi : DI0 X (.Tuple [.Name x px, .Name y py, .Name z pz] j tp) ρ iter (l.map fun a => .tup [g1 a, g2 a, g3 a])) (hz : l.length ≤ sizeLine)
    (he : CS X scope own cap → ∀ a ∈ l, ∀ p s H fp, DE (cX X scope own cap p s H fp) ((((cR own cap ρ).set k (.val (g1 a))).set k2 (.val (g2 a))).set k3 (.val (g3 a))) elt (f a))
    (hs : ∀ x, foldedSetIterable iter X.env x = pure x := by intro _; rfl) : DC X ρ (.ListComp elt [⟨.Tuple [.Name x px, .Name y py, .Name z pz] j tp, iter, [], 0⟩] scope pos) (l.map f) := by
  have cs := CS.of sc N h1 h2 hcs
  rw [← flat_single]
  refine dc_comp (ks := [k] ++ ([k2] ++ ([k3] ++ []))) (outs := l.map fun a => [f a]) cs hc hi (fun i hj => ?_) (by simp) (by rw [flat_single, List.length_map]; exact hz) (fun i d out q1 q2 => ?_) hs
  · simp only [List.append_nil, List.cons_append, List.nil_append, List.mem_cons, List.not_mem_nil, or_false] at hj
    rcases hj with rfl | rfl | rfl
    · exact cR_nil hk
    · exact cR_nil hk2
    · exact cR_nil hk3
  · obtain ⟨a, ea, rfl⟩ := getmap q1
    obtain ⟨a', ea', rfl⟩ := getmap q2
    rw [ea] at ea'; cases ea'
    exact ⟨_, true, fun p s H fp => dg_tup (X := cX X scope own cap p s H fp) hc (dgs_cons (dg_c cs hk) (dgs_cons (dg_c cs hk2) (dgs_cons (dg_c cs hk3) dgs_nil))) rfl, fun p s H fp => dts_nil, fun _ p s H fp acc => db_emit (Y := cX X scope own cap p s H fp) (he cs a (List.mem_of_getElem? ea) p s H fp), fun z => nomatch z⟩
/-! ### while -/
inductive WhO (X : Cx) (c : Expr) (body : List Stmt) : Nat → Rho → Out → Prop
  | stop {n : Nat} {ρ : Rho} : DT X ρ c false → WhO X c body n ρ (.nx ρ)
  | turn {n : Nat} {ρ ρ' : Rho} {o : Out} : DT X ρ c true → DSs X ρ body (.nx ρ') → WhO X c body n ρ' o → WhO X c body (n + 1) ρ o
  | ret {n : Nat} {ρ : Rho} {o : Out} : DT X ρ c true → DSs X ρ body o → o.ends → WhO X c body n ρ o
theorem ds_while {X : Cx} {c : Expr} {body : List Stmt} {n : Nat} {ρ : Rho} {o : Out} {pos : Pos} (hp : PassesOwn (model X.prog X.w) X.A X.env X.xe) (h : WhO X c body n ρ o) : DS X ρ (.While c body [] pos) o := by
  have pc : PT X c (ttA X.K fun ρ b => DT X ρ c b) := fun pins s σ H Q I ⟨_, _, g, q⟩ => g pins s σ H Q I q
  refine PS.weak (ps_while hp pc (pss_any (sts := body))) ?_
  rintro E σ H ⟨H₀, S₀, S, f, k⟩
  refine ⟨fun m σ' H' => ∃ S' ρ', Fm X.K H₀ S₀ H' S' ρ' σ' ∧ WhO X c body m ρ' o, ⟨n, S, ρ, f, h⟩, ?_⟩
  rintro m σ' H' ⟨S', ρ', f', hw⟩
  cases hw with
  | stop hc => exact ⟨ρ', false, hc, S', f'.ve, fun H1 ex => iteF (k σ' H1 S' (f'.grow ex))⟩
  | turn hc hb hr =>
    rename_i n ρ2
    refine ⟨ρ', true, hc, S', f'.ve, fun H1 ex => iteT ⟨fun σ2 H2 => ∃ S2, Fm X.K H₀ S₀ H2 S2 ρ2 σ2, fun σ2 H2 ⟨S2, f2⟩ => ⟨n, Nat.lt_succ_self _, S2, ρ2, f2, hr⟩, ρ', _, hb, H₀, S₀, S', f'.grow ex, fun σ3 H3 S3 f3 => ⟨S3, f3⟩⟩⟩
  | ret hc hb hend =>
    refine ⟨ρ', true, hc, S', f'.ve, fun H1 ex => iteT ⟨fun _ _ => False, fun _ _ z => z.elim, ρ', o, hb, H₀, S₀, S', f'.grow ex, ?_⟩⟩
    cases o with
    | nx _ => exact hend.elim
    | rt d => exact k
    | rfx xs => exact k
/-! ### more built-ins -/
section
variable {X : Cx} {ρ : Rho} {e a b : Expr} {p pos : Pos} {da : D}
theorem boot_min' : bootBuiltins "min" = some (.builtin "min") := by decide +kernel
theorem boot_max' : bootBuiltins "max" = some (.builtin "max") := by decide +kernel
theorem de_min2 {i j : Int} (hc : X.calm = true) (hg : Gl X "min") (hm : X.mg "min" = none) (ha : DA X ρ [a, b] [.int i, .int j]) (he : starEach [a, b] X.env = (false, eval a X.env) :: starEach [b] X.env := by rfl) (hpl : (backTo pos (starEach [b] X.env)).any (·.1) = false := by rfl) :
    DE X ρ (.Call (.Name "min" p) [a, b] [] pos) (.int (if j < i then j else i)) :=
  de_callB (call_min2 hc) (fun vs H S Q rs dm k => by
    obtain ⟨v, u, rfl, r1, r2⟩ := rs.two
    exact ⟨i, j, by rw [r1.intV, r2.intV], k _ H Ext.refl (.int _)⟩) hg hm boot_min' ha (by decide) (by decide) he hpl
theorem de_max2 {i j : Int} (hc : X.calm = true) (hg : Gl X "max") (hm : X.mg "max" = none) (ha : DA X ρ [a, b] [.int i, .int j]) (he : starEach [a, b] X.env = (false, eval a X.env) :: starEach [b] X.env := by rfl) (hpl : (backTo pos (starEach [b] X.env)).any (·.1) = false := by rfl) :
    DE X ρ (.Call (.Name "max" p) [a, b] [] pos) (.int (if j > i then j else i)) :=
  de_callB (call_max2 hc) (fun vs H S Q rs dm k => by
    obtain ⟨v, u, rfl, r1, r2⟩ := rs.two
    exact ⟨i, j, by rw [r1.intV, r2.intV], k _ H Ext.refl (.int _)⟩) hg hm boot_max' ha (by decide) (by decide) he hpl
/-- i, i + 1, .. below j -/
def kFrom (i j : Int) : List Int := (List.range (j - i).toNat).map fun k : Nat => i + (k : Int)
theorem di_range2 {tg : Expr} {i j : Int} (hg : Gl X "range") (hm : X.mg "range" = none) (ha : DA X ρ [a, b] [.int i, .int j]) (hb : -(2 ^ 62) ≤ i ∧ i < 2 ^ 62 ∧ -(2 ^ 62) ≤ j ∧ j < 2 ^ 62)
    (hs : starEach [a, b] X.env = [(false, eval a X.env), (false, eval b X.env)] := by rfl) (hs2 : starEach [b] X.env = [(false, eval b X.env)] := by rfl) : DI X tg ρ (.Call (.Name "range" p) [a, b] [] pos) ((kFrom i j).map D.int) :=
  PI.weak (pi_range2 hg hm ha hs hs2) fun σ H R ⟨S, ve, k⟩ => ⟨S, ve, fun vs H' ex rs => by
    obtain ⟨v, u, rfl, r1, r2⟩ := rs.two
    rw [r1.intV, r2.intV]
    refine ⟨i, j, rfl, hb, k _ H' ex fun H2 S2 e z dm m => ?_⟩
    refine ⟨fun d hd => ?_, fun hi => show _ ≤ m by simpa [kFrom] using hi⟩
    have hm : m < (j - i).toNat := by
      have := (List.getElem?_eq_some_iff.mp hd).1
      simpa [kFrom] using this
    refine ⟨hm, fun x H3 y => ?_⟩
    obtain ⟨e2, e3⟩ := y
    subst e2 e3
    have hd' : d = .int (i + (m : Int)) := by
      rw [kFrom, List.map_map, List.getElem?_map, List.getElem?_range hm] at hd
      exact (Option.some.inj hd).symm
    subst hd'
    exact ⟨Ext.refl, .int _⟩⟩
end
end CT
set_option Elab.async false
set_option linter.all false
set_option maxRecDepth 100000
set_option maxHeartbeats 400000
/-! enumerate(list) as what a loop or a comprehension walks -/
set_option Elab.async false
set_option linter.all false
set_option maxRecDepth 100000
set_option maxHeartbeats 400000
/-! THE DATA LAYER: exceptions made and read; lists put together; a comprehension of two names with a test -/
namespace CT
open PySem PySem.Spec L2
open PyProof.Rows hiding St
section
variable {X : Cx} {ρ : Rho} {k : Nat} {f C : Addr} {fd : FuncData} {ps : List Str} {x : Str} {p pos : Pos} {e o a b : Expr} {es : List Expr} {ds xs ys : List D} {d : D}
theorem RdsF.zip {K : PySem.W.Frag} {H : Hp} {S : Ad} : ∀ {fls : List Str} {ds : List D} {vs : List V}, RdsL K H S ds vs → RdsF K H S (fls.zip ds) (fls.zip vs)
  | [], _, _, _ => .nil
  | _ :: _, _, _, .nil => .nil
  | f :: fls, _, _, .cons r t => .cons r (RdsF.zip t)
end
end CT
set_option Elab.async false
set_option linter.all false
set_option maxRecDepth 100000
set_option maxHeartbeats 400000
namespace CT
open PySem PySem.Spec L2
open PyProof.Rows hiding St
/-- what a class of exceptions must be, checked at once -/
def xcOk (K : PySem.W.Frag) (C : Addr) : Bool := PySem.W.hasDictIn K C && (PySem.W.clsIn K C).any (fun cd => overV cd.mro) && PySem.W.findIn K (.ref C) "__getattribute__" == some (some (.builtin "BaseException.__getattribute__")) &&
  PySem.W.findIn K (.ref C) "__getattr__" == some none && PySem.W.findIn K (.ref C) "__setattr__" == some (some (.builtin "object.__setattr__")) && PySem.W.findIn K (.ref C) "__class__" == some (some (.builtin "object.__class__")) &&
  PySem.W.specialIn K (.builtin "object.__class__") "__get__" == some (some (.builtin "getset_descriptor.__get__")) && PySem.W.takesIn K (.builtin "object.__class__") == some true
theorem xisi_of {K : PySem.W.Frag} {C : Addr} (h : xcOk K C = true) : XIsi K C := by
  unfold xcOk at h
  simp only [Bool.and_eq_true, beq_iff_eq] at h
  obtain ⟨⟨⟨⟨⟨⟨⟨h1, h2⟩, h3⟩, h4⟩, h5⟩, h6⟩, h7⟩, h8⟩ := h
  exact ⟨⟨h1, h2, h3, h4, h5⟩, h6, h7, h8⟩
end CT
set_option Elab.async false
set_option linter.all false
set_option maxRecDepth 100000
set_option maxHeartbeats 400000
/-! RAISED EXCEPTIONS: how they lie, the frame noted, the frame left -/
namespace CT
open PySem PySem.Spec PySem.W L2
/-- an address that the body's own things do not use -/
structure Loose (X : Cx) (pins : List (Addr × Obj)) (H : Hp) (T : Addr) : Prop where
  new : X.s₀.heap.objs.size ≤ T
  loc : T ≠ X.env.locals
  cell : ∀ x c, X.env.cells.lookup x = some c → c ≠ T
  pin : ∀ p ∈ X.pn ++ pins, p.1 ≠ T
  free : H T = none
/-- how far a raised exception is: no entry yet, or the last entry's mark -/
def Trail (X : Cx) (pins : List (Addr × Obj)) (H : Hp) (h : Heap) (a : Addr) (φ : Option Value → Prop) : Prop :=
  ∃ oe vs, h.get? a = some oe ∧ oe.data = .fields vs ∧ ((vs[1]? = some .none ∧ φ none) ∨
    ∃ T oT ts fl, vs[1]? = some (.ref T) ∧ Loose X pins H T ∧ T ≠ a ∧ h.get? T = some oT ∧ oT.data = .fields ts ∧ ts[3]? = some fl ∧ φ (some fl))
abbrev anyFl : Option Value → Prop := fun _ => True
theorem Trail.imp {X : Cx} {pins : List (Addr × Obj)} {H : Hp} {h : Heap} {a : Addr} {φ ψ : Option Value → Prop} (t : Trail X pins H h a φ) (f : ∀ x, φ x → ψ x) : Trail X pins H h a ψ := by
  obtain ⟨oe, vs, h1, h2, q⟩ := t
  refine ⟨oe, vs, h1, h2, q.imp (fun z => ⟨z.1, f _ z.2⟩) ?_⟩
  rintro ⟨T, oT, ts, fl, z1, z2, z3, z4, z5, z6, z7⟩
  exact ⟨T, oT, ts, fl, z1, z2, z3, z4, z5, z6, f _ z7⟩
theorem Loose.same {X : Cx} {pins : List (Addr × Obj)} {H H' : Hp} {T : Addr} (l : Loose X pins H T) (h : H' T = none) : Loose X pins H' T := ⟨l.new, l.loc, l.cell, l.pin, h⟩
section
variable {X : Cx} {pins : List (Addr × Obj)} {σ : St} {H : Hp} {s : Shared} {a C : Addr} {dx : Option Addr} {fr : Bool} {M : Model} {A : Around} {E : Value → Shared → Prop}
/-- a free address of the heap's end -/
theorem _root_.L2.Inv.loose (I : Inv X pins σ H s) {T : Addr} (h : s.heap.objs.size ≤ T) : Loose X pins H T where
  new := Nat.le_trans I.sz h
  loc := Nat.ne_of_gt (Nat.lt_of_lt_of_le I.lt h)
  cell := fun x c e => by obtain ⟨v, o, ho, _⟩ := I.cell x c e; exact Nat.ne_of_lt (Nat.lt_of_lt_of_le (Heap.lt_size ho) h)
  pin := fun p hp => Nat.ne_of_lt (Nat.lt_of_lt_of_le (Heap.lt_size (I.pin p hp).1) h)
  free := I.hok.fresh h
/-- a record of ours is written -/
theorem _root_.L2.Inv.mark {T : Addr} {t' : Nat} {h' : Heap} (I : Inv X pins σ H s) (l : Loose X pins H T) (k : ∀ b o, b ≠ T → s.heap.get? b = some o → h'.get? b = some o) : Inv X pins σ H { s with heap := h', toks := t' } :=
  I.turned (it := T) k l.free l.loc (.inr l.new) l.cell l.pin
/-- the exception's own object is written -/
theorem _root_.L2.Inv.excAt {fr' : Bool} {h' : Heap} {t' : Nat} {vs : Array Value} (I : Inv X pins σ H s) (ha : H a = some (ExcIs fr a C dx)) (k : ∀ b o, b ≠ a → s.heap.get? b = some o → h'.get? b = some o) (h1 : h'.get? a = some ⟨.ref C, dx, .fields vs, #[]⟩) (hz : vs.size = 6) (hf : fr' = true → vs[1]? = some .none) :
    Inv X pins σ (upd H a (ExcIs fr' a C dx)) { s with heap := h', toks := t' } :=
  I.write (x := a) (e := a) (by rw [ha]; exact True.intro) (.inl rfl) k ⟨_, h1⟩ (exc_ok h1 hz hf)
/-- the frames' slots -/
theorem _root_.L2.Inv.slots {h' : Heap} (I : Inv X pins σ H s) (hs : Heap.SlotsOnly (frs X.stack) s.heap h') : Inv X pins σ H { s with heap := h' } := by
  have nH : ∀ b u, H b = some u → b ∉ frs X.stack := fun b u e hb => by rw [I.stkFree b hb] at e; cases e
  refine I.call (g' := s.gens) (d' := s.drawn) (t' := s.toks) (ch := []) ⟨fun b o e _ hb _ => (hs.2.1 b hb).trans e, fun b o e _ _ _ => hs.2.2 b o e, fun b o _ n _ => n, fun b o e _ => let ⟨sl, q⟩ := hs.2.2 b o e; ⟨_, q⟩, fun _ _ q => q, fun _ _ _ q => q, fun b ps q => ⟨#[], by rw [q]; simp⟩⟩
    (fun b u e => (I.hok b u e).stay (fun c v hc q => (hs.2.1 c ?_).trans q) (fun _ q => q) fun _ _ q => q) I.bare fun b z => nomatch z
  rcases hc with z | z
  · rw [z]; exact nH b u e
  · exact nH c _ z
/-- a new entry, head its next -/
theorem entry_new {head : Value} {hadNext : Bool} {Q : Unit → Shared → Prop} (I : Inv X pins σ H s) (hfr : A.frames = some X.stack) (hs : X.stack = X.env :: X.outer) (hf : X.env.frame = some X.env.locals) (ha : H a = some (ExcIs fr a C dx))
    (h : ∀ s', Inv X pins σ (upd H a (ExcIs false a C dx)) s' → Trail X pins (upd H a (ExcIs false a C dx)) s'.heap a (fun fl => fl = some (rawInt X.env.locals)) → Q () s') :
    wpAny M A (do let b ← EntryCells.newEntry head (← frameOf X.env) .none (rawInt X.env.locals) .none (← entryPlaceOf X.env.locals hadNext); setField (.ref a) 1 b) Q E s := by
  have hl := I.stack
  rw [hs] at hl hfr
  refine wpAny_bind (wpAny_frameOf_fun hfr hl hf fun h₁ hs₁ => ?_)
  have I1 : Inv X pins σ H { s with heap := h₁ } := I.slots (by rw [hs]; exact hs₁)
  refine wpAny_bind (wpAny_entryPlaceOf fun pl hpl => ?_)
  unfold EntryCells.newEntry newFields
  refine wpAny_bind (wpAny_newObj_type ?_ (hpl.sizeOk5 _ _ _ _ _))
  obtain ⟨vs, he₁, hz, _⟩ := exc_at (I1.hok a _ ha)
  have lo := I1.loose (T := h₁.objs.size) (Nat.le_refl _)
  have he₂ := Heap.get?_push_of_some (h := h₁) { cls := .type "traceback", dict := none, data := .fields ([head, .ref X.env.locals, .none, rawInt X.env.locals, .none] ++ (if pl.isEmpty then List.replicate 6 Value.none else pl)).toArray } he₁
  have hT₂ := Heap.get?_push_size h₁ (o := { cls := .type "traceback", dict := none, data := .fields ([head, .ref X.env.locals, .none, rawInt X.env.locals, .none] ++ (if pl.isEmpty then List.replicate 6 Value.none else pl)).toArray }) rfl
  have I2 := I1.kept (t' := s.toks) (h' := h₁.push { cls := .type "traceback", dict := none, data := .fields ([head, .ref X.env.locals, .none, rawInt X.env.locals, .none] ++ (if pl.isEmpty then List.replicate 6 Value.none else pl)).toArray }) (fun b u q => Heap.get?_push_of_some _ q)
  refine wpAny_setField he₂ rfl (by rw [hz]; decide) (h _ ?_ ?_)
  · refine I2.excAt (t' := s.toks) ha (fun b o hb q => (Heap.get?_update_other _ _ (Ne.symm hb)).trans q) (vs := vs.setIfInBounds 1 (.ref h₁.objs.size)) ?_ (by simpa using hz) (fun z => nomatch z)
    exact Heap.get?_update_self _ he₂ rfl
  · have hTe : h₁.objs.size ≠ a := Nat.ne_of_gt (Heap.lt_size he₁)
    refine ⟨_, vs.setIfInBounds 1 (.ref h₁.objs.size), Heap.get?_update_self _ he₂ rfl, rfl, .inr ⟨h₁.objs.size, _, _, rawInt X.env.locals, ?_, lo.same (by rw [upd_ne hTe]; exact lo.free), hTe, (Heap.get?_update_other _ _ (Ne.symm hTe)).trans hT₂, rfl, ?_, rfl⟩⟩
    · simp [hz]
    · first | (simp; done) | (rcases hpl with rfl | ⟨_, _, _, _, _, _, _, rfl⟩ <;> simp)
/-- the frame is noted -/
theorem note_ok {Q : Unit → Shared → Prop} (I : Inv X pins σ H s) (hfr : A.frames = some X.stack) (hs : X.stack = X.env :: X.outer) (hf : X.env.frame = some X.env.locals) (ha : H a = some (ExcIs fr a C dx)) (t : Trail X pins H s.heap a anyFl)
    (h : ∀ s', Inv X pins σ (upd H a (ExcIs false a C dx)) s' → Trail X pins (upd H a (ExcIs false a C dx)) s'.heap a (fun fl => fl = some (rawInt X.env.locals)) → Q () s') : wpAny M A (noteFrame (.ref a) X.env) Q E s := by
  obtain ⟨oe, vs, he, hd, t⟩ := t
  unfold noteFrame
  simp only [hf]
  rcases t with ⟨h1, _⟩ | ⟨T, oT, ts, fl, h1, lo, hTa, hT, hdT, h3, _⟩
  · refine wpAny_bind (wpAny_field he hd h1 ?_)
    rw [if_neg (by decide)]
    exact entry_new I hfr hs hf ha h
  · refine wpAny_bind (wpAny_field he hd h1 ?_)
    rw [if_pos (show (Value.ref T != Value.none) = true from by simp)]
    refine wpAny_bind (wpAny_field hT hdT h3 ?_)
    by_cases hq : (fl == rawInt X.env.locals) = true
    · rw [if_pos hq]
      obtain ⟨vs', e1, hz, _⟩ := exc_at (I.hok a _ ha)
      rw [he] at e1; cases e1
      cases hd
      refine wpAny_pure (h s ?_ ?_)
      · have := I.excAt (fr' := false) (t' := s.toks) (h' := s.heap) ha (fun b o _ q => q) he hz (fun z => nomatch z)
        exact this
      · exact ⟨_, _, he, rfl, .inr ⟨T, oT, ts, fl, h1, lo.same (by rw [upd_ne hTa]; exact lo.free), hTa, hT, hdT, h3, by rw [beq_iff_eq.mp hq]⟩⟩
    · rw [if_neg hq]
      refine wpAny_bind (wpAny_setField hT hdT (Array.getElem?_eq_some_iff.mp h3).1 ?_)
      have I1 := I.mark (T := T) (t' := s.toks) (h' := s.heap.update T (Obj.mapFields (·.setIfInBounds 3 Value.none))) lo fun b o hb q => (Heap.get?_update_other _ _ (Ne.symm hb)).trans q
      exact entry_new I1 hfr hs hf ha h
/-- the mark is taken away, or set -/
theorem flight_ok {fo : Option Addr} {φ : Option Value → Prop} {Q : Unit → Shared → Prop} (I : Inv X pins σ H s) (t : Trail X pins H s.heap a φ)
    (h : ∀ s', Inv X pins σ H s' → Trail X pins H s'.heap a (fun fl => ∃ x, φ x ∧ x.isSome = fl.isSome) → Q () s') : wpAny M A (setFlight (.ref a) fo) Q E s := by
  obtain ⟨oe, vs, he, hd, t⟩ := t
  unfold setFlight
  rcases t with ⟨h1, hp⟩ | ⟨T, oT, ts, fl, h1, lo, hTa, hT, hdT, h3, hp⟩
  · refine wpAny_bind (wpAny_field he hd h1 ?_)
    rw [if_neg (by decide)]
    exact wpAny_pure (h s I ⟨oe, vs, he, hd, .inl ⟨h1, none, hp, rfl⟩⟩)
  · refine wpAny_bind (wpAny_field he hd h1 ?_)
    rw [if_pos (show (Value.ref T != Value.none) = true from by simp)]
    have hsz := (Array.getElem?_eq_some_iff.mp h3).1
    refine wpAny_setField hT hdT hsz (h _ ?_ ?_)
    · exact I.mark (T := T) (t' := s.toks) lo fun b o hb q => (Heap.get?_update_other _ _ (Ne.symm hb)).trans q
    · refine ⟨oe, vs, (Heap.get?_update_other _ _ hTa).trans he, hd, .inr ⟨T, _, _, fo.elim .none (fun f => rawInt f), h1, lo, hTa, Heap.get?_update_self _ hT (Obj.isFreed_of_fields (Obj.data_mapFields hdT _)), Obj.data_mapFields hdT _, by simp [hsz], some fl, hp, rfl⟩⟩
end
end CT
set_option Elab.async false
set_option linter.all false
set_option maxRecDepth 100000
set_option maxHeartbeats 400000
/-! RAISED EXCEPTIONS: contexts, calls, raise, try -/
namespace CT
open PySem PySem.Spec PySem.W L2
open PyProof.Rows hiding St
/-- how an exception lies behind a call -/
def CXA (P : Program) (w : World) : CXT := fun outer H s E e s' => ∃ a H' C dx, e = .ref a ∧ s'.os = s.os ∧ AllBare s'.gens ∧ Un (frs outer) [] H H' s.heap s'.heap ∧ HOk P w H' s'.heap ∧ H' a = some (ExcIs false a C dx) ∧
  (∃ oe vs T oT ts fl, s'.heap.get? a = some oe ∧ oe.data = .fields vs ∧ vs[1]? = some (.ref T) ∧ s.heap.objs.size ≤ T ∧ H' T = none ∧ T ≠ a ∧ s'.heap.get? T = some oT ∧ oT.data = .fields ts ∧ ts[3]? = some fl) ∧ E e none H'
/-- pins put into the context -/
abbrev _root_.L2.Cx.pnd (X : Cx) (pins : List (Addr × Obj)) : Cx := { X with pn := X.pn ++ pins }
/-- what is wanted of an exception: R of the slots, the exception, the heap -/
abbrev _root_.L2.Cx.xw (X : Cx) (pins : List (Addr × Obj)) (R : St → Addr → Hp → Prop) : Cx :=
  { X with pn := X.pn ++ pins, xe := fun e s' => ∃ σ a H C dx, e = .ref a ∧ Inv (X.pnd pins) [] σ H s' ∧ H a = some (ExcIs false a C dx) ∧ Trail (X.pnd pins) [] H s'.heap a anyFl ∧ R σ a H }
section
variable {X : Cx} {pins pins' : List (Addr × Obj)} {σ : St} {H : Hp} {s : Shared} {R : St → Addr → Hp → Prop} {a C : Addr} {dx : Option Addr}
theorem _root_.L2.Cx.Ok.re {X Y : Cx} (ok : X.Ok) (h : Y = { X with pn := Y.pn, xe := Y.xe }) : Y.Ok := by
  rw [h]
  exact ⟨ok.mod, ok.kind, ok.glob, ok.blt, ok.above, ok.inj, ok.has, ok.cab, ok.hd, ok.frames, ok.stk, ok.exf, ok.bs, ok.bsz, ok.noex, ok.exfs, ok.funs, ok.frf⟩
/-- other pins, another wish -/
theorem _root_.L2.Inv.re {X : Cx} {pn : List (Addr × Obj)} {E : Value → Shared → Prop} (I : Inv X pins σ H s) (hp : ∀ p ∈ pn ++ pins', p ∈ X.pn ++ pins) : Inv { X with pn := pn, xe := E } pins' σ H s :=
  ⟨Cx.Ok.re I.ok rfl, I.os, I.bare, I.base, I.loc, I.cell, I.free, I.freeC, fun p h => I.pin p (hp p h), I.hok, I.len⟩
theorem _root_.L2.Inv.xw (I : Inv X pins σ H s) : Inv (X.xw pins R) [] σ H s := Inv.re I fun p h => by simpa using h
theorem _root_.L2.Inv.toxw (I : Inv X (pins ++ pins') σ H s) : Inv (X.xw pins R) pins' σ H s := Inv.re I fun p h => by simpa [or_assoc] using h
theorem _root_.L2.Inv.unxw (I : Inv (X.xw pins R) pins' σ H s) : Inv X (pins ++ pins') σ H s := Inv.re (X := X.xw pins R) (pn := X.pn) (E := X.xe) I fun p h => by
  rcases List.mem_append.mp h with h | h
  · exact List.mem_append_left _ (List.mem_append_left _ h)
  · rcases List.mem_append.mp h with h | h
    · exact List.mem_append_left _ (List.mem_append_right _ h)
    · exact List.mem_append_right _ h
theorem _root_.L2.Inv.xwp (I : Inv (X.xw pins R) pins' σ H s) : Inv (X.pnd pins) [] σ H s := Inv.re (X := X.xw pins R) (E := X.xe) I fun p h => List.mem_append_left _ (by simpa using h)
theorem _root_.L2.Inv.pxw (I : Inv (X.pnd pins) [] σ H s) : Inv X pins σ H s := Inv.re (X := X.pnd pins) (pn := X.pn) (E := X.xe) I fun p h => by simpa using h
theorem Loose.re {X Y : Cx} {pins pins' : List (Addr × Obj)} {H : Hp} {T : Addr} (l : Loose X pins H T) (h0 : Y.s₀ = X.s₀) (h1 : Y.env = X.env) (h2 : ∀ p ∈ Y.pn ++ pins', p ∈ X.pn ++ pins) : Loose Y pins' H T :=
  ⟨by rw [h0]; exact l.new, by rw [h1]; exact l.loc, by rw [h1]; exact l.cell, fun p hp => l.pin p (h2 p hp), l.free⟩
theorem Trail.re {X Y : Cx} {pins pins' : List (Addr × Obj)} {H : Hp} {h : Heap} {φ : Option Value → Prop} (t : Trail X pins H h a φ) (h0 : Y.s₀ = X.s₀) (h1 : Y.env = X.env) (h2 : ∀ p ∈ Y.pn ++ pins', p ∈ X.pn ++ pins) : Trail Y pins' H h a φ := by
  obtain ⟨oe, vs, q1, q2, q⟩ := t
  refine ⟨oe, vs, q1, q2, q.imp_right ?_⟩
  rintro ⟨T, oT, ts, fl, z1, z2, z⟩
  exact ⟨T, oT, ts, fl, z1, z2.re h0 h1 h2, z⟩
theorem PE.xw {e : Expr} {t : TE} (h : PE X e t) (hx : ∀ e s, ¬ X.xe e s) : PE (X.xw pins R) e t := fun pins' s σ H Q I hw =>
  wpAny_mono (h (pins ++ pins') s σ H Q I.unxw hw) (fun _ _ ⟨v, H', I', r, q⟩ => ⟨v, H', I'.toxw, r, q⟩) fun e s z => absurd z (hx e s)
theorem PT.xw {e : Expr} {t : TT} (h : PT X e t) (hx : ∀ e s, ¬ X.xe e s) : PT (X.xw pins R) e t := fun pins' s σ H Q I hw =>
  wpAny_mono (h (pins ++ pins') s σ H Q I.unxw hw) (fun _ _ ⟨H', I', q⟩ => ⟨H', I'.toxw, q⟩) fun e s z => absurd z (hx e s)
theorem PA.xw {es : List Expr} {t : TA} (h : PA X es t) (hx : ∀ e s, ¬ X.xe e s) : PA (X.xw pins R) es t := fun pos pins' s σ H Q I hw =>
  wpAny_mono (h pos (pins ++ pins') s σ H Q I.unxw hw) (fun _ _ ⟨v, H', I', r, q⟩ => ⟨v, H', I'.toxw, r, q⟩) fun e s z => absurd z (hx e s)
theorem _root_.L2.SP.toxw {D : Ends} {f : Flow} {s' : Shared} (h : SP X (pins ++ pins') D f s') : SP (X.xw pins R) pins' D f s' := by
  cases f with
  | next => obtain ⟨σ', H', I, q⟩ := h; exact ⟨σ', H', I.toxw, q⟩
  | brk => obtain ⟨σ', H', I, q⟩ := h; exact ⟨σ', H', I.toxw, q⟩
  | cont => obtain ⟨σ', H', I, q⟩ := h; exact ⟨σ', H', I.toxw, q⟩
  | ret u => obtain ⟨v, σ', H', I, r, q⟩ := h; exact ⟨v, σ', H', I.toxw, r, q⟩
theorem PS.xw {st : Stmt} {t : TS} (h : PS X st t) (hx : ∀ e s, ¬ X.xe e s) : PS (X.xw pins R) st t := fun pins' s σ H D I hw =>
  wpAny_mono (h (pins ++ pins') s σ H D I.unxw hw) (fun _ _ q => q.toxw) fun e s z => absurd z (hx e s)
theorem PSs.xw {st : List Stmt} {t : TS} (h : PSs X st t) (hx : ∀ e s, ¬ X.xe e s) : PSs (X.xw pins R) st t := fun pins' s σ H D I hw =>
  wpAny_mono (h (pins ++ pins') s σ H D I.unxw hw) (fun _ _ q => q.toxw) fun e s z => absurd z (hx e s)
end
/-! ### judgements: raised is d -/
def tX (K : Frag) (ρ : Rho) (d : D) (R : St → Addr → Hp → Prop) (σ : St) (H : Hp) : Prop := ∃ S, VE K H S ρ σ ∧ ∀ a H', Ext0 H H' → H a = none → Rds K H' S d (.ref a) → R σ a H'
def DEX (X : Cx) (ρ : Rho) (e : Expr) (d : D) : Prop := ∀ pins R, PE (X.xw pins R) e fun σ H _ => tX X.K ρ d R σ H
def tSX (K : Frag) (ρ ρ' : Rho) (d : D) (R : St → Addr → Hp → Prop) (σ : St) (H : Hp) : Prop := ∃ H₀ S₀ S, Fm K H₀ S₀ H S ρ σ ∧ ∀ σ' a H' S', Fm K H₀ S₀ H' S' ρ' σ' → H₀ a = none → Rds K H' S' d (.ref a) → R σ' a H'
def DSX (X : Cx) (ρ : Rho) (st : Stmt) (ρ' : Rho) (d : D) : Prop := ∀ pins R, PS (X.xw pins R) st fun _ σ H => tSX X.K ρ ρ' d R σ H
def DSXs (X : Cx) (ρ : Rho) (sts : List Stmt) (ρ' : Rho) (d : D) : Prop := ∀ pins R, PSs (X.xw pins R) sts fun _ σ H => tSX X.K ρ ρ' d R σ H
section
variable {X : Cx} {ρ ρ' ρ1 : Rho} {e c : Expr} {d : D} {st : Stmt} {sts : List Stmt} {pos pos' : Pos} {i : Nat} {x : Str}
theorem dsxs_head (h : DSX X ρ st ρ' d) : DSXs X ρ (st :: sts) ρ' d := fun pins R => PSs.weak (pss_cons (h pins R) (pss_never (sts := sts))) fun E σ H q => q
theorem dsxs_cons (h1 : DS X ρ st (.nx ρ1)) (h2 : DSXs X ρ1 sts ρ' d) (hx : ∀ e s, ¬ X.xe e s := by intro _ _ z; exact z) : DSXs X ρ (st :: sts) ρ' d := fun pins R =>
  PSs.weak (pss_cons (PS.xw h1 hx) (h2 pins R)) fun E σ H ⟨H₀, S₀, S, f, k⟩ => ⟨H₀, S₀, S, f, fun σ' H' S' f' => ⟨H₀, S₀, S', f', k⟩⟩
theorem tX_of {K : Frag} {R : St → Addr → Hp → Prop} {σ : St} {H : Hp} (q : tSX K ρ ρ d R σ H) : tX K ρ d R σ H := by
  obtain ⟨H₀, S₀, S, f, k⟩ := q
  exact ⟨S, f.ve, fun a H' ex hn r => k σ a H' S (f.grow ex) (f.ext.back hn) r⟩
theorem dsx_expr (h : DEX X ρ e d) (hs : swapsWith e none pos.line X.env = pure false := by rfl) : DSX X ρ (.Expr e pos) ρ d := fun pins R => PS.weak (ps_expr (h pins R) hs) fun E σ H q => tX_of q
theorem dsx_ret (h : DEX X ρ e d) : DSX X ρ (.Return (some e) pos) ρ d := fun pins R => PS.weak (ps_ret (h pins R)) fun E σ H q => tX_of q
theorem pss_anyX {sts : List Stmt} {pins : List (Addr × Obj)} {R : St → Addr → Hp → Prop} : PSs (X.xw pins R) sts (fun E σ H => ∃ ρ ρ' d, DSXs X ρ sts ρ' d ∧ tSX X.K ρ ρ' d R σ H) := fun pins' s σ H D I ⟨_, _, _, h, q⟩ => h pins R pins' s σ H D I q
theorem dsx_if {a b : List Stmt} {q : Bool} (hc : DT X ρ c q) (ha : q = true → DSXs X ρ a ρ' d) (hb : q = false → DSXs X ρ b ρ' d) (hx : ∀ e s, ¬ X.xe e s := by intro _ _ z; exact z) : DSX X ρ (.If c a b pos) ρ' d := fun pins R =>
  PS.weak (ps_if (PT.xw hc hx) (pss_anyX (sts := a)) (pss_anyX (sts := b))) fun E σ H ⟨H₀, S₀, S, f, k⟩ => ⟨S, f.ve, fun H' ex => by
    cases q with
    | true => exact iteT ⟨ρ, ρ', d, ha rfl, H₀, S₀, S, f.grow ex, k⟩
    | false => exact iteF ⟨ρ, ρ', d, hb rfl, H₀, S₀, S, f.grow ex, k⟩⟩
end
end CT
set_option Elab.async false
set_option linter.all false
set_option maxRecDepth 100000
set_option maxHeartbeats 400000
/-! RAISED EXCEPTIONS: calls and defs -/
namespace CT
open PySem PySem.Spec PySem.W L2
open PyProof.Rows hiding St
abbrev xk (R : St → Addr → Hp → Prop) (σ : St) : XK := fun e _ H' => ∃ a, e = .ref a ∧ R σ a H'
section
variable {X : Cx} {pins pins' : List (Addr × Obj)} {R : St → Addr → Hp → Prop} {k : Nat} {f C : Addr} {fd : FuncData} {ps : List Str} {sp : Sp} {x m : Str} {p pos apos : Pos} {e o : Expr} {es : List Expr} {ta : TE} {t : TA} {σ : St} {H : Hp} {s s' : Shared} {Q : VK}
/-- an exception comes out of a call -/
theorem out_of_call {e : Value} (I : Inv (X.xw pins R) pins' σ H s) (h : CXA X.prog X.w X.stack H s (xk R σ) e s') : (X.xw pins R).xe e s' := by
  obtain ⟨a, H', C, dx, rfl, os, bare, un, hok, ha, ⟨oe, vs, T, oT, ts, fl, h1, h2, h3, h4, h5, h6, h7, h8, h9⟩, a', ea, hR⟩ := h
  cases ea
  have I' : Inv (X.xw pins R) pins' σ H' s' := I.call' (ch := []) os un hok bare fun b z => nomatch z
  have lo := I.loose (T := T) h4
  exact ⟨σ, a, H', C, dx, rfl, I'.xwp, ha, ⟨oe, vs, h1, h2, .inr ⟨T, oT, ts, fl, h3, (lo.same h5).re rfl rfl fun p h => List.mem_append_left _ (by simpa using h), h6, h7, h8, h9, trivial⟩⟩, hR⟩
theorem run_fnX {us : List Value} {vs : List V} (F : FnOk X.prog X.w X.K X.mg X.base (CXA X.prog X.w) k f fd ps sp) (hr : Room k X.A) (hb : Binds X.K fd ps []) (I : Inv (X.xw pins R) pins' σ H s) (r : Vals vs us) (h : sp vs H Q (xk R σ)) :
    wpAny (model X.prog X.w) X.A (call (.ref f) us) (EP (X.xw pins R) pins' σ Q) (X.xw pins R).xe s := by
  have hl : (us ++ []).length = ps.length := by rw [List.append_nil, ← r.length]; exact F.len _ _ _ _ h
  refine wpAny_call (codeAny_mono (F.run X.A X.stack s H ⟨us, []⟩ us vs Q (xk R σ) hr I.env0 (by have := hb s us I.kIn hl; rw [List.append_nil] at this; exact this) r h) fun r s' hq => ?_)
  cases r with
  | error e => exact out_of_call I hq
  | ok fl =>
    cases fl with
    | ret u => exact I.after hq
    | next => exact False.elim hq
    | brk => exact False.elim hq
    | cont => exact False.elim hq
theorem pex_call (F : FnOk X.prog X.w X.K X.mg X.base (CXA X.prog X.w) k f fd ps sp) (hr : Room k X.A) (hg : Gl X x) (hm : X.mg x = some (.ref f)) (hk : PySem.W.keepIn X.K (.ref f) = true) (hb : Binds X.K fd ps [])
    (ha : PA (X.xw pins R) (e :: es) t) (hdb : (x == ("__debug__" : Str)) = false := by decide) (he : starEach (e :: es) X.env = (false, eval e X.env) :: starEach es X.env := by rfl) (hpl : (backTo pos (starEach es X.env)).any (·.1) = false := by rfl) :
    PE (X.xw pins R) (.Call (.Name x p) (e :: es) [] pos) (fun σ H Q => t σ H fun vs H1 => sp vs H1 Q (xk R σ)) := by
  intro pins' s σ H Q I h
  refine wpAny_Call_Name_kw (ld_glob I hg hm ?_ hdb)
  refine PySem.W.callWith_K (h₀ := X.base) I.ok.mod.kin hk (thn (ha pos pins' s σ H _ I h) fun us s1 ⟨vs, H1, I1, r, q⟩ => ⟨I1.kIn, ?_⟩) he hpl
  exact run_fnX F hr hb I1 r q
theorem pex_meth {pl : Sem Bool} (he : PE (X.xw pins R) o ta) (c : Cls X.K C) (hm : Meth X.K C m f) (F : FnOk X.prog X.w X.K X.mg X.base (CXA X.prog X.w) k f fd ps sp) (hr : Room k X.A) (hb : Binds X.K fd ps []) (ha : PA (X.xw pins R) (e :: es) t)
    (hst : starEach (e :: es) X.env = (false, eval e X.env) :: starEach es X.env := by rfl) (hpl : (backTo pos (starEach es X.env)).any (·.1) = false := by rfl)
    (ht : eval (.Call (.Attribute o m apos) (e :: es) [] pos) X.env = (do
      let ov ← eval o X.env
      standAt apos.atName
      let (f, first) ← holding [ov] (getMethod ov m pl)
      callWith pos f first (backTo pos (starEach (e :: es) X.env)) (backToKw pos (keywordEach [] X.env))) := by rfl) :
    PE (X.xw pins R) (.Call (.Attribute o m apos) (e :: es) [] pos) (fun σ H Q => ta σ H fun x H1 => ∃ a dx fs, x = .ref a ∧ H1 a = some (.ins C dx fs) ∧ fs.lookup m = none ∧ t σ H1 fun vs H2 => sp (x :: vs) H2 Q (xk R σ)) := by
  intro pins' s σ H Q I h
  refine PySem.W.methodCall_KW (pl := pl) (thn (he pins' s σ H _ I h) fun u s1 ⟨x, H1, I1, rx, a, dx, fs, ex, ea, l, q⟩ => ?_) ht
  subst ex
  obtain rfl : u = Value.ref a := rx
  refine getmeth_ok I1 ea c hm l ?_
  refine PySem.W.callWith_K (first := [.ref a]) (h₀ := X.base) I.ok.mod.kin hm.kp (thn (ha pos pins' s1 σ H1 _ I1 q) fun us s2 ⟨vs, H2, I2, r, q2⟩ => ⟨I2.kIn, ?_⟩) hst hpl
  exact run_fnX (us := .ref a :: us) (vs := .ref a :: vs) F hr hb I2 (.cons rfl r) q2
end
/-! ### promises that may be an exception -/
inductive Res where
  | ok (d : D) | xc (d : D)
def spR (K : Frag) (P : List D → Res → Prop) : Sp := fun vs H Q E => ∃ S ds r, Dom H S ∧ RdsL K H S ds vs ∧ P ds r ∧ (∀ d, r = .ok d → ∀ v H', Ext0 H H' → Rds K H' S d v → Q v H') ∧ ∀ d, r = .xc d → ∀ a H', Ext0 H H' → H a = none → Rds K H' S d (.ref a) → E (.ref a) none H'
section
variable {P : Program} {w : World} {K : Frag} {mg : Str → Option Value} {base : Heap} {x qual : Str} {st : Stmt} {f : Addr} {fd : FuncData} {N ps : List Str} {k : Nat} {sp : Sp} {CX : CXT}
theorem FnOk.any (F : FnOk P w K mg base CX0 k f fd ps sp) : FnOk P w K mg base CX k f fd ps sp :=
  ⟨F.len, fun A outer s H args us vs Q E hr he hb hv hs => codeAny_mono (F.run A outer s H args us vs Q E hr he hb hv hs) fun r s' z => by cases r with | error e => exact False.elim z | ok fl => (cases fl <;> exact z)⟩
/-- where no exception comes -/
theorem FnOk.okD {Pr : List D → Res → Prop} (F : FnOk P w K mg base (CXA P w) k f fd ps (spR K Pr)) : FnOk P w K mg base CX0 k f fd ps (spD K fun ds d => Pr ds (.ok d)) := by
  have key : ∀ vs H Q E, spD K (fun ds d => Pr ds (.ok d)) vs H Q E → spR K Pr vs H Q E0 := fun vs H Q E ⟨S, ds, d, dm, r, p, kk⟩ => ⟨S, ds, .ok d, dm, r, p, fun d' e => by cases e; exact kk, fun d' e => nomatch e⟩
  exact ⟨fun vs H Q E h => F.len _ _ _ _ (key vs H Q E h), fun A outer s H args us vs Q E hr he hb hv hs => codeAny_mono (F.run A outer s H args us vs Q E0 hr he hb hv (key _ _ _ _ hs)) fun r s' z => by
    cases r with
    | error e => obtain ⟨_, _, _, _, _, _, _, _, _, _, _, h⟩ := z; exact h
    | ok fl => cases fl <;> exact z⟩
theorem _root_.L2.Fun.okC (F : Fun K x qual st f fd) (S : FnScope N ps (defScope st)) (len : ∀ vs H Q E, sp vs H Q E → vs.length = ps.length)
    (hbody : ∀ (cdv : Value) (A : Around) (outer : List Env) (s : Shared) (H : Hp) (vs : List V) (Q : VK) (E : XK), Room k (A.deeper (envOfC qual (defScope st) s.heap.objs.size f cdv)) → sp vs H Q E →
      ∃ t, PSs (cxOf CX P w K mg base N qual (defScope st) f cdv A outer s H E) (defBody st) t ∧ t { nx := fun _ H' => Q .non H', rt := Q } (start N vs) H) : FnOk P w K mg base CX (k + 1) f fd ps sp := by
  obtain ⟨oc, od, kV, doc, pm, an, cdv, ct, osl, rfl, lk, hcd⟩ := F.ex
  exact fn_of lk hcd S len fun A outer s H vs Q E hr hsp => hbody cdv A outer s H vs Q E hr hsp
/-- the frame is left with an exception -/
theorem leave_cx {N : List Str} {scope : Scope} {cd : Value} {A : Around} {outer : List Env} {s s' : Shared} {H H' : Hp} {E : XK} {pins : List (Addr × Obj)} {σ : St} {a C : Addr} {dx : Option Addr}
    (I : Inv (cxOf (CXA P w) P w K mg base N qual scope f cd A outer s H E) pins σ H' s') (ha : H' a = some (ExcIs false a C dx)) (t : Trail (cxOf (CXA P w) P w K mg base N qual scope f cd A outer s H E) pins H' s'.heap a anyFl) (hE : E (.ref a) none H') :
    (cxOf (CXA P w) P w K mg base N qual scope f cd A outer s H E).xe (.ref a) s' := by
  show wpAny _ _ (leaving _ _) _ _ _
  unfold leaving
  have eH : upd H' a (ExcIs false a C dx) = H' := by
    funext b; unfold upd; split
    · rename_i z; rw [z, ha]
    · rfl
  refine wpAny_bind (note_ok I I.ok.frames rfl rfl ha t fun s1 I1 t1 => ?_)
  rw [eH] at I1 t1
  refine flight_ok I1 t1 fun s2 I2 t2 => ?_
  obtain ⟨oe, vs, h1, h2, q⟩ := t2
  rcases q with ⟨_, x, hx, hn⟩ | ⟨T, oT, ts, fl, z1, z2, z3, z4, z5, z6, _⟩
  · rw [hx] at hn; cases hn
  · exact ⟨a, H', C, dx, rfl, I2.os, I2.bare, I2.base, I2.hok, ha, ⟨oe, vs, T, oT, ts, fl, h1, h2, z1, z2.new, z2.free, z3, z4, z5, z6⟩, hE⟩
/-- a body that raises -/
theorem pss_out {cd : Value} {scope : Scope} {A : Around} {outer : List Env} {s : Shared} {H : Hp} {E : XK} {body : List Stmt} {ρ ρ' : Rho} {d : D} (h : DSXs (cxOf (CXA P w) P w K mg base N qual scope f cd A outer s H E).nox ρ body ρ' d) :
    PSs (cxOf (CXA P w) P w K mg base N qual scope f cd A outer s H E) body fun _ σ H => tSX K ρ ρ' d (fun _ a H' => E (.ref a) none H') σ H := by
  intro pins s1 σ H1 D I q
  refine wpAny_mono (h pins (fun _ a H' => E (.ref a) none H') [] s1 σ H1 ⟨fun _ _ => False, fun _ _ => False, fun _ _ => False, fun _ _ => False⟩ ((I.wish _).xw) q) (fun fl s' z => ?_) fun e s' z => ?_
  · cases fl with
    | next => obtain ⟨_, _, _, z⟩ := z; exact z.elim
    | brk => obtain ⟨_, _, _, z⟩ := z; exact z.elim
    | cont => obtain ⟨_, _, _, z⟩ := z; exact z.elim
    | ret u => obtain ⟨_, _, _, _, _, z⟩ := z; exact z.elim
  · obtain ⟨σ', a, H', C, dx, rfl, I', ha, t, hR⟩ := z
    refine leave_cx (pins := pins) (Inv.unwish (E := fun _ _ => False) I'.pxw) ha (t.re rfl rfl fun p hp => ?_) hR
    exact List.mem_append_left _ hp
theorem fn_R {Pr : List D → Res → Prop} (F : Fun K x qual st f fd) (S : FnScope N ps (defScope st)) (len : ∀ ds r, Pr ds r → ds.length = ps.length)
    (hb : ∀ (cdv : Value) (A : Around) (outer : List Env) (s : Shared) (H : Hp) (E : XK) (ds : List D) (d : D), Room k (A.deeper (envOfC qual (defScope st) s.heap.objs.size f cdv)) → Pr ds (.ok d) →
      ∃ o, OutV o d ∧ DSs (cxOf (CXA P w) P w K mg base N qual (defScope st) f cdv A outer s H E).nox (startR N ds) (defBody st) o)
    (hx : ∀ (cdv : Value) (A : Around) (outer : List Env) (s : Shared) (H : Hp) (E : XK) (ds : List D) (d : D), Room k (A.deeper (envOfC qual (defScope st) s.heap.objs.size f cdv)) → Pr ds (.xc d) →
      ∃ ρ', DSXs (cxOf (CXA P w) P w K mg base N qual (defScope st) f cdv A outer s H E).nox (startR N ds) (defBody st) ρ' d) : FnOk P w K mg base (CXA P w) (k + 1) f fd ps (spR K Pr) := by
  refine F.okC S (fun vs H Q E ⟨S, ds, d, dm, r, p, kk⟩ => by rw [← r.length]; exact len ds d p) fun cdv A outer s H vs Q E hr ⟨S', ds, r, dm, rs, p, k1, k2⟩ => ?_
  cases r with
  | ok d =>
    obtain ⟨o, ov, h⟩ := hb cdv A outer s H E ds d hr p
    refine ⟨_, PSs.nox h, H, S', S', start_fm dm rs, ?_⟩
    cases o with
    | rt d' => cases ov; exact k1 _ rfl
    | nx ρ' => cases ov; exact fun σ' H' S'' f => k1 _ rfl .non H' f.ext .non
    | rfx c => cases ov; exact fun a vs H' ex hn ha r' => k1 _ rfl _ H' ex ((r'.av fun b h => .inl (.inl h)).rds ha (dm.not hn))
  | xc d =>
    obtain ⟨ρ', h⟩ := hx cdv A outer s H E ds d hr p
    exact ⟨_, pss_out h, H, S', S', start_fm dm rs, fun σ' a H' S'' f hn r => k2 d rfl a H' f.ext hn (f.out r)⟩
end
end CT
set_option Elab.async false
set_option linter.all false
set_option maxRecDepth 100000
set_option maxHeartbeats 400000
/-! RAISED EXCEPTIONS: calls by data, __init__ that raises -/
namespace CT
open PySem PySem.Spec PySem.W L2
open PyProof.Rows hiding St
section
variable {X : Cx} {ρ : Rho} {k : Nat} {f C : Addr} {fd : FuncData} {ps : List Str} {x m : Str} {p pos apos : Pos} {e o : Expr} {es : List Expr} {ds : List D} {d : D}
theorem dex_call {Pr : List D → Res → Prop} (F : FnOk X.prog X.w X.K X.mg X.base (CXA X.prog X.w) k f fd ps (spR X.K Pr)) (hr : Room k X.A) (hg : Gl X x) (hm : X.mg x = some (.ref f)) (hk : PySem.W.keepIn X.K (.ref f) = true) (hb : Binds X.K fd ps [])
    (ha : DA X ρ (e :: es) ds) (hp : Pr ds (.xc d)) (hx : ∀ e s, ¬ X.xe e s := by intro _ _ z; exact z) (hdb : (x == ("__debug__" : Str)) = false := by decide) (he : starEach (e :: es) X.env = (false, eval e X.env) :: starEach es X.env := by rfl) (hpl : (backTo pos (starEach es X.env)).any (·.1) = false := by rfl) :
    DEX X ρ (.Call (.Name x p) (e :: es) [] pos) d := fun pins R => PE.weak (pex_call F hr hg hm hk hb (PA.xw ha hx) hdb he hpl) fun σ H Q ⟨S, ve, kk⟩ => ⟨S, ve, fun vs H' ex r =>
      ⟨S, ds, .xc d, (ve.ext ex).dom, r, hp, (fun d' e => nomatch e), fun d' e a H'' ex' hn r' => ⟨a, rfl, by cases e; exact kk a H'' (ex.trans ex') (ex.back hn) r'⟩⟩⟩
theorem dex_meth {Pr : List D → Res → Prop} {fs : List (Str × D)} {pl : Sem Bool} (ho : DE X ρ o (.ins C fs)) (hl : fs.lookup m = none) (c : Cls X.K C) (hm : Meth X.K C m f) (F : FnOk X.prog X.w X.K X.mg X.base (CXA X.prog X.w) k f fd ps (spR X.K Pr)) (hr : Room k X.A) (hb : Binds X.K fd ps [])
    (ha : DA X ρ (e :: es) ds) (hp : Pr (.ins C fs :: ds) (.xc d)) (hx : ∀ e s, ¬ X.xe e s := by intro _ _ z; exact z) (hst : starEach (e :: es) X.env = (false, eval e X.env) :: starEach es X.env := by rfl) (hpl : (backTo pos (starEach es X.env)).any (·.1) = false := by rfl)
    (ht : eval (.Call (.Attribute o m apos) (e :: es) [] pos) X.env = (do
      let ov ← eval o X.env
      standAt apos.atName
      let (f, first) ← holding [ov] (getMethod ov m pl)
      callWith pos f first (backTo pos (starEach (e :: es) X.env)) (backToKw pos (keywordEach [] X.env))) := by rfl) :
    DEX X ρ (.Call (.Attribute o m apos) (e :: es) [] pos) d := fun pins R => PE.weak (pex_meth (PE.xw ho hx) c hm F hr hb (PA.xw ha hx) hst hpl ht) fun σ H Q ⟨S, ve, kk⟩ => ⟨S, ve, fun v H1 ex1 r1 => by
      obtain ⟨a, dx, gs, rfl, hh, rf⟩ := r1.insV
      exact ⟨a, dx, gs, rfl, hh, rf.none hl, S, ve.ext ex1, fun vs H' ex r => ⟨S, _, .xc d, ((ve.ext ex1).ext ex).dom, .cons (r1.ext (ex.to S)) r, hp, (fun d' e => nomatch e), fun d' e a H'' ex' hn r' => ⟨a, rfl, by
        cases e; exact kk a H'' (ex1.trans (ex.trans ex')) (ex1.back (ex.back hn)) r'⟩⟩⟩⟩
end
/-- __init__ that may raise -/
inductive ResI where
  | ok (fs : List (Str × D)) | xc (d : D)
end CT
set_option Elab.async false
set_option linter.all false
set_option maxRecDepth 100000
set_option maxHeartbeats 400000
/-! RAISED EXCEPTIONS: raise, try -/
namespace CT
open PySem PySem.Spec PySem.W L2
open PyProof.Rows hiding St
section
variable {K : Frag} {C CE : Addr} {h : Heap} {M : Model}
theorem looks_isTypeC (X : K.In h) {cd : ClassData} (hc : clsIn K C = some cd) : Looks M h (isType (.ref C)) true := by
  unfold clsIn at hc
  split at hc
  · rename_i ho
    intro A' Q' E' s' k q
    unfold isType loadHead
    exact wpAny_bind (wpAny_loadPart (k _ _ (X _ _ ho)) (wpAny_pure q))
  · cases hc
theorem looks_isTypeE {a : Addr} {c : Value} {dd : Option Addr} {vs : Array Value} {sl : Array (Option Value)} (ho : h.get? a = some ⟨c, dd, .fields vs, sl⟩) : Looks M h (isType (.ref a)) false := by
  intro A' Q' E' s' k q
  unfold isType loadHead
  exact wpAny_bind (wpAny_loadPart (k _ _ ho) (wpAny_pure q))
end
section
variable {X : Cx} {pins pins' : List (Addr × Obj)} {R : St → Addr → Hp → Prop} {e : Expr} {t : TE} {pos : Pos}
/-- raise e -/
theorem ps_raise (he : PE (X.xw pins R) e t) (hh : X.A.handled = none) : PS (X.xw pins R) (.Raise (some e) none pos) (fun D σ H => t σ H fun x H1 => ∃ a C dx, x = .ref a ∧ H1 a = some (ExcIs true a C dx) ∧ XCls X.K C ∧ typeIn X.K (.ref C) = some (.type "type") ∧ R σ a (upd H1 a (ExcIs false a C dx))) := by
  intro pins' s σ H D I h
  rw [arm_exec_Raise]
  refine wpAny_bind (wpAny_standAt ?_)
  show wpAny _ _ (raiseStmt _ (some (do let v ← eval e X.env; standAt pos; pure v)) none) _ _ _
  unfold raiseStmt
  refine wpAny_bind (wpAny_bind (thn (he pins' s σ H _ I h) fun xv s1 ⟨x, H1, I1, rx, a, C, dx, ex, ha, c, ty, hR⟩ => wpAny_bind (wpAny_standAt (wpAny_pure ?_))))
  subst ex
  obtain rfl : xv = Value.ref a := rx
  obtain ⟨vs, ho, hz, hf⟩ := exc_at (I1.hok a _ ha)
  have h1 : vs[1]? = some .none := hf rfl
  have T0 : Looks (model X.prog X.w) s1.heap (isType (.ref a)) false := looks_isTypeE ho
  have T1 : Looks (model X.prog X.w) s1.heap (typeOf (.ref a)) (.ref C) := (Looks.ld ho).andThen .now
  have T2 : Looks (model X.prog X.w) s1.heap (isSubtype (.ref C) (.type "BaseException")) true := looks_mroIn I1.kIn (c.mro (by decide))
  have T3 : Looks (model X.prog X.w) s1.heap (typeOf (.ref C)) (.type "type") := looks_typeIn I1.kIn ty
  refine wpAny_bind (wpAny_pure (wpAny_bind (wpAny_holding ?_)))
  unfold excFromValue isExcClass
  refine wpAny_bind (wpAny_bind (T0.here (wpAny_pure ?_)))
  rw [if_neg (by decide)]
  unfold isInstance
  refine wpAny_bind (wpAny_bind (T1.here (T2.here ?_)))
  rw [if_pos rfl]
  refine wpAny_pure (wpAny_bind (T0.here ?_))
  rw [if_neg (by decide)]
  unfold raisedInstance
  refine wpAny_bind (wpAny_bind (T1.here (wpAny_bind (T3.here ?_))))
  rw [if_pos (show (Value.type "type" == Value.type "type") = true from by simp)]
  refine wpAny_pure ?_
  have tr : Trail (X.xw pins R) pins' H1 s1.heap a (fun _ => True) := ⟨_, vs, ho, rfl, .inl ⟨h1, trivial⟩⟩
  refine wpAny_bind (flight_ok I1 tr fun s2 I2 t2 => ?_)
  refine wpAny_raiseNew_none hh ?_
  obtain ⟨vs2, ho2, hz2, hf2⟩ := exc_at (I2.hok a _ ha)
  have I3 := I2.excAt (fr' := false) (t' := s2.toks) (h' := s2.heap) ha (fun b o _ q => q) ho2 hz2 (fun z => nomatch z)
  refine ⟨σ, a, _, C, dx, rfl, I3.xwp, upd_same, ⟨_, vs2, ho2, rfl, .inl ⟨hf2 rfl, trivial⟩⟩, hR⟩
end
section
variable {X : Cx} {ρ : Rho} {k : Nat} {f C : Addr} {fd : FuncData} {ps : List Str} {x : Str} {p pos cpos : Pos} {e : Expr} {es : List Expr} {ds : List D}
/-- raise C() -/
theorem dsx_raise0 (hm : PySem.W.excIn X.K C bmV "ValueError.__new__" = true) (hk : PySem.W.keepIn X.K (.ref C) = true) (hg : Gl X x) (hx : X.mg x = some (.ref C)) (hc : XCls X.K C) (ty : typeIn X.K (.ref C) = some (.type "type")) (hh : X.A.handled = none)
    (hdb : (x == ("__debug__" : Str)) = false := by decide) : DSX X ρ (.Raise (some (.Call (.Name x p) [] [] cpos)) none pos) ρ (.exc C []) := fun pins R =>
  PS.weak (ps_raise (pe_x0 (X := X.xw pins R) hm hk hg hx hdb) hh) fun E σ H ⟨H₀, S₀, S, f, kk⟩ a ha => ⟨a, C, none, rfl, upd_same, hc, ty, by
    rw [upd_upd]
    exact kk σ a _ S (f.grow (Ext.new ha)) (f.ext.back ha) (.exc0 upd_same (f.ve.dom.not ha))⟩
end
/-! ### try -/
/-- within a handler -/
abbrev _root_.L2.Cx.inH (X : Cx) (a : Addr) : Cx := { X with A := X.A.mark (some (.ref a)), calm := false }
theorem _root_.L2.Inv.inH {X : Cx} {pins : List (Addr × Obj)} {σ : St} {H : Hp} {s : Shared} {a : Addr} (I : Inv X pins σ H s) : Inv (X.inH a) pins σ H s :=
  ⟨⟨I.ok.mod, I.ok.kind, I.ok.glob, I.ok.blt, I.ok.above, I.ok.inj, I.ok.has, I.ok.cab, (fun z => nomatch z), I.ok.frames, I.ok.stk, I.ok.exf, I.ok.bs, I.ok.bsz, I.ok.noex, I.ok.exfs, I.ok.funs, I.ok.frf⟩, I.os, I.bare, I.base, I.loc, I.cell, I.free, I.freeC, I.pin, I.hok, I.len⟩
theorem _root_.L2.Inv.unH {X : Cx} {pins : List (Addr × Obj)} {σ : St} {H : Hp} {s : Shared} {a : Addr} (ok : X.Ok) (I : Inv (X.inH a) pins σ H s) : Inv X pins σ H s := ⟨ok, I.os, I.bare, I.base, I.loc, I.cell, I.free, I.freeC, I.pin, I.hok, I.len⟩
section
variable {X : Cx} {pins : List (Addr × Obj)} {σ : St} {H : Hp} {s : Shared} {a C CE : Addr} {dx : Option Addr} {A : Around} {E : Value → Shared → Prop}
/-- what the caught class must have -/
structure XTop (K : Frag) (CE : Addr) : Prop where
  cl : ∃ cd, clsIn K CE = some cd
  ty : typeIn K (.ref CE) = some (.type "type")
  be : mroIn K CE (.type "BaseException") = some true
theorem matches_ok {b fr : Bool} {Q : Bool → Shared → Prop} (I : Inv X pins σ H s) (ha : H a = some (ExcIs fr a C dx)) (c : XTop X.K CE) (hm : mroIn X.K C (.ref CE) = some b) (h : Q b s) : wpAny (model X.prog X.w) A (excMatches (.ref a) (.ref CE)) Q E s := by
  obtain ⟨vs, ho, hz, hf⟩ := exc_at (I.hok a _ ha)
  obtain ⟨cd, hcd⟩ := c.cl
  have T1 : Looks (model X.prog X.w) s.heap (typeOf (.ref a)) (.ref C) := (Looks.ld ho).andThen .now
  have T2 : Looks (model X.prog X.w) s.heap (isSubtype (.ref CE) (.type "BaseException")) true := looks_mroIn I.kIn c.be
  have T3 : Looks (model X.prog X.w) s.heap (typeOf (.ref CE)) (.type "type") := looks_typeIn I.kIn c.ty
  have T4 : Looks (model X.prog X.w) s.heap (isType (.ref CE)) true := looks_isTypeC I.kIn hcd
  have T5 : Looks (model X.prog X.w) s.heap (isSubtype (.ref C) (.ref CE)) b := looks_mroIn I.kIn hm
  have T6 : Looks (model X.prog X.w) s.heap (isSubtype (.type "type") (.type "tuple")) false := by rw [tc_notTuple]; exact .now
  obtain ⟨hp, g, d, tk, os⟩ := s
  unfold excMatches isInstance isExcClass
  cases b with
  | true => repeat (first | exact h | lk)
  | false => repeat (first | exact h | lk)
/-- a local name is forgotten -/
theorem _root_.L2.Inv.unset {i : Nat} {n : Str} {h' : Heap} {t' : Nat} (I : Inv X pins σ H s) (hN : X.N.Nodup) (hi : X.N[i]? = some n) (hs : Heap.SameBut X.env.locals s.heap h') (hn : ∀ m, s.heap.Ns X.env.locals m → ∃ v, h'.Ns X.env.locals (fun x => if x = n then v else m x)) :
    Inv X pins (σ.set i none) H { s with heap := h', toks := t' } := by
  obtain ⟨m, hm, hl⟩ := id I.loc
  obtain ⟨v, hn'⟩ := hn m hm
  obtain ⟨oL, _, _, hoL, _⟩ := id hm
  have hiσ : i < σ.length := by rw [I.len]; exact (List.getElem?_eq_some_iff.mp hi).1
  have cne := I.cne
  refine ⟨I.ok, I.os, I.bare, ⟨fun b o e n hb hx => ?_, fun b o e n hb hx => ?_, I.base.free, fun b o e hx => ?_, I.base.tups, I.base.frzs, I.base.tbls⟩, ⟨_, hn', fun j y v' e1 e2 e3 => ?_⟩, fun y c e => ?_, I.free, I.freeC, fun p hp => ?_, fun b ob e => ?_, by simpa using I.len⟩
  · exact (hs.2 b (Nat.ne_of_lt (Nat.lt_of_lt_of_le (Heap.lt_size e) I.ok.above))).trans (I.base.keep b o e n hb hx)
  · obtain ⟨sl, e1⟩ := I.base.slot b o e n hb hx
    exact ⟨sl, (hs.2 b (Nat.ne_of_lt (Nat.lt_of_lt_of_le (Heap.lt_size e) I.ok.above))).trans e1⟩
  · obtain ⟨o', e1⟩ := I.base.there b o e hx
    exact ⟨o', (hs.2 b (Nat.ne_of_lt (Nat.lt_of_lt_of_le (Heap.lt_size e) I.ok.above))).trans e1⟩
  · by_cases hj : j = i
    · subst hj
      rw [List.getElem?_set_self hiσ] at e2
      cases e2
    · rw [List.getElem?_set_ne (Ne.symm hj)] at e2
      obtain ⟨u', r', q⟩ := hl j y v' e1 e2 e3
      refine ⟨u', r', ?_⟩
      rcases q with ⟨k, e⟩ | ⟨k, c, e, z⟩
      · refine .inl ⟨k, ?_⟩
        have : y ≠ n := fun e => hj (nodup_ix hN e1 (e ▸ hi))
        simp [this, e]
      · exact .inr ⟨k, c, e, z.sameBut hs (cne y c e)⟩
  · obtain ⟨w', z⟩ := I.cell y c e
    exact ⟨w', z.sameBut hs (cne y c e)⟩
  · obtain ⟨e, n, ne, nf, d⟩ := I.pin p hp
    exact ⟨(hs.2 p.1 ne).trans e, n, ne, nf, d⟩
  · refine (I.hok b ob e).stay (fun c w' hc q => (hs.2 c ?_).trans q) (fun _ q => q) fun _ _ q => q
    rintro rfl
    rcases hc with rfl | hc
    · rw [I.free] at e; cases e
    · rw [I.free] at hc; cases hc
theorem name_goes {M : Model} {i : Nat} {n : Str} {pos : Pos} {Q : Unit → Shared → Prop} (I : Inv X pins σ H s) (hN : X.N.Nodup) (hi : X.N[i]? = some n) (hl : X.env.scope.names.lookup n = some .local) (h : ∀ s', Inv X pins (σ.set i none) H s' → Q () s') :
    wpAny M A (do bindName X.env n .none; unbindBehindTheSuite X.env n pos) Q E s := by
  have hcls : (X.env.scope.kind == .class || (X.env.scope.kind == .module && X.env.locals != X.env.globals)) = false := by rw [I.ok.kind]; rfl
  have hk : X.env.kindOf n = some .local := hl
  refine wpAny_bind (wpAny_bindName (store_ok I hN hi (.inl hl) (v := .non) rfl (fun s1 I1 => ?_) (.inr hl)))
  unfold unbindBehindTheSuite
  refine wpAny_onRaise ?_
  unfold unbindName
  refine wpAny_bind (wpAny_point (wpAny_bind ?_))
  unfold deleteName
  simp only [hk, hcls]
  rw [if_neg (by decide)]
  obtain ⟨m, hm, hlk⟩ := id I1.loc
  have hiσ : i < σ.length := by rw [I.len]; exact (List.getElem?_eq_some_iff.mp hi).1
  obtain ⟨u, ru, q⟩ := hlk i n .non hi (List.getElem?_set_self hiσ) (.inl hl)
  have hmn : (m n).isSome = true := by
    rcases q with ⟨_, e⟩ | ⟨z, _⟩
    · rw [e]; rfl
    · rw [hk] at z; rcases z with z | z <;> cases z
  refine wpAny_bind (wpAny_nsDel_keeps hm fun h₂ v hn₂ hs₂ => ?_)
  rw [hmn]
  simp only [Bool.not_true, Bool.false_eq_true, if_false]
  refine wpAny_pure (wpAny_point (h _ ?_))
  have := Inv.unset (t' := s1.toks) I1 hN hi hs₂ fun m' hm' => ⟨v, by rw [Heap.Ns.eq_nsMap hm', ← Heap.Ns.eq_nsMap hm]; exact hn₂⟩
  rw [List.set_set] at this
  exact this
end
/-- a slot forgotten -/
def Out.unset (i : Nat) : Out → Out
  | .nx ρ => .nx (ρ.set i .nil)
  | o => o
section
variable {X : Cx} {ρ ρ1 ρ2 : Rho} {body suite : List Stmt} {b₀ : Stmt} {C CE : Addr} {fs : List (Str × D)} {c n : Str} {i : Nat} {cp hp pos : Pos} {o : Out} {hs : List ExceptHandler} {hd : ExceptHandler}
/-- nothing is raised -/
theorem ds_tryOk (h : DSs X ρ body o) (hx : ∀ e s, ¬ X.xe e s := by intro _ _ z; exact z) : DS X ρ (.Try body (hd :: hs) [] [] pos) o := fun pins s σ H D I q => by
  refine wpAny_Try_except (wpAny_mono (h pins s σ H D I q) (fun f s' z => ?_) fun e s' z => absurd z (hx e s'))
  cases f with
  | next => exact wpAny_execs_nil z
  | brk => exact z
  | cont => exact z
  | ret u => exact z
theorem upd_same_eq {H : Hp} {a : Addr} {o : HO} (h : H a = some o) : upd H a o = H := by
  funext b; unfold upd; split
  · rename_i z; rw [z, h]
  · rfl
theorem Fm.unset {K : Frag} {H₀ H : Hp} {S₀ S : Ad} {ρ : Rho} {σ : St} {i : Nat} (f : Fm K H₀ S₀ H S ρ σ) : Fm K H₀ S₀ H S (ρ.set i .nil) (σ.set i none) := by
  have key : ∀ (j : Nat) (x : Sl), (ρ.set i .nil)[j]? = some x → (i = j ∧ x = .nil) ∨ (i ≠ j ∧ ρ[j]? = some x) := fun j x h => by
    by_cases hj : i = j
    · subst hj
      have hi := (List.getElem?_eq_some_iff.mp h).1
      rw [List.getElem?_set_self (by simpa using hi)] at h
      cases h; exact .inl ⟨rfl, rfl⟩
    · rw [List.getElem?_set_ne hj] at h; exact .inr ⟨hj, h⟩
  refine ⟨⟨by simpa using f.ve.len, fun j x h => ?_, fun j k x y a hjk h1 h2 o1 o2 h3 => ?_, f.ve.dom⟩, f.ext, f.sub, f.new, f.dm, fun j x a h o h2 => ?_⟩
  · rcases key j x h with ⟨rfl, rfl⟩ | ⟨hj, h'⟩
    · have hi : i < ρ.length := by have := (List.getElem?_eq_some_iff.mp h).1; simpa using this
      exact ⟨none, List.getElem?_set_self (f.ve.len ▸ hi), rfl⟩
    · rw [List.getElem?_set_ne hj]
      exact f.ve.rel j x h'
  · rcases key j x h1 with ⟨rfl, rfl⟩ | ⟨hj, h1'⟩
    · exact o1.elim
    · rcases key k y h2 with ⟨rfl, rfl⟩ | ⟨hk, h2'⟩
      · exact o2.elim
      · rw [List.getElem?_set_ne hj] at h3
        rw [List.getElem?_set_ne hk]
        exact f.ve.dist j k x y a hjk h1' h2' o1 o2 h3
  · rcases key j x h with ⟨rfl, rfl⟩ | ⟨hj, h'⟩
    · exact o.elim
    · rw [List.getElem?_set_ne hj] at h2
      exact f.own j x a h' o h2
/-- try: .. except CE as n: .. -/
theorem ds_tryAs (hst : X.stack = X.env :: X.outer) (hfr : X.env.frame = some X.env.locals) (hb : DSXs X ρ body ρ1 (.exc C fs)) (hg : Gl X c) (hm : X.mg c = some (.ref CE)) (ct : XTop X.K CE) (hmr : mroIn X.K C (.ref CE) = some true)
    (hN : X.N.Nodup) (hi : X.N[i]? = some n) (hl : X.env.scope.names.lookup n = some .local) (hs : ∀ a, DSs (X.inH a) (ρ1.set i (.val (.exc C fs))) (b₀ :: suite) o) (hx : ∀ e s, ¬ X.xe e s := by intro _ _ z; exact z) (hdb : (c == ("__debug__" : Str)) = false := by decide) :
    DS X ρ (.Try body [.ExceptHandler (some (.Name c cp)) (some n) (b₀ :: suite) hp] [] [] pos) (o.unset i) := by
  intro pins s σ H D I ⟨H₀, S₀, S, f, kk⟩
  refine wpAny_Try_except (wpAny_mono (hb pins (fun σ' a H' => ∃ S', Fm X.K H₀ S₀ H' S' ρ1 σ' ∧ Rds X.K H' S' (.exc C fs) (.ref a)) [] s σ H ⟨fun _ _ => False, fun _ _ => False, fun _ _ => False, fun _ _ => False⟩ I.xw ⟨H₀, S₀, S, f, fun σ' a H' S' f' hn r => ⟨S', f', r⟩⟩)
    (fun fl s' z => ?_) fun e s' z => ?_)
  · cases fl with
    | next => obtain ⟨_, _, _, z⟩ := z; exact z.elim
    | brk => obtain ⟨_, _, _, z⟩ := z; exact z.elim
    | cont => obtain ⟨_, _, _, z⟩ := z; exact z.elim
    | ret u => obtain ⟨_, _, _, _, _, z⟩ := z; exact z.elim
  · obtain ⟨σ', a, H', C', dx, rfl, I', ha, tr, S', f', r⟩ := z
    have J : Inv X pins σ' H' s' := I'.pxw
    have eH := upd_same_eq ha
    obtain ⟨fr, dx', hr⟩ : ∃ fr dx', H' a = some (ExcIs fr a C dx') := by
      cases r with
      | exc0 h _ => exact ⟨_, _, h⟩
      | exc h _ _ _ _ => exact ⟨_, _, h⟩
    refine note_ok J J.ok.frames hst hfr ha (tr.re rfl rfl fun p hp => by simpa using hp) fun s1 I1 t1 => ?_
    rw [eH] at I1 t1
    refine flight_ok I1 t1 fun s2 I2 t2 => ?_
    refine wpAny_handleBy_cons (codeAny_handlers_test (ld_glob (X := X.inH a) I2.inH hg hm (matches_ok I2 hr ct hmr ?_) hdb)) (by intro q; cases q)
    refine codeAny_handlers_suite_as (flight_ok I2 t2 fun s3 I3 t3 => ?_)
    refine store_ok I3 hN hi (.inl hl) (v := .ref a) rfl (fun s4 I4 => ?_) (.inr hl)
    have kk' : OutK X.K H₀ S₀ ⟨fun σ H => D.nx (σ.set i none) H, D.rt, fun σ H => D.bk (σ.set i none) H, fun σ H => D.ct (σ.set i none) H⟩ o := by
      cases o with
      | nx ρ2 => exact fun σ5 H5 S5 f5 => kk _ H5 S5 f5.unset
      | rt d => exact kk
      | rfx xs => exact kk
    refine wpAny_mono (hs a pins s4 _ H' ⟨fun σ H => D.nx (σ.set i none) H, D.rt, fun σ H => D.bk (σ.set i none) H, fun σ H => D.ct (σ.set i none) H⟩ I4.inH ⟨H₀, S₀, S', f'.set r, kk'⟩) (fun fl s5 z => ?_) fun e s5 z => absurd z (hx e s5)
    cases fl with
    | next =>
      obtain ⟨σ5, H5, I5, q⟩ := z
      exact name_goes (I5.unH J.ok) hN hi hl fun s6 I6 => ⟨_, H5, I6, q⟩
    | brk =>
      obtain ⟨σ5, H5, I5, q⟩ := z
      exact name_goes (I5.unH J.ok) hN hi hl fun s6 I6 => ⟨_, H5, I6, q⟩
    | cont =>
      obtain ⟨σ5, H5, I5, q⟩ := z
      exact name_goes (I5.unH J.ok) hN hi hl fun s6 I6 => ⟨_, H5, I6, q⟩
    | ret u =>
      obtain ⟨v, σ5, H5, I5, rv, q⟩ := z
      exact name_goes (I5.unH J.ok) hN hi hl fun s6 I6 => ⟨v, _, H5, I6, rv, q⟩
end
end CT
set_option Elab.async false
set_option linter.all false
set_option maxRecDepth 100000
set_option maxHeartbeats 400000
/-! RAISED EXCEPTIONS: a for that is left by one -/
namespace CT
open PySem PySem.Spec PySem.W L2
open PyProof.Rows hiding St
section
variable {X : Cx} {pins : List (Addr × Obj)} {R : St → Addr → Hp → Prop}
/-- an exception passes the loop's own activation -/
theorem passes_xw (hst : X.stack = X.env :: X.outer) (hfr : X.env.frame = some X.env.locals) : PassesOwn (model X.prog X.w) X.A X.env (X.xw pins R).xe := by
  rintro e s' ⟨σ, a, H, C, dx, rfl, I, ha, t, hR⟩
  have eH := upd_same_eq ha
  show wpAny _ _ (noteFrame (.ref a) X.env) _ _ _
  refine note_ok (X := X.pnd pins) I I.ok.frames hst hfr ha t fun s1 I1 t1 => ?_
  rw [eH] at I1 t1
  unfold cameBackBy
  obtain ⟨oe, vs, h1, h2, q⟩ := id t1
  rcases q with ⟨_, z⟩ | ⟨T, oT, ts, fl, z1, _⟩
  · cases z
  refine wpAny_bind (wpAny_field h1 h2 z1 ?_)
  rw [if_neg (by simp)]
  refine flight_ok (X := X.pnd pins) I1 t1 fun s2 I2 t2 => ?_
  exact ⟨σ, a, H, C, dx, rfl, I2, ha, t2.imp fun _ _ => trivial, hR⟩
theorem FpOk.xw {pins' : List (Addr × Obj)} {H : Hp} {b : Addr} (h : FpOk X (pins ++ pins') H b) : FpOk (X.xw pins R) pins' H b :=
  ⟨h.1, h.2.1, h.2.2.1, h.2.2.2.1, h.2.2.2.2.1, fun p hp => h.2.2.2.2.2 p (by
    rcases List.mem_append.mp hp with hp | hp
    · rcases List.mem_append.mp hp with hp | hp
      · exact List.mem_append_left _ hp
      · exact List.mem_append_right _ (List.mem_append_left _ hp)
    · exact List.mem_append_right _ (List.mem_append_right _ hp))⟩
theorem PI.xw {tg iter : Expr} {wi : TI} (h : PI X tg iter wi) (hx : ∀ e s, ¬ X.xe e s) : PI (X.xw pins R) tg iter wi := fun pins' s σ H Q I hw =>
  wpAny_mono (h (pins ++ pins') s σ H Q I.unxw hw) (fun v s1 z => wpAny_mono z (fun u s2 ⟨it, fp, tn, J, H', e, I', tu, t0, fo, q⟩ => ⟨it, fp, tn, J, H', e, I'.toxw, tu, t0, fun b hb => FpOk.xw (fo b hb), q⟩) fun e s z => absurd z (hx e s)) fun e s z => absurd z (hx e s)
theorem PG.xw {tg : Expr} {t : TG} (h : PG X tg t) (hx : ∀ e s, ¬ X.xe e s) : PG (X.xw pins R) tg t := fun pins' s σ H v u Q I r hw =>
  wpAny_mono (h (pins ++ pins') s σ H v u Q I.unxw r hw) (fun _ s1 ⟨σ', H', I', q⟩ => ⟨σ', H', I'.toxw, q⟩) fun e s z => absurd z (hx e s)
theorem pss_both {sts : List Stmt} (hx : ∀ e s, ¬ X.xe e s) : PSs (X.xw pins R) sts (fun E σ H => (∃ ρ o, DSs X ρ sts o ∧ tDS X.K ρ o E σ H) ∨ ∃ ρ ρ' d, DSXs X ρ sts ρ' d ∧ tSX X.K ρ ρ' d R σ H) := fun pins' s σ H D I q => by
  rcases q with ⟨_, _, h, q⟩ | ⟨_, _, _, h, q⟩
  · exact PSs.xw h hx pins' s σ H D I q
  · exact h pins R pins' s σ H D I q
end
/-- the turns, the last one raises -/
inductive ForX (X : Cx) (tg : Expr) (body : List Stmt) (ρe : Rho) (de : D) : List D → Rho → Prop
  | here {d : D} {ds : List D} {ρ ρ1 : Rho} {ks : List Nat} : DG X tg ρ d ρ1 ks → TgOk ρ ρ1 ks → DSXs X ρ1 body ρe de → ForX X tg body ρe de (d :: ds) ρ
  | cons {d : D} {ds : List D} {ρ ρ1 ρ2 : Rho} {ks : List Nat} : DG X tg ρ d ρ1 ks → TgOk ρ ρ1 ks → DSs X ρ1 body (.nx ρ2) → ForX X tg body ρe de ds ρ2 → ForX X tg body ρe de (d :: ds) ρ
theorem dsx_for {X : Cx} {ρ ρe : Rho} {de : D} {tg iter : Expr} {body : List Stmt} {its : List D} {pos : Pos} (hst : X.stack = X.env :: X.outer) (hfr : X.env.frame = some X.env.locals) (hc : X.calm = true) (hi : DI X tg ρ iter its) (hb : ForX X tg body ρe de its ρ)
    (hx : ∀ e s, ¬ X.xe e s := by intro _ _ z; exact z) (hs : ∀ x, foldedSetIterable iter X.env x = pure x := by intro _; rfl) : DSX X ρ (.For tg iter body [] pos) ρe de := fun pins R => by
  refine PS.weak (ps_for (X := X.xw pins R) (passes_xw hst hfr) hc (PI.xw hi hx) (PG.xw (pg_A (G := DG X tg) fun _ _ _ _ h => h) hx) (pss_both (sts := body) hx) hs) ?_
  rintro E σ H ⟨H₀, S₀, S, f, k⟩
  refine ⟨S, f.ve, fun J H1 ex hJ => ?_⟩
  have f1 := f.grow ex
  obtain ⟨e0, fc⟩ := f1.cut
  refine ⟨fun i m σ' H' => ∃ S' ρ', Fm X.K (cutH H1 S S₀) S₀ H' S' ρ' σ' ∧ ForX X tg body ρe de (its.drop i) ρ' ∧ i ≤ its.length ∧ m = its.length - i, ⟨its.length, S, ρ, fc, by simpa using hb, Nat.zero_le _, by simp⟩, ?_⟩
  rintro i m σ' H' ⟨S', ρ', f', hf, hi', rfl⟩
  have ext1 : Ext S H1 H' := fun a u n h => f'.ext a u (fun z => z) (cutH_some h fun s => (n s).elim)
  have new1 : ∀ a, S' a → S a ∨ H1 a = none := fun a s => by
    rcases f'.new a s with z | z
    · exact .inl (f.sub a z)
    · by_cases q : S a
      · exact .inl q
      · cases h : H1 a with
        | none => exact .inr rfl
        | some u => rw [cutH_some h fun s => (q s).elim] at z; cases z
  obtain ⟨J1, J2⟩ := hJ H' S' ext1 new1 f'.ve.dom i
  by_cases hlt : i < its.length
  · have hd : its[i]? = some its[i] := by simp [hlt]
    obtain ⟨go, yld⟩ := J1 _ hd
    rw [List.drop_eq_getElem_cons hlt] at hf
    have rep : ∀ {ρ1 : Rho} {ks : List Nat} {x : V} {H2 : Hp}, J.yld i H' x H2 → DG X tg ρ' its[i] ρ1 ks → TgOk ρ' ρ1 ks → ∀ (R : St → Hp → Prop), (∀ σ2, Fm X.K (cutH H1 S S₀) S₀ H2 S' ρ1 σ2 → R σ2 H2) → gA X.K (DG X tg) x σ' H2 R := fun {ρ1 ks x H2} y hg htg R hR => by
      obtain ⟨e1, r1⟩ := yld x H2 y
      exact ⟨ρ', its[i], ρ1, ks, hg, S', (f'.grow e1).ve, r1, fun σ2 ve2 c => hR σ2 ((f'.grow e1).tgt ve2 c htg)⟩
    cases hf with
    | cons hg htg hbd hrest =>
      rename_i ρ1 ρ2 ks
      refine .inr ⟨go, fun σ2 H2 => ∃ S2, Fm X.K (cutH H1 S S₀) S₀ H2 S2 ρ2 σ2, fun σ2 H2 ⟨S2, f2⟩ => ⟨its.length - (i + 1), by omega, S2, ρ2, f2, hrest, hlt, rfl⟩, fun x H2 y => ?_⟩
      exact rep y hg htg _ fun σ2 f2 => .inl ⟨ρ1, _, hbd, _, _, S', f2, fun σ3 H3 S3 f3 => ⟨S3, f3⟩⟩
    | here hg htg hbd =>
      rename_i ρ1 ks
      refine .inr ⟨go, fun _ _ => False, fun _ _ z => z.elim, fun x H2 y => ?_⟩
      refine rep y hg htg _ fun σ2 f2 => .inr ⟨ρ1, ρe, de, hbd, _, _, S', f2, fun σ3 a H3 S3 f3 hn r => ?_⟩
      exact k σ3 a H3 S3 (f3.mono e0 f.dm) (e0.back hn) r
  · have e : i = its.length := by omega
    subst e
    rw [List.drop_length] at hf
    cases hf
end CT
set_option Elab.async false
set_option linter.all false
set_option maxRecDepth 100000
set_option maxHeartbeats 400000
/-! THE DATA LAYER: more: [v] * k, products of great numbers, dicts written out and held against dicts -/
namespace CT
open PySem PySem.Spec L2
open PyProof.Rows hiding St
section
variable {X : Cx} {ρ : Rho} {a b e : Expr} {d : D} {pos : Pos}
/-! ### great products -/
theorem intBits_le {k : Int} {n : Nat} (h : k.natAbs < 2 ^ n) : Builtin.Int.intBits k ≤ n := by
  unfold Builtin.Int.intBits
  split
  · exact Nat.zero_le _
  · rename_i hk
    have hp : k.natAbs ≠ 0 := fun z => hk (by simp [Int.natAbs_eq_zero.mp z])
    have := (Nat.log2_lt hp).mpr h
    omega
def CMulB (i j : Int) : Prop := i.natAbs < 2 ^ 100000 ∧ j.natAbs < 2 ^ 100000
theorem CMulB.ok {i j : Int} (h : CMulB i j) : IntMulOk i j := by
  have h1 := intBits_le h.1
  have h2 := intBits_le h.2
  have e : Builtin.Int.intTooBig (Builtin.Int.intBits i + Builtin.Int.intBits j) = false := by
    unfold Builtin.Int.intTooBig bitsLine
    refine decide_eq_false ?_
    have : (2 : Nat) ^ 27 = 134217728 := by decide
    rw [this]; omega
  unfold IntMulOk
  rw [e]; simp
/-! ### {} and {k: v} -/
theorem de_d0 : DE X ρ (.Dict [] [] pos) (.dct []) := PE.weak pe_dnewK fun σ H Q ⟨S, ve, kk⟩ p hp => kk _ _ (Ext.new hp) (.dK upd_same (ve.dom.not hp) rfl .nil)
/-! ### dicts held against dicts: those of whole numbers -/
end
end CT
set_option Elab.async false
set_option linter.all false
set_option maxRecDepth 100000
set_option maxHeartbeats 400000
/-! THE DATA LAYER: plain data of any kind, isinstance of them -/
namespace CT
open PySem PySem.Spec L2
open PyProof.Rows hiding St
def tyN : D → Option String
  | .non => some "NoneType" | .bl _ => some "bool" | .int _ => some "int" | .str _ => some "str" | .tup _ => some "tuple" | .lst _ => some "list" | .dct _ => some "dict" | .pdc _ => some "dict"
  | _ => none
inductive TyC : String → Prop
  | int : TyC "int" | bool : TyC "bool" | list : TyC "list" | tuple : TyC "tuple"
def isiN (x : D) (c : String) : Bool := match tyN x with
  | some n => n == c || (n == "bool" && c == "int")
  | none => false
theorem kitN {K : PySem.W.Frag} {x : D} {c : String} (hx : tyN x ≠ none) (hc : TyC c) : ∃ n, TyD K x (.type n) ∧ PySem.W.kitOne K (.type n) (.type c) = some (isiN x c) := by
  cases x with
  | non => exact ⟨_, .non, by cases hc <;> rfl⟩
  | bl b => exact ⟨_, .bl b, by cases hc <;> rfl⟩
  | int i => exact ⟨_, .int i, by cases hc <;> rfl⟩
  | str s => exact ⟨_, .str s, by cases hc <;> rfl⟩
  | tup xs => exact ⟨_, .tup xs, by cases hc <;> rfl⟩
  | lst xs => exact ⟨_, .lst xs, by cases hc <;> rfl⟩
  | dct xs => exact ⟨_, .dct xs, by cases hc <;> rfl⟩
  | pdc xs => exact ⟨_, .pdc xs, by cases hc <;> rfl⟩
  | ins _ _ => exact absurd rfl hx
  | exc _ _ => exact absurd rfl hx
  | ty _ => exact absurd rfl hx
  | cl _ => exact absurd rfl hx
section
variable {X : Cx} {ρ : Rho} {a b : Expr} {x : D} {p pos : Pos}
/-- isinstance(x, T), T one of Python's own -/
theorem de_isiN {c : String} (hx : tyN x ≠ none) (hc : TyC c) (hg : Gl X "isinstance") (hm : X.mg "isinstance" = none) (ha : DE X ρ a x) (hb : DE X ρ b (.ty c))
    (he : starEach [a, b] X.env = (false, eval a X.env) :: starEach [b] X.env := by rfl) (he2 : starEach [b] X.env = (false, eval b X.env) :: starEach [] X.env := by rfl) (hpl : (backTo pos (starEach [b] X.env)).any (·.1) = false := by rfl) : DE X ρ (.Call (.Name "isinstance" p) [a, b] [] pos) (.bl (isiN x c)) := by
  obtain ⟨n, ty, hk⟩ := kitN (K := X.K) hx hc
  exact de_isi hg hm ty (.ty c) hk (da_cons ha (da_cons hb da_nil he2) he) he hpl
end
/-! ### whole numbers, sequences -/
def isW : D → Bool
  | .int _ => true
  | _ => false
theorem isW_isi {x : D} (hx : tyN x ≠ none) : (isiN x "int" && !isiN x "bool") = isW x := by
  cases x <;> first | rfl | exact absurd rfl hx
def seqOf : D → Option (List D)
  | .lst xs => some xs | .tup xs => some xs
  | _ => none
theorem Sq.of {x : D} {xs : List D} (h : seqOf x = some xs) : Sq x xs := by
  cases x <;> first | (cases h; exact .lst _) | (cases h; exact .tup _) | cases h
def intOf : D → Int
  | .int i => i
  | _ => 0
theorem intOf_W {x : D} (h : isW x = true) : x = .int (intOf x) := by
  cases x <;> first | rfl | cases h
/-! ### long displays -/
def noStar : Expr → Bool
  | .Starred .. => false
  | _ => true
theorem se_of {e : Expr} {es : List Expr} {env : Env} (h : noStar e = true) : starEach (e :: es) env = (false, eval e env) :: starEach es env := by
  cases e <;> first | rfl | cases h
theorem da_c {X : Cx} {ρ : Rho} {e : Expr} {es : List Expr} {d : D} {ds : List D} (ha : DE X ρ e d) (hr : DA X ρ es ds) (h : noStar e = true := by rfl) : DA X ρ (e :: es) (d :: ds) := da_cons ha hr (se_of h)
end CT
set_option Elab.async false
set_option linter.all false
set_option maxRecDepth 100000
set_option maxHeartbeats 400000
/-! SLICES by data: t[lo:hi] of tuples, of lists -/
namespace CT
open PySem PySem.Spec PySem.W L2
open PyProof.Rows hiding St
section
open HT
variable {prog : Program} {w : World} {A : Around} {E : Value → Shared → Prop} {s : Shared}
theorem getItem_tuple_whole {t sl : Addr} {items : Array Value} {vl vu : Value} {lo hi : Option Int} {Q : Value → Shared → Prop} (ht : IsTup s.heap t items) (hs : s.heap.IsSliceOf sl vl vu .none) (pl : IsPart vl lo) (pu : IsPart vu hi)
    (hw : HT.sIx items.size 0 lo = 0 ∧ HT.sIx items.size items.size hi = items.size)
    (h : Q (.ref t) s) : wpAny (model prog w) A (getItem (.ref t) (.ref sl)) Q E s := by
  obtain ⟨os, hos, hcs, hds⟩ := id hs
  have hTs : s.TypeIs (.ref sl) "slice" := ⟨os, hos, hcs⟩
  unfold getItem
  try with_reducible refine wpAny_holding ?_
  first | refine wpAny_bind (wpAny_pure ?_) | skip
  refine wpAny_bind (wpAny_sequenceKey ht.typeIs (by decide) ?_)
  refine wpAny_bind (wpAny_callSpecial?_slot (name := Str.ofString "__getitem__") ht.typeIs PyProof.Rows.slot_tuple_getitem
    (wpAny_call_entry PyProof.Rows.slot_tuple_getitem ht.typeIs entry_tuple_getitem ?_ (args_tuple_getitem _ _)))
  show wpAny _ _ (Builtin.Tuple.tupleItemsOf (.ref t) >>= _) _ _ s
  refine wpAny_bind (tupleItemsOf_ ht ?_)
  refine wpAny_bind (wpAny_typeOf hTs ?_)
  rw [if_pos (by decide)]
  refine wpAny_bind (HT.sliceApplied_gen hs pl pu ?_)
  have hyes : (((HT.sIx items.size 0 lo : Nat) : Int) == 0 && (1 : Int) == 1 && (HT.sIx items.size items.size hi - HT.sIx items.size 0 lo) == items.size) = true := by
    rw [hw.1, hw.2]; simp
  show wpAny _ _ (if (((HT.sIx items.size 0 lo : Nat) : Int) == 0 && (1 : Int) == 1 && (HT.sIx items.size items.size hi - HT.sIx items.size 0 lo) == items.size) = true then _ else _) _ _ s
  rw [if_pos hyes]
  refine wpAny_bind (m := Builtin.Tuple.tupleIsExact (.ref t)) ?_
  unfold Builtin.Tuple.tupleIsExact
  refine wpAny_bind (wpAny_typeOf ht.typeIs ?_)
  refine wpAny_pure ?_
  rw [if_pos (by decide)]
  exact wpAny_bind (wpAny_rule (wpAny_pure ⟨_, rfl, wpAny_pure h⟩))
end
section
variable {X : Cx} {ρ : Rho} {a : Expr} {lo hi : Option Expr} {xs : List D} {l u : Option Int} {pos p2 : Pos}
/-- t[lo:hi], the whole or not -/
def rSlW (K : PySem.W.Frag) : V → Option Int → Option Int → Hp → VK → Prop := fun x lo hi H Q => ∃ a xs, x = .ref a ∧ SqT K H a xs ∧ (HT.sIx xs.length 0 lo = 0 ∧ HT.sIx xs.length xs.length hi = xs.length) ∧ Q (.ref a) H
theorem sl_whole : SlR X (rSlW X.K) := by
  intro pins s σ H x v vl vu lo hi sl Q I rx hs pl pu h
  obtain ⟨a, xs, rfl, hx, hw, q⟩ := h
  cases rx
  obtain ⟨its, r, ht, hz⟩ := I.tuple hx
  have hlen : its.toArray.size = xs.length := by rw [List.size_toArray]; exact r.length.symm
  exact ⟨"tuple", _, PyProof.Rows.slot_tuple_getitem.lookup, ht.typeIs, getItem_tuple_whole ht hs pl pu (by rw [hlen]; exact hw) ⟨.ref a, H, I, rfl, q⟩⟩
/-- a part of a slice -/
def DO (X : Cx) (ρ : Rho) (e : Option Expr) (o : Option Int) : Prop := PO X e fun σ H Q => ∃ S, VE X.K H S ρ σ ∧ ∀ H', Ext0 H H' → Q o H'
theorem do_none : DO X ρ none none := fun pins s σ H Q I ⟨S, ve, k⟩ => po_none pins s σ H Q I (k H Ext.refl)
theorem do_some {e : Expr} {i : Int} (h : DE X ρ e (.int i)) : DO X ρ (some e) (some i) := fun pins s σ H Q I ⟨S, ve, k⟩ => po_some h pins s σ H Q I ⟨S, ve, fun v H' e r => ⟨i, r.intV, k H' e⟩⟩
def cutL (xs : List D) (lo hi : Option Int) : List D := (xs.drop (HT.sIx xs.length 0 lo)).take (HT.sIx xs.length xs.length hi - HT.sIx xs.length 0 lo)
theorem RdsL.drop' {K : PySem.W.Frag} {H : Hp} {S : Ad} : ∀ {xs : List D} {vs : List V} (n : Nat), RdsL K H S xs vs → RdsL K H S (xs.drop n) (vs.drop n)
  | _, _, 0, h => h
  | _, _, _ + 1, .nil => .nil
  | _, _, n + 1, .cons _ h => RdsL.drop' n h
theorem RdsL.take' {K : PySem.W.Frag} {H : Hp} {S : Ad} : ∀ {xs : List D} {vs : List V} (n : Nat), RdsL K H S xs vs → RdsL K H S (xs.take n) (vs.take n)
  | _, _, 0, h => .nil
  | _, _, _ + 1, .nil => .nil
  | _, _, n + 1, .cons r h => .cons r (RdsL.take' n h)
theorem RdsL.cut {K : PySem.W.Frag} {H : Hp} {S : Ad} {xs : List D} {vs : List V} (h : RdsL K H S xs vs) (lo hi : Option Int) : RdsL K H S (cutL xs lo hi) (cutV vs lo hi) := by
  unfold cutL cutV
  rw [h.length]
  exact RdsL.take' _ (RdsL.drop' _ h)
theorem de_slT (ha : DE X ρ a (.tup xs)) (hl : DO X ρ lo l) (hu : DO X ρ hi u) : DE X ρ (.Subscript a (.Slice lo hi none p2) pos) (.tup (cutL xs l u)) := by
  refine PE.weak (pe_slice (SlR.or sl_tup sl_whole) ha hl hu) fun σ H Q ⟨S, ve, k⟩ => ⟨S, ve, fun x H1 e1 r1 => ⟨S, ve.ext e1, fun H2 e2 => ⟨S, (ve.ext e1).ext e2, fun H3 e3 => ?_⟩⟩⟩
  have r3 := r1.ext ((e2.trans e3).to S)
  have dm := (((ve.ext e1).ext e2).ext e3).dom
  obtain ⟨p, us, rfl, h2, rs⟩ := r3.tupV
  by_cases hw : HT.sIx us.length 0 l = 0 ∧ HT.sIx us.length us.length u = us.length
  · refine .inr ⟨p, us, rfl, .inl (.inl h2), hw, k _ H3 (e1.trans (e2.trans e3)) ?_⟩
    have e : cutL xs l u = xs := by
      unfold cutL
      rw [rs.length, hw.1, hw.2, List.drop_zero, Nat.sub_zero, List.take_of_length_le (by rw [rs.length]; exact Nat.le_refl _)]
    rw [e]; exact r3
  · exact .inl ⟨p, us, rfl, .inl (.inl h2), hw, fun z hz => k _ _ (e1.trans (e2.trans (e3.trans (Ext.new hz)))) (Rds.newTup dm hz (rs.cut l u))⟩
theorem de_slL (ha : DE X ρ a (.lst xs)) (hl : DO X ρ lo l) (hu : DO X ρ hi u) : DE X ρ (.Subscript a (.Slice lo hi none p2) pos) (.lst (cutL xs l u)) := by
  refine PE.weak (pe_slice sl_list ha hl hu) fun σ H Q ⟨S, ve, k⟩ => ⟨S, ve, fun x H1 e1 r1 => ⟨S, ve.ext e1, fun H2 e2 => ⟨S, (ve.ext e1).ext e2, fun H3 e3 => ?_⟩⟩⟩
  have r3 := r1.ext ((e2.trans e3).to S)
  have dm := (((ve.ext e1).ext e2).ext e3).dom
  obtain ⟨p, us, rfl, sq, rs⟩ := r3.lstV
  exact ⟨p, us, rfl, sq, fun z hz => k _ _ (e1.trans (e2.trans (e3.trans (Ext.new hz)))) (Rds.newLst dm hz (rs.cut l u))⟩
end
end CT
def PySem.W.Fast.tw15262919534922545023 : Nat := 0
def PySem.W.Fast.tw389198386674168148 : Nat := 0
def PySem.W.Fast.tw11600647387676973824 : Nat := 0
def PySem.W.Fast.tw13342211199707872132 : Nat := 0
def PySem.W.Fast.tw16198521456976291913 : Nat := 0
def PySem.W.Fast.tw9042528507455289397 : Nat := 0
def PySem.W.Fast.tw6145834238224819336 : Nat := 0
def PySem.W.Fast.tw17322758605150541627 : Nat := 0
def PySem.W.Fast.tw8123209091988436884 : Nat := 0
def PySem.W.Fast.tw11271349594546399880 : Nat := 0
def PySem.W.Fast.tw5059245706539637944 : Nat := 0
def PySem.W.Fast.tw8908061028934407254 : Nat := 0
def PySem.W.Fast.tw17281985894302649344 : Nat := 0
def PySem.W.Fast.tw14479043901094906028 : Nat := 0
def PySem.W.Fast.tw8068674154183145709 : Nat := 0
def PySem.W.Fast.tw4180399008684965909 : Nat := 0
def PySem.W.Fast.tw865731263665967477 : Nat := 0
def PySem.W.Fast.tw12021893666574315310 : Nat := 0
def PySem.W.Fast.tw3234437945272502513 : Nat := 0
def PySem.W.Fast.tw7127953409287148045 : Nat := 0
def PySem.W.Fast.tw11589465046706086571 : Nat := 0
def PySem.W.Fast.tw5563027549065158127 : Nat := 0
def PySem.W.Fast.tw8702439710583036927 : Nat := 0
def PySem.W.Fast.tw16359633120604150241 : Nat := 0
def PySem.W.Fast.tw9309619751725947014 : Nat := 0
def PySem.W.Fast.tw5851672974618909229 : Nat := 0
def PySem.W.Fast.tw11081848233651082589 : Nat := 0
def PySem.W.Fast.tw4418409415655525842 : Nat := 0
def PySem.W.Fast.tw16373767328452439280 : Nat := 0
def PySem.W.Fast.tw3624982738072125260 : Nat := 0
def PySem.W.Fast.tw1207961626116727980 : Nat := 0
def PySem.W.Fast.tw12643695046017433673 : Nat := 0
def PySem.W.Fast.tw3444226317061176948 : Nat := 0
def PySem.W.Fast.tw636497665701637144 : Nat := 0
def PySem.W.Fast.tw16340511971812972906 : Nat := 0
def PySem.W.Fast.tw2805122019487273777 : Nat := 0
def PySem.W.Fast.tw2832995299724738982 : Nat := 0
def PySem.W.Fast.tw2592105694544972818 : Nat := 0
def PySem.W.Fast.tw7136493134539254793 : Nat := 0
def PySem.W.Fast.tw9653025359919451109 : Nat := 0
def PySem.W.Fast.tw12726449099050711837 : Nat := 0
def PySem.W.Fast.tw7962618419560301441 : Nat := 0
def PySem.W.Fast.tw16585648042355255456 : Nat := 0
def PySem.W.Fast.tw1217854136721760263 : Nat := 0
def PySem.W.Fast.tw17492886807957264632 : Nat := 0
def PySem.W.Fast.tw14275031638687119835 : Nat := 0
def PySem.W.Fast.tw4785932757150635684 : Nat := 0
def PySem.W.Fast.tw4422920658972265573 : Nat := 0
def PySem.W.Fast.tw5553657197996289254 : Nat := 0
def PySem.W.Fast.tw12928718870250130048 : Nat := 0
def PySem.W.Fast.tw2121170697431222762 : Nat := 0
def PySem.W.Fast.tw13201132870759109100 : Nat := 0
def PySem.W.Fast.tw18437109355451970409 : Nat := 0
def PySem.W.Fast.tw11910159031339587024 : Nat := 0
def PySem.W.Fast.tw7714192374821054079 : Nat := 0
def PySem.W.Fast.tw8518819282847620492 : Nat := 0
def PySem.W.Fast.tw17517005217259759067 : Nat := 0
def PySem.W.Fast.tw14660923024577912145 : Nat := 0
def PySem.W.Fast.tw10402932408893172260 : Nat := 0
def PySem.W.Fast.tw12203219412435068833 : Nat := 0
def PySem.W.Fast.tw16908074104962299215 : Nat := 0
def PySem.W.Fast.tw18352563871603535716 : Nat := 0
def PySem.W.Fast.tw5526651044844892246 : Nat := 0
def PySem.W.Fast.tw767345929753700414 : Nat := 0
def PySem.W.Fast.tw16967872598255052927 : Nat := 0
def PySem.W.Fast.tw12194211511353254653 : Nat := 0
def PySem.W.Fast.tw7603849720450283753 : Nat := 0
def PySem.W.Fast.tw17036729800150986672 : Nat := 0
def PySem.W.Fast.tw5333129026051195042 : Nat := 0
def PySem.W.Fast.tw304399059107357970 : Nat := 0
def PySem.W.Fast.tw7880453473543592744 : Nat := 0
def PySem.W.Fast.tw10927725399362386233 : Nat := 0
def PySem.W.Fast.tw6251432752126036587 : Nat := 0
def PySem.W.Fast.tw831507846256357558 : Nat := 0
def PySem.W.Fast.tw1340605210449895537 : Nat := 0
def PySem.W.Fast.tw16133615910954508799 : Nat := 0
def PySem.W.Fast.tw10014952952755565461 : Nat := 0
def PySem.W.Fast.tw770518100511606922 : Nat := 0
def PySem.W.Fast.tw18266100261021457700 : Nat := 0
def PySem.W.Fast.tw17519303916091960575 : Nat := 0
def PySem.W.Fast.tw8145277337097872312 : Nat := 0
def PySem.W.Fast.tw14687577504019097981 : Nat := 0
def PySem.W.Fast.tw8210466546444177071 : Nat := 0
def PySem.W.Fast.tw3854643257000915850 : Nat := 0
def PySem.W.Fast.tw12007233154351556620 : Nat := 0
def PySem.W.Fast.tw8828351474474164373 : Nat := 0
def PySem.W.Fast.tw2259966868731183120 : Nat := 0
def PySem.W.Fast.tw12409623114564710321 : Nat := 0
def PySem.W.Fast.tw12769184697238211705 : Nat := 0
def PySem.W.Fast.tw14563151099397610559 : Nat := 0
def PySem.W.Fast.tw1169200474259906424 : Nat := 0
def PySem.W.Fast.tw1571179075130958008 : Nat := 0
def PySem.W.Fast.tw2306181048632605914 : Nat := 0
def PySem.W.Fast.tw5503833943336909872 : Nat := 0
def PySem.W.Fast.tw18376798904349538401 : Nat := 0
def PySem.W.Fast.tw8554535151006213567 : Nat := 0
def PySem.W.Fast.tw17608300045304366861 : Nat := 0
def PySem.W.Fast.tw10213590126683337937 : Nat := 0
def PySem.W.Fast.tw6647222371780369200 : Nat := 0
def PySem.W.Fast.tw2640894910255950388 : Nat := 0
def PySem.W.Fast.tw9168414381436555077 : Nat := 0
def PySem.W.Fast.tw12184580715092144482 : Nat := 0
def PySem.W.Fast.tw4278284419477658648 : Nat := 0
def PySem.W.Fast.tw905621356058958951 : Nat := 0
def PySem.W.Fast.tw6642442428100063942 : Nat := 0
def PySem.W.Fast.tw7888092342428735807 : Nat := 0
def PySem.W.Fast.tw10248906506924810452 : Nat := 0
def PySem.W.Fast.tw8272450966647643336 : Nat := 0
def PySem.W.Fast.tw12204260617192761689 : Nat := 0
def PySem.W.Fast.tw10648232766800071099 : Nat := 0
def PySem.W.Fast.tw14706850277469666280 : Nat := 0
def PySem.W.Fast.tw397605060808230042 : Nat := 0
def PySem.W.Fast.tw13275915578091497591 : Nat := 0
def PySem.W.Fast.tw7955482604602183760 : Nat := 0
def PySem.W.Fast.tw16540286388983126432 : Nat := 0
def PySem.W.Fast.tw13886482160611715188 : Nat := 0
def PySem.W.Fast.tw14767456587547333659 : Nat := 0
def PySem.W.Fast.tw8158484239668881282 : Nat := 0
def PySem.W.Fast.tw6852331152356446092 : Nat := 0
def PySem.W.Fast.tw13218618166559817857 : Nat := 0
def PySem.W.Fast.tw3093115272952650424 : Nat := 0
def PySem.W.Fast.tw3170084489393274585 : Nat := 0
def PySem.W.Fast.tw2246443996061533937 : Nat := 0
def PySem.W.Fast.tw16389001397344813039 : Nat := 0
def PySem.W.Fast.tw17222488486438448785 : Nat := 0
def PySem.W.Fast.tw90325175346893852 : Nat := 0
def PySem.W.Fast.tw9388180218708074239 : Nat := 0
def PySem.W.Fast.tw11365181717630231329 : Nat := 0
def PySem.W.Fast.tw5154111520900589398 : Nat := 0
def PySem.W.Fast.tw12759622084451888442 : Nat := 0
def PySem.W.Fast.tw17409020744937961625 : Nat := 0
def PySem.W.Fast.tw13776206843041228523 : Nat := 0
def PySem.W.Fast.tw17673274122280258644 : Nat := 0
def PySem.W.Fast.tw17334016146749541154 : Nat := 0
def PySem.W.Fast.tw10161853377766872161 : Nat := 0
def PySem.W.Fast.tw15942835480196762868 : Nat := 0
def PySem.W.Fast.tw8515806476739110681 : Nat := 0
def PySem.W.Fast.tw9000729213173755578 : Nat := 0
def PySem.W.Fast.tw15562606276780198214 : Nat := 0
def PySem.W.Fast.tw18273109302740037718 : Nat := 0
def PySem.W.Fast.tw7035348320925541185 : Nat := 0
def PySem.W.Fast.tw14859691045972266259 : Nat := 0
def PySem.W.Fast.tw4383841734344628812 : Nat := 0
def PySem.W.Fast.tw10488986162395825779 : Nat := 0
def PySem.W.Fast.tw10180843319020323483 : Nat := 0
def PySem.W.Fast.tw10421122867165468788 : Nat := 0
def PySem.W.Fast.tw896487028119661548 : Nat := 0
def PySem.W.Fast.tw17715089783041516316 : Nat := 0
def PySem.W.Fast.tw5542343427191377832 : Nat := 0
def PySem.W.Fast.tw1118926305511978684 : Nat := 0
def PySem.W.Fast.tw9839107996142510105 : Nat := 0
def PySem.W.Fast.tw12225909545518424201 : Nat := 0
def PySem.W.Fast.tw18005913400342895804 : Nat := 0
def PySem.W.Fast.tw13650149920153089953 : Nat := 0
def PySem.W.Fast.tw10038317976001498806 : Nat := 0
def PySem.W.Fast.tw9851508486929666810 : Nat := 0
def PySem.W.Fast.tw11848575571618254897 : Nat := 0
def PySem.W.Fast.tw5837519080358480781 : Nat := 0
def PySem.W.Fast.tw13640688419089755050 : Nat := 0
def PySem.W.Fast.tw3086971491908830961 : Nat := 0
def PySem.W.Fast.tw142501836374575212 : Nat := 0
def PySem.W.Fast.tw7255890430097092024 : Nat := 0
def PySem.W.Fast.tw12700506143325465263 : Nat := 0
def PySem.W.Fast.tw9516931832744343786 : Nat := 0
def PySem.W.Fast.tw16478352720096515661 : Nat := 0
def PySem.W.Fast.tw17538617216094098206 : Nat := 0
def PySem.W.Fast.tw14975400922131833673 : Nat := 0
def PySem.W.Fast.tw5615864037492856311 : Nat := 0
def PySem.W.Fast.tw17383280998776197949 : Nat := 0
def PySem.W.Fast.tw13014065197275965755 : Nat := 0
def PySem.W.Fast.tw9700821093355573190 : Nat := 0
def PySem.W.Fast.tw659162521246789007 : Nat := 0
def PySem.W.Fast.tw1871814388529729826 : Nat := 0
def PySem.W.Fast.tw13881147960830334567 : Nat := 0
def PySem.W.Fast.tw6401686690582858451 : Nat := 0
def PySem.W.Fast.tw3232024717219329311 : Nat := 0
def PySem.W.Fast.tw16244588279719503061 : Nat := 0
def PySem.W.Fast.tw17076517788519542388 : Nat := 0
def PySem.W.Fast.tw4072191024851885447 : Nat := 0
def PySem.W.Fast.tw16354836043074878853 : Nat := 0
def PySem.W.Fast.tw9275221681156345734 : Nat := 0
def PySem.W.Fast.tw6063021091221674594 : Nat := 0
def PySem.W.Fast.tw14021616604153870950 : Nat := 0
def PySem.W.Fast.tw13837300150799971125 : Nat := 0
def PySem.W.Fast.tw1735092530145544293 : Nat := 0
def PySem.W.Fast.tw10618340940561869384 : Nat := 0
def PySem.W.Fast.tw8102101812615186062 : Nat := 0
def PySem.W.Fast.tw1632495719921131045 : Nat := 0
def PySem.W.Fast.tw8723392786766344088 : Nat := 0
def PySem.W.Fast.tw6583395738840231983 : Nat := 0
def PySem.W.Fast.tw18223071885176483171 : Nat := 0
def PySem.W.Fast.tw5349719755555101114 : Nat := 0
def PySem.W.Fast.tw13204485675475813178 : Nat := 0
def PySem.W.Fast.tw13017442577766004471 : Nat := 0
def PySem.W.Fast.tw630781271388448836 : Nat := 0
def PySem.W.Fast.tw250199976824153139 : Nat := 0
def PySem.W.Fast.tw8895034138044026799 : Nat := 0
def PySem.W.Fast.tw6684908724610085244 : Nat := 0
def PySem.W.Fast.tw2897954832409421415 : Nat := 0
def PySem.W.Fast.tw8840858986165052972 : Nat := 0
def PySem.W.Fast.tw13675480604023259461 : Nat := 0
def PySem.W.Fast.tw1471185636451096977 : Nat := 0
def PySem.W.Fast.tw8563681210379715653 : Nat := 0
def PySem.W.Fast.tw14165263850123197507 : Nat := 0
def PySem.W.Fast.tw10184386495746030091 : Nat := 0
def PySem.W.Fast.tw81598614986608218 : Nat := 0
def PySem.W.Fast.tw16223164217792365282 : Nat := 0
def PySem.W.Fast.tw16574135918133398938 : Nat := 0
def PySem.W.Fast.tw11164160251334660887 : Nat := 0
def PySem.W.Fast.tw8782462305760533888 : Nat := 0
def PySem.W.Fast.tw12391095954194561729 : Nat := 0
def PySem.W.Fast.tw8955857131982669636 : Nat := 0
def PySem.W.Fast.tw9398458123892329917 : Nat := 0
def PySem.W.Fast.tw2736000778373156267 : Nat := 0
def PySem.W.Fast.tw2216560428757200111 : Nat := 0
def PySem.W.Fast.tw16833923148351620774 : Nat := 0
def PySem.W.Fast.tw6669238402936715662 : Nat := 0
def PySem.W.Fast.tw1624603387918876087 : Nat := 0
def PySem.W.Fast.tw5869656429778287177 : Nat := 0
def PySem.W.Fast.tw12956883884035536527 : Nat := 0
def PySem.W.Fast.tw17864425940352656635 : Nat := 0
def PySem.W.Fast.tw12255476305463242910 : Nat := 0
def PySem.W.Fast.tw10941824710272919105 : Nat := 0
def PySem.W.Fast.tw16610215497923696766 : Nat := 0
def PySem.W.Fast.tw9334676802896623280 : Nat := 0
def PySem.W.Fast.tw17298973410128174318 : Nat := 0
def PySem.W.Fast.tw1957211753525946917 : Nat := 0
def PySem.W.Fast.tw4904389217202903251 : Nat := 0
def PySem.W.Fast.tw4665674335384581371 : Nat := 0
def PySem.W.Fast.tw8534771343007261332 : Nat := 0
def PySem.W.Fast.tw1571553896662996084 : Nat := 0
def PySem.W.Fast.tw11615766310669568090 : Nat := 0
def PySem.W.Fast.tw16029675607258488960 : Nat := 0
def PySem.W.Fast.tw10141716177779456723 : Nat := 0
def PySem.W.Fast.tw8562626780176640770 : Nat := 0
def PySem.W.Fast.tw11123277341351932787 : Nat := 0
def PySem.W.Fast.tw13287074336054859642 : Nat := 0
def PySem.W.Fast.tw16953117687419324565 : Nat := 0
def PySem.W.Fast.tw894142639623786681 : Nat := 0
def PySem.W.Fast.tw4736243068079026713 : Nat := 0
def PySem.W.Fast.tw5393617644073088198 : Nat := 0
def PySem.W.Fast.tw6266504049900702408 : Nat := 0
def PySem.W.Fast.tw7634159382074520699 : Nat := 0
def PySem.W.Fast.tw3703306016043816843 : Nat := 0
def PySem.W.Fast.tw9942173418757396336 : Nat := 0
def PySem.W.Fast.tw5542384507147425768 : Nat := 0
def PySem.W.Fast.tw4468464144539512920 : Nat := 0
def PySem.W.Fast.tw17983209283073948038 : Nat := 0
def PySem.W.Fast.tw2742579386990981433 : Nat := 0
def PySem.W.Fast.tw3325248640501253342 : Nat := 0
def PySem.W.Fast.tw2577842801115053682 : Nat := 0
def PySem.W.Fast.tw12436387658822747848 : Nat := 0
def PySem.W.Fast.tw15508530206715367634 : Nat := 0
def PySem.W.Fast.tw8236213454258813754 : Nat := 0
def PySem.W.Fast.tw8990579672919060972 : Nat := 0
def PySem.W.Fast.tw1937101252652293849 : Nat := 0
def PySem.W.Fast.tw3694913531940394527 : Nat := 0
def PySem.W.Fast.tw9963351770202952581 : Nat := 0
def PySem.W.Fast.tw15864430245233128505 : Nat := 0
def PySem.W.Fast.tw17938204179247194582 : Nat := 0
def PySem.W.Fast.tw12874145671209452730 : Nat := 0
def PySem.W.Fast.tw10732385913780954969 : Nat := 0
def PySem.W.Fast.tw4987608954450823602 : Nat := 0
def PySem.W.Fast.tw16473682668343909358 : Nat := 0
def PySem.W.Fast.tw3695240447566056894 : Nat := 0
def PySem.W.Fast.tw2258193450021217465 : Nat := 0
def PySem.W.Fast.tw6320702028982086242 : Nat := 0
def PySem.W.Fast.tw13868922353773437083 : Nat := 0
def PySem.W.Fast.tw8019445338342237950 : Nat := 0
def PySem.W.Fast.tw11669797080097300584 : Nat := 0
def PySem.W.Fast.tw11766415955869090160 : Nat := 0
def PySem.W.Fast.tw3796178529006075332 : Nat := 0
def PySem.W.Fast.tw2050497097570358286 : Nat := 0
def PySem.W.Fast.tw15432958314127483224 : Nat := 0
def PySem.W.Fast.tw10954476976687878523 : Nat := 0
def PySem.W.Fast.tw4712046296584295192 : Nat := 0
def PySem.W.Fast.tw1760467727300948203 : Nat := 0
def PySem.W.Fast.tw5650281558704574937 : Nat := 0
def PySem.W.Fast.tw9415988931271088195 : Nat := 0
def PySem.W.Fast.tw11416168269157693087 : Nat := 0
def PySem.W.Fast.tw8577481675384826488 : Nat := 0
def PySem.W.Fast.tw3720172160955905492 : Nat := 0
def PySem.W.Fast.tw10598755534114919589 : Nat := 0
def PySem.W.Fast.tw6706490551835630271 : Nat := 0
def PySem.W.Fast.tw3524283828371901760 : Nat := 0
def PySem.W.Fast.tw1328797884716640159 : Nat := 0
def PySem.W.Fast.tw11005231585062490379 : Nat := 0
def PySem.W.Fast.tw17306138341688029925 : Nat := 0
def PySem.W.Fast.tw16568751481365392976 : Nat := 0
def PySem.W.Fast.tw13279510114303663876 : Nat := 0
def PySem.W.Fast.tw8434802459919143498 : Nat := 0
def PySem.W.Fast.tw13411595372187843325 : Nat := 0
def PySem.W.Fast.tw177781839920946407 : Nat := 0
def PySem.W.Fast.tw13632501712884612344 : Nat := 0
def PySem.W.Fast.tw13853215939307321369 : Nat := 0
def PySem.W.Fast.tw4690771860548395747 : Nat := 0
def PySem.W.Fast.tw11238660425371732615 : Nat := 0
def PySem.W.Fast.tw1228553737790198662 : Nat := 0
def PySem.W.Fast.tw11996893679387787022 : Nat := 0
def PySem.W.Fast.tw2556759996314763296 : Nat := 0
def PySem.W.Fast.tw11904307317660888030 : Nat := 0
def PySem.W.Fast.tw6811302658785011699 : Nat := 0
def PySem.W.Fast.tw6237745495764224180 : Nat := 0
def PySem.W.Fast.tw2670485909670150437 : Nat := 0
def PySem.W.Fast.tw3522869248841327426 : Nat := 0
def PySem.W.Fast.tw8995236346673663722 : Nat := 0
def PySem.W.Fast.tw5172002097606395516 : Nat := 0
def PySem.W.Fast.tw15758735115374306504 : Nat := 0
def PySem.W.Fast.tw466461126578430241 : Nat := 0
def PySem.W.Fast.tw17947330604622799673 : Nat := 0
def PySem.W.Fast.tw18000205084124839993 : Nat := 0
def PySem.W.Fast.tw17078594340381858387 : Nat := 0
def PySem.W.Fast.tw13124342374231343527 : Nat := 0
def PySem.W.Fast.tw16671518334703353575 : Nat := 0
def PySem.W.Fast.tw11274411372635245593 : Nat := 0
def PySem.W.Fast.tw8784242874859692861 : Nat := 0
def PySem.W.Fast.tw14176858323831181975 : Nat := 0
def PySem.W.Fast.tw1575096593616775268 : Nat := 0
def PySem.W.Fast.tw15415521986999532826 : Nat := 0
def PySem.W.Fast.tw7278455125849302856 : Nat := 0
def PySem.W.Fast.tw8301877426442317936 : Nat := 0
def PySem.W.Fast.tw6485879510351033552 : Nat := 0
def PySem.W.Fast.tw4182637669298437375 : Nat := 0
def PySem.W.Fast.tw13127378870031697440 : Nat := 0
def PySem.W.Fast.tw11580311606374517311 : Nat := 0
def PySem.W.Fast.tw5927741526311549827 : Nat := 0
def PySem.W.Fast.tw1742259530474760672 : Nat := 0
def PySem.W.Fast.tw157148005200551622 : Nat := 0
def PySem.W.Fast.tw9181176820468813361 : Nat := 0
def PySem.W.Fast.tw6659780555954476626 : Nat := 0
def PySem.W.Fast.tw4308961822608494484 : Nat := 0
def PySem.W.Fast.tw17759240827313721893 : Nat := 0
def PySem.W.Fast.tw15779026675389551883 : Nat := 0
def PySem.W.Fast.tw16887011015713813936 : Nat := 0
def PySem.W.Fast.tw16943125813066273146 : Nat := 0
def PySem.W.Fast.tw985867084201008165 : Nat := 0
def PySem.W.Fast.tw11274375201663092331 : Nat := 0
def PySem.W.Fast.tw8361626185675488477 : Nat := 0
def PySem.W.Fast.tw8918108159573482212 : Nat := 0
def PySem.W.Fast.tw16044597951049510692 : Nat := 0
def PySem.W.Fast.tw15804010001836997097 : Nat := 0
def PySem.W.Fast.tw6724436381011392840 : Nat := 0
def PySem.W.Fast.tw7960105296144409115 : Nat := 0
def PySem.W.Fast.tw6653080658503511658 : Nat := 0
def PySem.W.Fast.tw10789975983027996863 : Nat := 0
def PySem.W.Fast.tw13407147718174282744 : Nat := 0
def PySem.W.Fast.tw16231108609087197760 : Nat := 0
def PySem.W.Fast.tw2899294596684026021 : Nat := 0
def PySem.W.Fast.tw15849021588882948091 : Nat := 0
def PySem.W.Fast.tw12389858349699031232 : Nat := 0
def PySem.W.Fast.tw3702694861201516928 : Nat := 0
def PySem.W.Fast.tw7643940283276319615 : Nat := 0
def PySem.W.Fast.tw10027548558259986242 : Nat := 0
def PySem.W.Fast.tw17135274708892459315 : Nat := 0
def PySem.W.Fast.tw17732695564472623371 : Nat := 0
def PySem.W.Fast.tw13537671883744158177 : Nat := 0
def PySem.W.Fast.tw6845519576217037449 : Nat := 0
def PySem.W.Fast.tw6553843343138001720 : Nat := 0
def PySem.W.Fast.tw14439214596961537369 : Nat := 0
def PySem.W.Fast.tw4771102287750382354 : Nat := 0
def PySem.W.Fast.tw7877407068273306112 : Nat := 0
def PySem.W.Fast.tw10776009867416654101 : Nat := 0
def PySem.W.Fast.tw5710019788448096167 : Nat := 0
def PySem.W.Fast.tw12380119305683017648 : Nat := 0
def PySem.W.Fast.tw5403952527162047148 : Nat := 0
def PySem.W.Fast.tw15643746813916937266 : Nat := 0
def PySem.W.Fast.tw12291615515029891855 : Nat := 0
def PySem.W.Fast.tw11080923514347279017 : Nat := 0
def PySem.W.Fast.tw6583512548606753498 : Nat := 0
def PySem.W.Fast.tw12499502865300754673 : Nat := 0
def PySem.W.Fast.tw9265088312964737927 : Nat := 0
def PySem.W.Fast.tw2128877829558383880 : Nat := 0
def PySem.W.Fast.tw10475527472933264328 : Nat := 0
def PySem.W.Fast.tw11877432496341222849 : Nat := 0
def PySem.W.Fast.tw11286230384123009232 : Nat := 0
def PySem.W.Fast.tw8277161047030806142 : Nat := 0
def PySem.W.Fast.tw14218107365900945285 : Nat := 0
def PySem.W.Fast.tw17133556493526699547 : Nat := 0
def PySem.W.Fast.tw12857702972881076382 : Nat := 0
def PySem.W.Fast.tw14499871776662218280 : Nat := 0
def PySem.W.Fast.tw17690513537374000989 : Nat := 0
def PySem.W.Fast.tw5714771494582857379 : Nat := 0
def PySem.W.Fast.tw3924088800125637543 : Nat := 0
def PySem.W.Fast.tw11280811168207891468 : Nat := 0
def PySem.W.Fast.tw13116509009186613212 : Nat := 0
def PySem.W.Fast.tw11606187944561592713 : Nat := 0
def PySem.W.Fast.tw18003392420860993781 : Nat := 0
def PySem.W.Fast.tw13531951526356799837 : Nat := 0
def PySem.W.Fast.tw16974422604378100239 : Nat := 0
def PySem.W.Fast.tw11727901965924339450 : Nat := 0
def PySem.W.Fast.tw5076710819118690687 : Nat := 0
def PySem.W.Fast.tw15907908292971322396 : Nat := 0
def PySem.W.Fast.tw14468530019943916461 : Nat := 0
def PySem.W.Fast.tw3172138288597707998 : Nat := 0
def PySem.W.Fast.tw10401154832220812464 : Nat := 0
def PySem.W.Fast.tw8867014749950984357 : Nat := 0
def PySem.W.Fast.tw5454964287479791063 : Nat := 0
def PySem.W.Fast.tw1258668626195338431 : Nat := 0
def PySem.W.Fast.tw944306614011467149 : Nat := 0
def PySem.W.Fast.tw8669122139166240096 : Nat := 0
def PySem.W.Fast.tw13558317522392627172 : Nat := 0
def PySem.W.Fast.tw4091050115356850662 : Nat := 0
def PySem.W.Fast.tw2938264231078542230 : Nat := 0
def PySem.W.Fast.tw3172123609332760411 : Nat := 0
def PySem.W.Fast.tw18358686150411792401 : Nat := 0
def PySem.W.Fast.tw16380317864798634831 : Nat := 0
def PySem.W.Fast.tw6983230739404574661 : Nat := 0
def PySem.W.Fast.tw6521885721121008772 : Nat := 0
def PySem.W.Fast.tw4685468388156759249 : Nat := 0
def PySem.W.Fast.tw17476925038432467193 : Nat := 0
def PySem.W.Fast.tw8799751724850629630 : Nat := 0
def PySem.W.Fast.tw4203454824321868794 : Nat := 0
def PySem.W.Fast.tw9230015549639061683 : Nat := 0
def PySem.W.Fast.tw8449300489973995094 : Nat := 0
def PySem.W.Fast.tw2366329805759424145 : Nat := 0
def PySem.W.Fast.tw18045766651229571143 : Nat := 0
def PySem.W.Fast.tw62150236129176825 : Nat := 0
def PySem.W.Fast.tw10099167440686763281 : Nat := 0
def PySem.W.Fast.tw17313637625635453060 : Nat := 0
def PySem.W.Fast.tw13051020484790913304 : Nat := 0
def PySem.W.Fast.tw5408316475899215628 : Nat := 0
def PySem.W.Fast.tw3378100101702758073 : Nat := 0
def PySem.W.Fast.tw17276054688850036625 : Nat := 0
def PySem.W.Fast.tw97681533655410049 : Nat := 0
def PySem.W.Fast.tw11033016549496681641 : Nat := 0
def PySem.W.Fast.tw331517995697077062 : Nat := 0
def PySem.W.Fast.tw8630296046760119602 : Nat := 0
def PySem.W.Fast.tw7544547064405544185 : Nat := 0
def PySem.W.Fast.tw4001221196783061868 : Nat := 0
def PySem.W.Fast.tw13101297795615381835 : Nat := 0
def PySem.W.Fast.tw12088074148086097956 : Nat := 0
def PySem.W.Fast.tw18366956984588421052 : Nat := 0
def PySem.W.Fast.tw8219523571838670294 : Nat := 0
def PySem.W.Fast.tw15317502747694302390 : Nat := 0
def PySem.W.Fast.tw17884474283369514934 : Nat := 0
def PySem.W.Fast.tw2139317451339743679 : Nat := 0
def PySem.W.Fast.tw8366252819644381241 : Nat := 0
def PySem.W.Fast.tw15501000182431961749 : Nat := 0
def PySem.W.Fast.tw4628166266472891085 : Nat := 0
def PySem.W.Fast.tw4756740436011214009 : Nat := 0
def PySem.W.Fast.tw15437471839269335405 : Nat := 0
def PySem.W.Fast.tw9208502582506208347 : Nat := 0
def PySem.W.Fast.tw10181017044987182084 : Nat := 0
def PySem.W.Fast.tw4520248974979705202 : Nat := 0
def PySem.W.Fast.tw576642906588380402 : Nat := 0
def PySem.W.Fast.tw2449125472060583782 : Nat := 0
def PySem.W.Fast.tw9057862593631380832 : Nat := 0
def PySem.W.Fast.tw15191806861781207808 : Nat := 0
def PySem.W.Fast.tw18312585702062304086 : Nat := 0
def PySem.W.Fast.tw1773515114184887503 : Nat := 0
def PySem.W.Fast.tw3859615990346657193 : Nat := 0
def PySem.W.Fast.tw10475251186930365526 : Nat := 0
def PySem.W.Fast.tw14548054104504162186 : Nat := 0
def PySem.W.Fast.tw1747638710297424286 : Nat := 0
def PySem.W.Fast.tw8213700361444848602 : Nat := 0
def PySem.W.Fast.tw15181032276245380133 : Nat := 0
def PySem.W.Fast.tw9841199459127958852 : Nat := 0
def PySem.W.Fast.tw18328700387270297558 : Nat := 0
def PySem.W.Fast.tw13277243385348852649 : Nat := 0
def PySem.W.Fast.tw11829053136007338648 : Nat := 0
def PySem.W.Fast.tw15837916055557879213 : Nat := 0
def PySem.W.Fast.tw7027248266581794599 : Nat := 0
def PySem.W.Fast.tw7419031859750575228 : Nat := 0
def PySem.W.Fast.tw7062772388179829929 : Nat := 0
def PySem.W.Fast.tw9564231278416886746 : Nat := 0
def PySem.W.Fast.tw5579632082797488495 : Nat := 0
def PySem.W.Fast.tw8841747681343503810 : Nat := 0
def PySem.W.Fast.tw771779423627479767 : Nat := 0
def PySem.W.Fast.tw844329038680737571 : Nat := 0
def PySem.W.Fast.tw17465367323075495124 : Nat := 0
def PySem.W.Fast.tw17410295083241012564 : Nat := 0
def PySem.W.Fast.tw18332230251650289524 : Nat := 0
def PySem.W.Fast.tw540307935920532924 : Nat := 0
def PySem.W.Fast.tw1447607627284320988 : Nat := 0
def PySem.W.Fast.tw730874221885356425 : Nat := 0
def PySem.W.Fast.tw11856947741586571592 : Nat := 0
def PySem.W.Fast.tw14367390161779356771 : Nat := 0
def PySem.W.Fast.tw17888242457418107321 : Nat := 0
def PySem.W.Fast.tw16017371429791747329 : Nat := 0
def PySem.W.Fast.tw17181276539334471754 : Nat := 0
def PySem.W.Fast.tw3074946890628737005 : Nat := 0
def PySem.W.Fast.tw14045989572385870807 : Nat := 0
def PySem.W.Fast.tw4227552129014598782 : Nat := 0
def PySem.W.Fast.tw1185390871765324788 : Nat := 0
def PySem.W.Fast.tw18260476285402494814 : Nat := 0
def PySem.W.Fast.tw11321304683411585497 : Nat := 0
def PySem.W.Fast.tw4371349459416040471 : Nat := 0
def PySem.W.Fast.tw1653770115071483754 : Nat := 0
def PySem.W.Fast.tw2521493140190333800 : Nat := 0
def PySem.W.Fast.tw14675756876163395937 : Nat := 0
def PySem.W.Fast.tw15936934461152801931 : Nat := 0
def PySem.W.Fast.tw7528630523817153028 : Nat := 0
def PySem.W.Fast.tw4535410423265530720 : Nat := 0
def PySem.W.Fast.tw13902889897696061060 : Nat := 0
def PySem.W.Fast.tw1928473036784242900 : Nat := 0
def PySem.W.Fast.tw2010142737408949318 : Nat := 0
def PySem.W.Fast.tw16394735014193952114 : Nat := 0
def PySem.W.Fast.tw607638173524016184 : Nat := 0
def PySem.W.Fast.tw2531740849072906182 : Nat := 0
def PySem.W.Fast.tw2849651707466090132 : Nat := 0
def PySem.W.Fast.tw2251914375954079041 : Nat := 0
def PySem.W.Fast.tw6644812110229739140 : Nat := 0
def PySem.W.Fast.tw6472064729540273624 : Nat := 0
def PySem.W.Fast.tw11506627419901910339 : Nat := 0
def PySem.W.Fast.tw8185670478170673738 : Nat := 0
def PySem.W.Fast.tw16802375482675781769 : Nat := 0
def PySem.W.Fast.tw3572541594258057892 : Nat := 0
def PySem.W.Fast.tw15234950406135803921 : Nat := 0
def PySem.W.Fast.tw16938534589116074208 : Nat := 0
def PySem.W.Fast.tw18106347252686247088 : Nat := 0
def PySem.W.Fast.tw18391488989045505298 : Nat := 0
def PySem.W.Fast.tw1876529191030686826 : Nat := 0
def PySem.W.Fast.tw3427065657053818301 : Nat := 0
def PySem.W.Fast.tw2982011146694662948 : Nat := 0
def PySem.W.Fast.tw12049312083616112304 : Nat := 0
def PySem.W.Fast.tw3041085120582273783 : Nat := 0
def PySem.W.Fast.tw8811633862632034959 : Nat := 0
def PySem.W.Fast.tw1818224386108574149 : Nat := 0
def PySem.W.Fast.tw3067745973175359953 : Nat := 0
def PySem.W.Fast.tw567371493381903340 : Nat := 0
def PySem.W.Fast.tw1201179813491600801 : Nat := 0
def PySem.W.Fast.tw16505537630515207786 : Nat := 0
def PySem.W.Fast.tw15864619128454689518 : Nat := 0
def PySem.W.Fast.tw1426086801017758854 : Nat := 0
def PySem.W.Fast.tw6638426848113271495 : Nat := 0
def PySem.W.Fast.tw4379245582836320448 : Nat := 0
def PySem.W.Fast.tw7580165140286998974 : Nat := 0
def PySem.W.Fast.tw18044654717884167965 : Nat := 0
def PySem.W.Fast.tw5718938186943092279 : Nat := 0
def PySem.W.Fast.tw3352202084469530822 : Nat := 0
def PySem.W.Fast.tw15321942500974921871 : Nat := 0
def PySem.W.Fast.tw5784245463100451469 : Nat := 0
def PySem.W.Fast.tw1265245686311436831 : Nat := 0
def PySem.W.Fast.tw15774131718690243009 : Nat := 0
def PySem.W.Fast.tw7045990700087291292 : Nat := 0
def PySem.W.Fast.tw13643956420669206117 : Nat := 0
def PySem.W.Fast.tw5783570707677241073 : Nat := 0
def PySem.W.Fast.tw17328309133802337915 : Nat := 0
def PySem.W.Fast.tw9724716439447450576 : Nat := 0
def PySem.W.Fast.tw14090808115780639599 : Nat := 0
def PySem.W.Fast.tw10765783478250590230 : Nat := 0
def PySem.W.Fast.tw1721378759890955663 : Nat := 0
def PySem.W.Fast.tw15755896218933734531 : Nat := 0
def PySem.W.Fast.tw2713336715172780517 : Nat := 0
def PySem.W.Fast.tw9410622150099219730 : Nat := 0
def PySem.W.Fast.tw10723499992911848638 : Nat := 0
def PySem.W.Fast.tw11346072416128518875 : Nat := 0
def PySem.W.Fast.tw18354169676991952533 : Nat := 0
def PySem.W.Fast.tw10481120220419999681 : Nat := 0
def PySem.W.Fast.tw17081807153154964225 : Nat := 0
def PySem.W.Fast.tw10860219874770773386 : Nat := 0
def PySem.W.Fast.tw2622469736183260016 : Nat := 0
def PySem.W.Fast.tw12509506159546151980 : Nat := 0
def PySem.W.Fast.tw17746772758371075282 : Nat := 0
def PySem.W.Fast.tw16418323831076427940 : Nat := 0
def PySem.W.Fast.tw5880164462494999634 : Nat := 0
def PySem.W.Fast.tw1218756557996402926 : Nat := 0
def PySem.W.Fast.tw7281415068160868977 : Nat := 0
def PySem.W.Fast.tw6981723138518969128 : Nat := 0
def PySem.W.Fast.tw17016978392674286165 : Nat := 0
def PySem.W.Fast.tw9696597382295458560 : Nat := 0
def PySem.W.Fast.tw17460304226827884542 : Nat := 0
def PySem.W.Fast.tw9642102452972452635 : Nat := 0
def PySem.W.Fast.tw5749144833222523831 : Nat := 0
def PySem.W.Fast.tw6289724993648470186 : Nat := 0
def PySem.W.Fast.tw38310464424063688 : Nat := 0
def PySem.W.Fast.tw7119873274224611245 : Nat := 0
def PySem.W.Fast.tw1423676340714430723 : Nat := 0
def PySem.W.Fast.tw13105651707324165649 : Nat := 0
def PySem.W.Fast.tw10433855647477146237 : Nat := 0
def PySem.W.Fast.tw2711317364047196342 : Nat := 0
def PySem.W.Fast.tw1072792054098248044 : Nat := 0
def PySem.W.Fast.tw4100531137856021490 : Nat := 0
def PySem.W.Fast.tw4910595545591501622 : Nat := 0
def PySem.W.Fast.tw15627210105527001701 : Nat := 0
def PySem.W.Fast.tw2290724916620162583 : Nat := 0
def PySem.W.Fast.tw14997523151312854674 : Nat := 0
def PySem.W.Fast.tw713021145342441379 : Nat := 0
def PySem.W.Fast.tw12560240164657603508 : Nat := 0
def PySem.W.Fast.tw8752568997096523163 : Nat := 0
def PySem.W.Fast.tw1592853302089234639 : Nat := 0
def PySem.W.Fast.tw14263987684922566178 : Nat := 0
def PySem.W.Fast.tw10574234778753009030 : Nat := 0
def PySem.W.Fast.tw2964207276978018030 : Nat := 0
def PySem.W.Fast.tw1663427160176142572 : Nat := 0
def PySem.W.Fast.tw4853415453214417197 : Nat := 0
def PySem.W.Fast.tw15552761827891843947 : Nat := 0
def PySem.W.Fast.tw3855488900262281449 : Nat := 0
def PySem.W.Fast.tw14711241840823998651 : Nat := 0
def PySem.W.Fast.tw2814775405573137290 : Nat := 0
def PySem.W.Fast.tw9877728679423407724 : Nat := 0
def PySem.W.Fast.tw3362200926284664260 : Nat := 0
def PySem.W.Fast.tw5321792271304457360 : Nat := 0
def PySem.W.Fast.tw2936580525342618942 : Nat := 0
def PySem.W.Fast.tw12040651954692892790 : Nat := 0
def PySem.W.Fast.tw3930986129059650094 : Nat := 0
def PySem.W.Fast.tw13747649275754583927 : Nat := 0
def PySem.W.Fast.tw5597618429772649987 : Nat := 0
def PySem.W.Fast.tw13531864301748281294 : Nat := 0
def PySem.W.Fast.tw1914283007065333319 : Nat := 0
def PySem.W.Fast.tw3506149206637900153 : Nat := 0
def PySem.W.Fast.tw8063218962055063271 : Nat := 0
def PySem.W.Fast.tw5894035427364875317 : Nat := 0
def PySem.W.Fast.tw15432772056062166221 : Nat := 0
def PySem.W.Fast.tw236109716007819649 : Nat := 0
def PySem.W.Fast.tw13473351343312854442 : Nat := 0
def PySem.W.Fast.tw5772195975568661706 : Nat := 0
def PySem.W.Fast.tw4488689750541245053 : Nat := 0
def PySem.W.Fast.tw4259793203575177741 : Nat := 0
def PySem.W.Fast.tw8830375300352823947 : Nat := 0
def PySem.W.Fast.tw12742630924198951603 : Nat := 0
def PySem.W.Fast.tw16579294929413475486 : Nat := 0
def PySem.W.Fast.tw5341497703575392784 : Nat := 0
def PySem.W.Fast.tw8116806429574537855 : Nat := 0
def PySem.W.Fast.tw6661876731874733888 : Nat := 0
def PySem.W.Fast.tw2918566755951894019 : Nat := 0
def PySem.W.Fast.tw17869221534053992239 : Nat := 0
def PySem.W.Fast.tw2101937839658915674 : Nat := 0
def PySem.W.Fast.tw10458293951679671766 : Nat := 0
def PySem.W.Fast.tw952970901977264178 : Nat := 0
def PySem.W.Fast.tw5121242022104136484 : Nat := 0
def PySem.W.Fast.tw5590696675636962347 : Nat := 0
def PySem.W.Fast.tw9818859357813205556 : Nat := 0
def PySem.W.Fast.tw15086687121048560705 : Nat := 0
def PySem.W.Fast.tw4649571068895353013 : Nat := 0
def PySem.W.Fast.tw11711620433084898150 : Nat := 0
def PySem.W.Fast.tw1734694112155074558 : Nat := 0
def PySem.W.Fast.tw8257847014804495812 : Nat := 0
def PySem.W.Fast.tw4882729836782598012 : Nat := 0
def PySem.W.Fast.tw7759063735091641777 : Nat := 0
def PySem.W.Fast.tw18063150015484847580 : Nat := 0
def PySem.W.Fast.tw15013304441368411348 : Nat := 0
def PySem.W.Fast.tw16794273668880280205 : Nat := 0
def PySem.W.Fast.tw527334864764066154 : Nat := 0
def PySem.W.Fast.tw16918927581945962454 : Nat := 0
def PySem.W.Fast.tw12642533137475826864 : Nat := 0
def PySem.W.Fast.tw10688799509882845700 : Nat := 0
def PySem.W.Fast.tw12706835635181890703 : Nat := 0
def PySem.W.Fast.tw2229958056299230629 : Nat := 0
def PySem.W.Fast.tw12892247635063853866 : Nat := 0
def PySem.W.Fast.tw5573172960829480985 : Nat := 0
def PySem.W.Fast.tw3112499383093253484 : Nat := 0
def PySem.W.Fast.tw4804880773315995579 : Nat := 0
def PySem.W.Fast.tw16679593495305226879 : Nat := 0
def PySem.W.Fast.tw14052717890072668498 : Nat := 0
def PySem.W.Fast.tw1839488324292170983 : Nat := 0
def PySem.W.Fast.tw14380736992320692975 : Nat := 0
def PySem.W.Fast.tw4588733003760293917 : Nat := 0
def PySem.W.Fast.tw8405568856020764996 : Nat := 0
def PySem.W.Fast.tw17769603112472854758 : Nat := 0
def PySem.W.Fast.tw14672941667096902583 : Nat := 0
def PySem.W.Fast.tw7254669693279319955 : Nat := 0
def PySem.W.Fast.tw12070672139832867901 : Nat := 0
def PySem.W.Fast.tw13165019014305939320 : Nat := 0
def PySem.W.Fast.tw17406229021963793689 : Nat := 0
def PySem.W.Fast.tw2295521102501483380 : Nat := 0
def PySem.W.Fast.tw3824148211166420084 : Nat := 0
def PySem.W.Fast.tw17408400639142582037 : Nat := 0
def PySem.W.Fast.tw304505168616496798 : Nat := 0
def PySem.W.Fast.tw11166607336600332322 : Nat := 0
def PySem.W.Fast.tw3108252399360728958 : Nat := 0
def PySem.W.Fast.tw15356231336837603874 : Nat := 0
def PySem.W.Fast.tw6802508613223862966 : Nat := 0
def PySem.W.Fast.tw5470239677013686102 : Nat := 0
def PySem.W.Fast.tw17694741065519433051 : Nat := 0
def PySem.W.Fast.tw3497223934973665043 : Nat := 0
def PySem.W.Fast.tw12926790265793836945 : Nat := 0
def PySem.W.Fast.tw12443982386974143442 : Nat := 0
def PySem.W.Fast.tw8695039229777643470 : Nat := 0
def PySem.W.Fast.tw10368444609217877072 : Nat := 0
def PySem.W.Fast.tw18237649052147397363 : Nat := 0
def PySem.W.Fast.tw14697664206075949718 : Nat := 0
def PySem.W.Fast.tw10849288598193579370 : Nat := 0
def PySem.W.Fast.tw8272973302366920205 : Nat := 0
def PySem.W.Fast.tw5129780481477947699 : Nat := 0
def PySem.W.Fast.tw15880176129576538013 : Nat := 0
def PySem.W.Fast.tw4680570342504069672 : Nat := 0
def PySem.W.Fast.tw12750081670363264277 : Nat := 0
def PySem.W.Fast.tw3274507605739018581 : Nat := 0
def PySem.W.Fast.tw5726850498467225757 : Nat := 0
def PySem.W.Fast.tw7227270829282292559 : Nat := 0
def PySem.W.Fast.tw15838985649618535434 : Nat := 0
def PySem.W.Fast.tw6764989470385221750 : Nat := 0
def PySem.W.Fast.tw9852050284078047301 : Nat := 0
def PySem.W.Fast.tw17700629562229112287 : Nat := 0
def PySem.W.Fast.tw9013099640260664884 : Nat := 0
def PySem.W.Fast.tw11838336864980504445 : Nat := 0
def PySem.W.Fast.tw8649576121431637417 : Nat := 0
def PySem.W.Fast.tw694919477667255892 : Nat := 0
def PySem.W.Fast.tw5778519476710320935 : Nat := 0
def PySem.W.Fast.tw17051466421570936604 : Nat := 0
def PySem.W.Fast.tw1968345380346019769 : Nat := 0
def PySem.W.Fast.tw10460393454447480454 : Nat := 0
def PySem.W.Fast.tw10558794398075638433 : Nat := 0
def PySem.W.Fast.tw13527766135313441466 : Nat := 0
def PySem.W.Fast.tw15887781238622666151 : Nat := 0
def PySem.W.Fast.tw17482101610379302077 : Nat := 0
def PySem.W.Fast.tw2168726930214629234 : Nat := 0
def PySem.W.Fast.tw5814125056438252989 : Nat := 0
def PySem.W.Fast.tw12176742124266580749 : Nat := 0
set_option Elab.async false
set_option linter.all false
set_option maxRecDepth 100000
set_option maxHeartbeats 1000000
namespace K4
open PySem PySem.Spec L2 CT
open PyProof.Rows hiding St
def top (i : Nat) : Stmt := PySem.Challenge.pw_carrytower_k04_no_element.main.body.getD i (.Pass ⟨0, 0, 0, 0⟩)
abbrev sIsWhole : Stmt := top 10
abbrev sProduct : Stmt := top 11
abbrev sAre : Stmt := top 12
abbrev sNeed : Stmt := inClass (top 13) 7
abbrev sAdded : Stmt := inClass (top 13) 9
abbrev sBack : Stmt := inClass (top 13) 10
abbrev sTimes : Stmt := inClass (top 13) 11
abbrev sOrder : Stmt := inClass (top 13) 12
abbrev sTotal : Stmt := inClass (top 13) 13
abbrev sInit : Stmt := inClass (top 14) 0
abbrev sHas : Stmt := inClass (top 14) 2
abbrev sNought : Stmt := inClass (top 14) 3
abbrev sSum : Stmt := inClass (top 14) 7
abbrev sBackOf : Stmt := inClass (top 14) 8
abbrev sCell : Stmt := top 16
abbrev sWhole : Stmt := top 17
abbrev sRounds : Stmt := top 18
abbrev sElement : Stmt := top 19
abbrev sSpoilt : Stmt := top 20
abbrev sDue : Stmt := top 21
abbrev sAsked : Stmt := top 22
abbrev sRefused : Stmt := top 23
abbrev sLaw : Stmt := top 24
local macro_rules | `(tactic| walk_at "v") => `(tactic| first
  | exact de_var (i := 0) rfl (by first | exact Or.inl rfl | exact Or.inr (Or.inl rfl)) rfl
  | exact de_var (i := 1) rfl (by first | exact Or.inl rfl | exact Or.inr (Or.inl rfl)) rfl
  | exact de_var (i := 2) rfl (by first | exact Or.inl rfl | exact Or.inr (Or.inl rfl)) rfl
  | exact de_var (i := 3) rfl (by first | exact Or.inl rfl | exact Or.inr (Or.inl rfl)) rfl
  | exact de_var (i := 4) rfl (by first | exact Or.inl rfl | exact Or.inr (Or.inl rfl)) rfl
  | exact de_var (i := 5) rfl (by first | exact Or.inl rfl | exact Or.inr (Or.inl rfl)) rfl
  | exact de_var (i := 6) rfl (by first | exact Or.inl rfl | exact Or.inr (Or.inl rfl)) rfl
  | exact de_var (i := 7) rfl (by first | exact Or.inl rfl | exact Or.inr (Or.inl rfl)) rfl
  | exact de_var (i := 8) rfl (by first | exact Or.inl rfl | exact Or.inr (Or.inl rfl)) rfl
  | exact de_var (i := 9) rfl (by first | exact Or.inl rfl | exact Or.inr (Or.inl rfl)) rfl
  | exact de_var (i := 10) rfl (by first | exact Or.inl rfl | exact Or.inr (Or.inl rfl)) rfl
  | exact de_var (i := 11) rfl (by first | exact Or.inl rfl | exact Or.inr (Or.inl rfl)) rfl
  | exact de_var (i := 12) rfl (by first | exact Or.inl rfl | exact Or.inr (Or.inl rfl)) rfl)
local macro_rules | `(tactic| walk_at "c") => `(tactic| first
  | exact de_cv (by assumption) (i := 0) rfl rfl
  | exact de_cv (by assumption) (i := 1) rfl rfl
  | exact de_cv (by assumption) (i := 2) rfl rfl
  | exact de_cv (by assumption) (i := 3) rfl rfl
  | exact de_cv (by assumption) (i := 4) rfl rfl
  | exact de_cv (by assumption) (i := 5) rfl rfl)
section
variable {P : Program} {w : World} {K : PySem.W.Frag} {mg : Str → Option Value} {base : Heap}
theorem scIsWhole : FnScope ["thing"] ["thing"] (defScope sIsWhole) := ⟨rfl, rfl, rfl, by decide +kernel, rfl, by decide +kernel, by decide +kernel⟩
def pWhole (ds : List D) (d : D) : Prop := ∃ i, ds = [.int i] ∧ d = .bl true
structure Bl (mg : Str → Option Value) : Prop where
  isinstance : mg "isinstance" = none
  int : mg "int" = none
  bool : mg "bool" = none
  list : mg "list" = none
  tuple : mg "tuple" = none
  all : mg "all" = none
  len : mg "len" = none
  range : mg "range" = none
  zip : mg "zip" = none
  sum : mg "sum" = none
theorem ok_isWhole {f : Addr} {fd : FuncData} (F : Fun K "is_whole" "is_whole" sIsWhole f fd) (B : Bl mg) : FnOk P w K mg base CX0 1 f fd ["thing"] (spD K pWhole) := by
  refine fn_D F scIsWhole (fun ds d ⟨i, e, _⟩ => by rw [e]; rfl) fun cdv A outer s H E ds d hr ⟨i, e1, e2⟩ => ⟨.rt d, rfl, ?_⟩
  subst e1 e2
  refine dss_end (ds_ret ?_) trivial
  refine de_and (p := true) (q := true) ?_ fun _ => de_one (de_not (p := false) ?_)
  · exact de_isi rfl B.isinstance (.int i) (.ty "int") rfl (da_cons (by walk_at "v") (da_cons (de_ty rfl B.int boot_int') da_nil))
  · exact de_isi rfl B.isinstance (.int i) (.ty "bool") rfl (da_cons (by walk_at "v") (da_cons (de_ty rfl B.bool boot_bool') da_nil))
/-! ### product -/
theorem scProduct : FnScope ["numbers", "whole", "n"] ["numbers"] (defScope sProduct) := ⟨rfl, rfl, rfl, by decide +kernel, rfl, by decide +kernel, by decide +kernel⟩
def prod : List Int → Int := List.foldl (· * ·) 1
theorem prod_snoc (l : List Int) (a : Int) : prod (l ++ [a]) = prod l * a := by
  show List.foldl (· * ·) 1 (l ++ [a]) = _
  rw [List.foldl_append]; rfl
/-- small numbers -/
def Sm (ns : List Int) : Prop := ∀ n ∈ ns, -(2 ^ 64) < n ∧ n < 2 ^ 64
def pProduct (ds : List D) (d : D) : Prop := ∃ t ns, ds = [t] ∧ Sq t (intsD ns) ∧ Sm ns ∧ d = .int (prod ns)
theorem ok_product {f : Addr} {fd : FuncData} (F : Fun K "product" "product" sProduct f fd) : FnOk P w K mg base CX0 1 f fd ["numbers"] (spD K pProduct) := by
  refine fn_D F scProduct (fun ds d ⟨t, ns, e, _⟩ => by rw [e]; rfl) fun cdv A outer s H E ds d hr ⟨t, ns, e1, q, sm, e2⟩ => ⟨.rt d, rfl, ?_⟩
  subst e1 e2
  refine dss_cons (ds_set (i := 1) scProduct.nd rfl (Or.inl rfl) de_int) ?_
  refine dss_cons (ds_for PassesOwn.never rfl (di_sq q (by walk_at "v")) (forO_by (g := D.int) (fun done => [.val t, .val (.int (prod done)), lastS D.int .nil done]) ns fun done a rest e => ?_)) ?_
  · refine ⟨_, _, _, dg_name (k := 2) scProduct.nd rfl (Or.inl rfl), tg_set, dss_cons (ds_set (i := 1) scProduct.nd rfl (Or.inl rfl) (de_mul (.inr (sm a (by rw [e]; simp))) (by walk_at "v") (by walk_at "v"))) dss_nil, ?_⟩
    show [Sl.val t, .val (.int (prod done * a)), .val (.int a)] = [.val t, .val (.int (prod (done ++ [a]))), lastS D.int .nil (done ++ [a])]
    rw [lastS_snoc, prod_snoc]
  · exact dss_end (ds_ret (by walk_at "v")) trivial
/-! ### are_rounds -/
structure Gb (K : PySem.W.Frag) (mg : Str → Option Value) (fW fP : Addr) : Prop where
  least : ∃ t, mg "LEAST_ROUND" = some (.int 2 t)
  most : ∃ t, mg "MOST_MEMBERS" = some (.int 144 t)
  isw : mg "is_whole" = some (.ref fW)
  prd : mg "product" = some (.ref fP)
theorem scAre : FnScope ["thing"] ["thing"] (defScope sAre) := ⟨rfl, rfl, rfl, by decide +kernel, rfl, by decide +kernel, by decide +kernel⟩
/-- small numbers from 2 on -/
def Big (ns : List Int) : Prop := ∀ n ∈ ns, 2 ≤ n ∧ n < 2 ^ 64
theorem Big.sm {ns : List Int} (b : Big ns) : Sm ns := fun n h => ⟨by have := (b n h).1; omega, (b n h).2⟩
def pAre (ds : List D) (d : D) : Prop := ∃ t ns, ds = [t] ∧ Sq t (intsD ns) ∧ ns.length ≤ 1000 ∧ Big ns ∧ d = .bl (decide (prod ns ≤ 144))
theorem ok_are {f fW fP : Addr} {fd fdW fdP : FuncData} (F : Fun K "are_rounds" "are_rounds" sAre f fd) (B : Bl mg) (G : Gb K mg fW fP) (FW : Fun K "is_whole" "is_whole" sIsWhole fW fdW) (bW : Binds K fdW ["thing"] []) (FP : Fun K "product" "product" sProduct fP fdP) (bP : Binds K fdP ["numbers"] []) :
    FnOk P w K mg base CX0 2 f fd ["thing"] (spD K pAre) := by
  refine fn_D F scAre (fun ds d ⟨t, ns, e, _⟩ => by rw [e]; rfl) fun cdv A outer s H E ds d hr ⟨t, ns, e1, q, hl, big, e2⟩ => ⟨.rt d, rfl, ?_⟩
  subst e1 e2
  refine dss_cons (ds_if (q := false) (dt_not (p := true) (dt_val ?_)) (fun z => nomatch z) fun _ => dss_nil) ?_
  · cases q with
    | lst => exact de_isiT rfl B.isinstance (.lst _) (.cons (.ty "list") (.cons (.ty "tuple") .nil)) rfl (da_cons (by walk_at "v") (da_cons (de_tup (da_cons (de_ty rfl B.list boot_list') (da_cons (de_ty rfl B.tuple boot_tuple') da_nil)) (by decide)) da_nil))
    | tup => exact de_isiT rfl B.isinstance (.tup _) (.cons (.ty "list") (.cons (.ty "tuple") .nil)) rfl (da_cons (by walk_at "v") (da_cons (de_tup (da_cons (de_ty rfl B.list boot_list') (da_cons (de_ty rfl B.tuple boot_tuple') da_nil)) (by decide)) da_nil))
  obtain ⟨t2, ht2⟩ := G.least
  obtain ⟨t144, ht144⟩ := G.most
  refine dss_cons (ds_if (q := false) (dt_not (p := true) (dt_val ?_)) (fun z => nomatch z) fun _ => dss_nil) ?_
  · have e : (ns.map fun _ => true).all id = true := by simp
    rw [← e]
    refine de_all rfl Sq.l rfl B.all (da_cons (DC.de ?_) da_nil)
    rw [List.map_map]
    refine dc_mapW (sc := defScope sAre) (N := ["thing"]) (own := ["n"]) (cap := []) (k := 0) (g := D.int) rfl rfl (by decide +kernel) rfl rfl (di_sq q (by walk_at "v")).dI0 (by show ns.length ≤ 2 ^ 24; omega) fun cs n hn p s h fp => ?_
    refine de_and (p := true) (q := true) ?_ fun _ => de_one ?_
    · exact de_call (ok_isWhole FW B) (hr.mono (by decide)) rfl G.isw FW.kp bW (da_cons (by walk_at "c") da_nil) ⟨n, rfl, rfl⟩
    · exact DE.tru (c := 2 ≤ n) (de_ge (by walk_at "c") (de_globI rfl ht2)) (big n hn).1
  exact dss_end (ds_ret (de_le (de_call (ok_product FP) (hr.mono (by decide)) rfl G.prd FP.kp bP (da_cons (by walk_at "v") da_nil) ⟨t, ns, rfl, q, big.sm, rfl⟩) (de_globI rfl ht144))) trivial
/-- the class -/
structure Cl (K : PySem.W.Frag) (C : Addr) : Prop where
  cl : Cls K C
  nR : NoAttr K C "rounds"
/-- a group by the rounds ns -/
abbrev rf (ns : List Int) : List (Str × D) := [(("rounds" : Str), tupI ns)]
def grp (C : Addr) (ns : List Int) : D := .ins C (rf ns)
/-- rounds -/
structure Good (ns : List Int) : Prop where
  ge : ∀ n ∈ ns, 2 ≤ n
  le : prod ns ≤ 144
  lt : ∀ n ∈ ns, n ≤ 144
  len : ns.length ≤ 7
theorem Good.big {ns : List Int} (g : Good ns) : Big ns := fun n h => ⟨g.ge n h, by have := g.lt n h; omega⟩
theorem Good.l1000 {ns : List Int} (g : Good ns) : ns.length ≤ 1000 := Nat.le_trans g.len (by decide)
/-! ### __init__ -/
theorem scInit : FnScope ["self", "rounds"] ["self", "rounds"] (defScope sInit) := ⟨rfl, rfl, rfl, by decide +kernel, rfl, by decide +kernel, by decide +kernel⟩
def pInit (ds : List D) (fs : List (Str × D)) : Prop := ∃ t ns, ds = [t] ∧ Sq t (intsD ns) ∧ Good ns ∧ fs = rf ns
theorem ok_init {C f fA fW fP : Addr} {fd fdA fdW fdP : FuncData} (F : Fun K "__init__" "Rounds.__init__" sInit f fd) (B : Bl mg) (G : Gb K mg fW fP) (T : Cl K C) (mA : mg "are_rounds" = some (.ref fA)) (FA : Fun K "are_rounds" "are_rounds" sAre fA fdA) (bA : Binds K fdA ["thing"] [])
    (FW : Fun K "is_whole" "is_whole" sIsWhole fW fdW) (bW : Binds K fdW ["thing"] []) (FP : Fun K "product" "product" sProduct fP fdP) (bP : Binds K fdP ["numbers"] []) : FnOk P w K mg base CX0 3 f fd ["self", "rounds"] (spI K C pInit) := by
  refine fn_I F scInit (fun ds fs ⟨t, ns, e, _⟩ => by rw [e]; rfl) fun cdv A outer s H E ds fs z dx hr ⟨t, ns, e1, q, g, e2⟩ => ?_
  subst e1 e2
  refine ⟨[.new C z dx (rf ns), .val t], rfl, ?_⟩
  refine dss_cons (ρ' := [.new C z dx [], .val t]) (ds_if (q := false) (dt_not (p := true) (dt_val ?_)) (fun z => nomatch z) fun _ => dss_nil) ?_
  · exact DE.tru (c := prod ns ≤ 144) (de_call (ok_are FA B G FW bW FP bP) (hr.mono (by decide)) rfl mA FA.kp bA (da_cons (by walk_at "v") da_nil) ⟨t, ns, rfl, q, g.l1000, g.big, rfl⟩) g.le
  · exact dss_cons (ds_fld (i := 0) rfl (Or.inl rfl) rfl T.cl T.nR (by decide) (de_tuple q rfl B.tuple (da_cons (by walk_at "v") da_nil))) dss_nil
/-! ### nought, is_even -/
theorem scNought : FnScope ["self"] ["self"] (defScope sNought) := ⟨rfl, rfl, rfl, by decide +kernel, rfl, by decide +kernel, by decide +kernel⟩
def pNought (C : Addr) (ds : List D) (d : D) : Prop := ∃ ns, ds = [grp C ns] ∧ Good ns ∧ d = tupI (List.replicate ns.length 0)
theorem rep_ints (n : Nat) (i : Int) : List.replicate n (D.int i) = intsD (List.replicate n i) := by simp [intsD]
theorem ok_nought {C f : Addr} {fd : FuncData} (F : Fun K "nought" "Rounds.nought" sNought f fd) (B : Bl mg) (T : Cl K C) : FnOk P w K mg base CX0 1 f fd ["self"] (spD K (pNought C)) := by
  refine fn_D F scNought (fun ds d ⟨ns, e, _⟩ => by rw [e]; rfl) fun cdv A outer s H E ds d hr ⟨ns, e1, g, e2⟩ => ⟨.rt d, rfl, ?_⟩
  subst e1 e2
  have hl : (intsD ns).length = ns.length := by simp
  refine dss_end (ds_ret (DE.to (de_repT (k := ((intsD ns).length : Int)) (de_tup (da_cons de_int da_nil) (by decide)) (de_len Sq.t rfl B.len (da_cons (de_fld (by walk_at "v") T.cl T.nR rfl) da_nil)) (by omega) (by rw [hl]; have := g.len; omega)) ?_)) trivial
  rw [hl, Int.toNat_natCast, rep_ints]
/-! ### has -/
theorem scHas : FnScope ["self", "thing"] ["self", "thing"] (defScope sHas) := ⟨rfl, rfl, rfl, by decide +kernel, rfl, by decide +kernel, by decide +kernel⟩
def hasB (ns ks : List Int) : Bool := (ks.zip ns).all fun p => decide (0 ≤ p.1) && decide (p.1 < p.2)
def pHas (C : Addr) (ds : List D) (d : D) : Prop := ∃ ns ks, ds = [grp C ns, tupI ks] ∧ Good ns ∧ ks.length = ns.length ∧ d = .bl (hasB ns ks)
theorem ok_has {C f fW : Addr} {fd fdW : FuncData} (F : Fun K "has" "Rounds.has" sHas f fd) (B : Bl mg) (T : Cl K C) (mW : mg "is_whole" = some (.ref fW)) (FW : Fun K "is_whole" "is_whole" sIsWhole fW fdW) (bW : Binds K fdW ["thing"] []) : FnOk P w K mg base CX0 2 f fd ["self", "thing"] (spD K (pHas C)) := by
  refine fn_D F scHas (fun ds d ⟨ns, ks, e, _⟩ => by rw [e]; rfl) fun cdv A outer s H E ds d hr ⟨ns, ks, e1, g, hl, e2⟩ => ⟨.rt d, rfl, ?_⟩
  subst e1 e2
  refine dss_cons (ds_if (q := false) (DW.dt (dw_or (p := false) (q := false) (dt_not (p := true) (dt_val ?_)) fun _ => dw_or1 ?_)) (fun z => nomatch z) fun _ => dss_nil) ?_
  · exact de_isi rfl B.isinstance (.tup _) (.ty "tuple") rfl (da_cons (by walk_at "v") (da_cons (de_ty rfl B.tuple boot_tuple') da_nil))
  · refine DT.to (dt_neI (de_len Sq.t rfl B.len (da_cons (by walk_at "v") da_nil)) (de_len Sq.t rfl B.len (da_cons (de_fld (by walk_at "v") T.cl T.nR rfl) da_nil))) ?_
    simp [hl]
  · have e : hasB ns ks = ((ks.zip ns).map fun p => true && (decide (0 ≤ p.1) && decide (p.1 < p.2))).all id := by simp [hasB, List.all_map, Function.comp_def]
    rw [e]
    refine dss_end (ds_ret (de_all rfl Sq.l rfl B.all (da_cons (DC.de ?_) da_nil))) trivial
    rw [List.map_map]
    refine dc_map2 (sc := defScope sHas) (N := ["self", "thing"]) (own := ["k", "n"]) (cap := []) (k := 0) (k2 := 1) (l := ks.zip ns) (g1 := fun p => .int p.1) (g2 := fun p => .int p.2) rfl rfl (by decide +kernel) rfl rfl rfl ?_ ?_ fun cs pr hp p s h fp => ?_
    · rw [← zipD_ints]
      exact DI.dI0 (di_zip2 rfl B.zip Sq.t Sq.t (da_cons (by walk_at "v") (da_cons (de_fld (by walk_at "v") T.cl T.nR rfl) da_nil)))
    · have := g.len
      exact sz (by rw [List.length_zip]; omega)
    · exact de_and (p := true) (de_call (ok_isWhole FW B) (hr.mono (by decide)) rfl mW FW.kp bW (da_cons (by walk_at "c") da_nil) ⟨_, rfl, rfl⟩) fun _ => de_one (de_chain de_int (by walk_at "c") (by walk_at "c"))
/-! ### _law_cell -/
theorem scCell : FnScope ["_law_script", "_law_k", "_law_cell_here", "_law_first"] ["_law_script", "_law_k"] (defScope sCell) := ⟨rfl, rfl, rfl, by decide +kernel, rfl, by decide +kernel, by decide +kernel⟩
def at0 (ns : List Int) (k : Int) : Int := ns.getD (k % (ns.length : Int)).toNat 0
def mixed (c k : Int) : Int :=
  ((c % 1000000007 + 7919 * k + 11) * 48271 % 2147483647 * 69621 + 17 * k) % 2147483629 * 2147483647 + (c % 1000000007 + 7919 * k + 11) * 48271 % 2147483647 * 16807 % 2147483647
def cell (ns : List Int) (k : Int) : Int := if ns.sum % 2 = 1 then at0 ns k else mixed (at0 ns k) k
def pCell (ds : List D) (d : D) : Prop := ∃ ns k, ds = [.lst (intsD ns), .int k] ∧ d = .int (cell ns k)
theorem at0_ix {ns : List Int} {k : Int} (h : 0 < ns.length) : atI (intsD ns) (k % (ns.length : Int)) = some (.int (at0 ns k)) := by
  have h1 : 0 ≤ k % (ns.length : Int) := Int.emod_nonneg _ (by omega)
  have h2 : k % (ns.length : Int) < ns.length := Int.emod_lt_of_pos _ (by omega)
  have e : k % (ns.length : Int) = (((k % (ns.length : Int)).toNat : Nat) : Int) := by omega
  rw [e]
  refine atI_nat ?_
  have h3 : (k % (ns.length : Int)).toNat < ns.length := by omega
  simp [intsD, at0, h3]
theorem ok_cell {f : Addr} {fd : FuncData} (F : Fun K "_law_cell" "_law_cell" sCell f fd) (B : Bl mg) : FnOk P w K mg base CX0 1 f fd ["_law_script", "_law_k"] (spD K pCell) := by
  refine fn_D F scCell (fun ds d ⟨ns, k, e, _⟩ => by rw [e]; rfl) fun cdv A outer s H E ds d hr ⟨ns, k, e1, e2⟩ => ⟨.rt d, rfl, ?_⟩
  subst e1 e2
  have hl : (intsD ns).length = ns.length := by simp
  refine dss_cons (ds_set (i := 2) scCell.nd rfl (Or.inl rfl) de_int) ?_
  refine dss_cons (ρ' := [.val (.lst (intsD ns)), .val (.int k), .val (.int (at0 ns k)), .nil]) (ds_if (q := decide ((0 : Int) < ((intsD ns).length : Int))) (dt_gt (de_len Sq.l rfl B.len (da_cons (by walk_at "v") da_nil)) de_int) (fun z => ?_) fun z => ?_) ?_
  · have hp : 0 < ns.length := by have := of_decide_eq_true z; rw [hl] at this; omega
    refine dss_cons (ds_set (i := 2) scCell.nd rfl (Or.inl rfl) (de_ixL (by walk_at "v") (de_mod (by rw [hl]; omega) (by walk_at "v") (de_len Sq.l rfl B.len (da_cons (by walk_at "v") da_nil))) (by rw [hl]; exact at0_ix hp))) dss_nil
  · have hp : ns = [] := by have := of_decide_eq_false z; rw [hl] at this; exact List.length_eq_zero_iff.mp (by omega)
    subst hp
    exact dss_nil
  by_cases hs : ns.sum % 2 = 1
  · refine dss_end (ds_if (q := true) (DT.to (dt_eqI (de_mod (by decide) (de_sum (ns := ns) rfl rfl B.sum (da_cons (by walk_at "v") da_nil)) de_int) de_int) (decide_eq_true hs)) (fun _ => dss_end (ds_ret (DE.to (by walk_at "v") ?_)) trivial) fun z => nomatch z) trivial
    rw [cell, if_pos hs]
  · refine dss_cons (ds_if (q := false) (DT.to (dt_eqI (de_mod (by decide) (de_sum (ns := ns) rfl rfl B.sum (da_cons (by walk_at "v") da_nil)) de_int) de_int) (decide_eq_false hs)) (fun z => nomatch z) fun _ => dss_nil) ?_
    refine dss_cons (ds_set (i := 3) scCell.nd rfl (Or.inl rfl) (de_mod (by decide) (de_mul (cmR (by decide) (by decide)) (de_add (de_add (de_mod (by decide) (by walk_at "v") de_int) (de_mul (cmL (by decide) (by decide)) de_int (by walk_at "v"))) de_int) de_int) de_int)) ?_
    refine dss_end (ds_ret (DE.to (de_add (de_mul (cmR (by decide) (by decide)) (de_mod (by decide) (de_add (de_mul (cmR (by decide) (by decide)) (by walk_at "v") de_int) (de_mul (cmL (by decide) (by decide)) de_int (by walk_at "v"))) de_int) de_int) (de_mod (by decide) (de_mul (cmR (by decide) (by decide)) (by walk_at "v") de_int) de_int)) ?_)) trivial
    rw [cell, if_neg hs]
    rfl
/-! ### _law_whole, _law_same, _law_same_list -/
theorem scWhole : FnScope ["_law_found"] ["_law_found"] (defScope sWhole) := ⟨rfl, rfl, rfl, by decide +kernel, rfl, by decide +kernel, by decide +kernel⟩
theorem isDatL_ints : ∀ ks : List Int, isDatL (ks.map .int) = true
  | [] => rfl
  | k :: ks => by show (true && isDatL (ks.map .int)) = true; rw [isDatL_ints ks]; rfl
theorem isDat_tupI (ks : List Int) : isDat (tupI ks) = true := isDatL_ints ks
theorem depth_ints : ∀ ks : List Int, PyData.depthAll (toPyL (ks.map .int)) = 0
  | [] => rfl
  | k :: ks => by
    show max (PyData.depth (.int k)) (PyData.depthAll (toPyL (ks.map .int))) = 0
    rw [depth_ints ks]; rfl
theorem depth_tupI (ks : List Int) : (toPy (tupI ks)).depth = 1 := by
  show PyData.depthAll (toPyL (ks.map .int)) + 1 = 1
  rw [depth_ints]
theorem eqD_self {d : D} (h : isDat d = true) : eqD d d = true := SeqAt.eqv_refl _ (dat_lay h)
end
end K4
set_option Elab.async false
set_option linter.all false
set_option maxRecDepth 100000
set_option maxHeartbeats 1000000
namespace K4
open PySem PySem.Spec L2 CT
open PyProof.Rows hiding St
/-! ### sums, backs, so many times, place by place -/
def addI (ns x y : List Int) : List Int := (x.zip (y.zip ns)).map fun p => (p.1 + p.2.1) % p.2.2
def mulI (ns : List Int) (m : Int) (x : List Int) : List Int := (x.zip ns).map fun p => m * p.1 % p.2
/-- an element -/
structure El (ns ks : List Int) : Prop where
  len : ks.length = ns.length
  has : hasB ns ks = true
theorem hasB_cons {n k : Int} {ns ks : List Int} : hasB (n :: ns) (k :: ks) = ((decide (0 ≤ k) && decide (k < n)) && hasB ns ks) := by simp [hasB]
theorem El.nil : El [] [] := ⟨rfl, rfl⟩
theorem El.cons {n k : Int} {ns ks : List Int} (h1 : 0 ≤ k) (h2 : k < n) (e : El ns ks) : El (n :: ns) (k :: ks) := ⟨by simp [e.len], by rw [hasB_cons, e.has]; simp [h1, h2]⟩
theorem El.inv {n : Int} {ns ks : List Int} (e : El (n :: ns) ks) : ∃ k r, ks = k :: r ∧ 0 ≤ k ∧ k < n ∧ El ns r := by
  cases ks with
  | nil => have := e.len; simp at this
  | cons k r =>
    have h := e.has
    rw [hasB_cons] at h
    simp only [Bool.and_eq_true, decide_eq_true_eq] at h
    exact ⟨k, r, rfl, h.1.1, h.1.2, ⟨by have := e.len; simpa using this, h.2⟩⟩
def Ge2 (ns : List Int) : Prop := ∀ n ∈ ns, 2 ≤ n
theorem Ge2.tail {n : Int} {ns : List Int} (g : Ge2 (n :: ns)) : Ge2 ns := fun k hk => g k (List.mem_cons_of_mem _ hk)
theorem Ge2.head {n : Int} {ns : List Int} (g : Ge2 (n :: ns)) : 2 ≤ n := g n List.mem_cons_self
theorem addI_cons {n a b : Int} {ns x y : List Int} : addI (n :: ns) (a :: x) (b :: y) = (a + b) % n :: addI ns x y := rfl
theorem mulI_cons {n a m : Int} {ns x : List Int} : mulI (n :: ns) m (a :: x) = m * a % n :: mulI ns m x := rfl
theorem mod_ok {a n : Int} (h : 2 ≤ n) : 0 ≤ a % n ∧ a % n < n := ⟨Int.emod_nonneg _ (by omega), Int.emod_lt_of_pos _ (by omega)⟩
theorem El.add : ∀ {ns x y : List Int}, Ge2 ns → El ns x → El ns y → El ns (addI ns x y)
  | [], x, y, _, h1, h2 => by
    have e : x = [] := List.length_eq_zero_iff.mp h1.len
    subst e; exact El.nil
  | n :: ns, x, y, g, h1, h2 => by
    obtain ⟨a, x', rfl, _, _, hx⟩ := h1.inv
    obtain ⟨b, y', rfl, _, _, hy⟩ := h2.inv
    rw [addI_cons]
    exact El.cons (mod_ok g.head).1 (mod_ok g.head).2 (El.add g.tail hx hy)
theorem El.mul {m : Int} : ∀ {ns x : List Int}, Ge2 ns → El ns x → El ns (mulI ns m x)
  | [], x, _, h1 => by
    have e : x = [] := List.length_eq_zero_iff.mp h1.len
    subst e; exact El.nil
  | n :: ns, x, g, h1 => by
    obtain ⟨a, x', rfl, _, _, hx⟩ := h1.inv
    rw [mulI_cons]
    exact El.cons (mod_ok g.head).1 (mod_ok g.head).2 (El.mul g.tail hx)
theorem mulI_one : ∀ {ns x : List Int}, El ns x → mulI ns 1 x = x
  | [], x, h1 => by
    have e : x = [] := List.length_eq_zero_iff.mp h1.len
    subst e; rfl
  | n :: ns, x, h1 => by
    obtain ⟨a, x', rfl, h2, h3, hx⟩ := h1.inv
    rw [mulI_cons, mulI_one hx, Int.one_mul, Int.emod_eq_of_lt h2 h3]
theorem mulI_zero : ∀ {ns x : List Int}, El ns x → mulI ns 0 x = List.replicate ns.length 0
  | [], x, h1 => by
    have e : x = [] := List.length_eq_zero_iff.mp h1.len
    subst e; rfl
  | n :: ns, x, h1 => by
    obtain ⟨a, x', rfl, h2, h3, hx⟩ := h1.inv
    rw [mulI_cons, mulI_zero hx, Int.zero_mul, Int.zero_emod]; rfl
theorem add_mul {a b : Int} : ∀ {ns x : List Int}, El ns x → addI ns (mulI ns a x) (mulI ns b x) = mulI ns (a + b) x
  | [], x, h1 => by
    have e : x = [] := List.length_eq_zero_iff.mp h1.len
    subst e; rfl
  | n :: ns, x, h1 => by
    obtain ⟨k, x', rfl, h2, h3, hx⟩ := h1.inv
    rw [mulI_cons, mulI_cons, mulI_cons, addI_cons, add_mul hx, Int.add_mul, ← Int.add_emod]
theorem El.zero : ∀ {ns : List Int}, Ge2 ns → El ns (List.replicate ns.length 0)
  | [], _ => El.nil
  | n :: ns, g => by
    show El (n :: ns) (0 :: List.replicate ns.length 0)
    exact El.cons (Int.le_refl 0) (by have := g.head; omega) (El.zero g.tail)
theorem zip3_ints : ∀ {x y ns : List Int}, zipD3 (x.map .int) (y.map .int) (ns.map .int) = (x.zip (y.zip ns)).map fun p => D.tup [.int p.1, .int p.2.1, .int p.2.2]
  | [], _, _ => by simp [zipD3]
  | _ :: _, [], _ => by simp [zipD3]
  | _ :: _, _ :: _, [] => by simp [zipD3]
  | a :: x, b :: y, n :: ns => by simp [zipD3, zip3_ints]
theorem mem_zip3 {x y ns : List Int} {p : Int × Int × Int} (h : p ∈ x.zip (y.zip ns)) : p.2.2 ∈ ns := (List.of_mem_zip (List.of_mem_zip h).2).2
local macro_rules | `(tactic| walk_at "v") => `(tactic| first
  | exact de_var (i := 0) rfl (by first | exact Or.inl rfl | exact Or.inr (Or.inl rfl)) rfl
  | exact de_var (i := 1) rfl (by first | exact Or.inl rfl | exact Or.inr (Or.inl rfl)) rfl
  | exact de_var (i := 2) rfl (by first | exact Or.inl rfl | exact Or.inr (Or.inl rfl)) rfl
  | exact de_var (i := 3) rfl (by first | exact Or.inl rfl | exact Or.inr (Or.inl rfl)) rfl
  | exact de_var (i := 4) rfl (by first | exact Or.inl rfl | exact Or.inr (Or.inl rfl)) rfl
  | exact de_var (i := 5) rfl (by first | exact Or.inl rfl | exact Or.inr (Or.inl rfl)) rfl
  | exact de_var (i := 6) rfl (by first | exact Or.inl rfl | exact Or.inr (Or.inl rfl)) rfl
  | exact de_var (i := 7) rfl (by first | exact Or.inl rfl | exact Or.inr (Or.inl rfl)) rfl
  | exact de_var (i := 8) rfl (by first | exact Or.inl rfl | exact Or.inr (Or.inl rfl)) rfl
  | exact de_var (i := 9) rfl (by first | exact Or.inl rfl | exact Or.inr (Or.inl rfl)) rfl
  | exact de_var (i := 10) rfl (by first | exact Or.inl rfl | exact Or.inr (Or.inl rfl)) rfl
  | exact de_var (i := 11) rfl (by first | exact Or.inl rfl | exact Or.inr (Or.inl rfl)) rfl
  | exact de_var (i := 12) rfl (by first | exact Or.inl rfl | exact Or.inr (Or.inl rfl)) rfl)
local macro_rules | `(tactic| walk_at "c") => `(tactic| first
  | exact de_cv (by assumption) (i := 0) rfl rfl
  | exact de_cv (by assumption) (i := 1) rfl rfl
  | exact de_cv (by assumption) (i := 2) rfl rfl
  | exact de_cv (by assumption) (i := 3) rfl rfl
  | exact de_cv (by assumption) (i := 4) rfl rfl
  | exact de_cv (by assumption) (i := 5) rfl rfl)
section
variable {P : Program} {w : World} {K : PySem.W.Frag} {mg : Str → Option Value} {base : Heap}
theorem Good.g2 {ns : List Int} (g : Good ns) : Ge2 ns := g.ge
/-! ### sum_of, back_of -/
theorem scSum : FnScope ["self", "x", "y"] ["self", "x", "y"] (defScope sSum) := ⟨rfl, rfl, rfl, by decide +kernel, rfl, by decide +kernel, by decide +kernel⟩
def pSum (C : Addr) (ds : List D) (d : D) : Prop := ∃ ns x y, ds = [grp C ns, tupI x, tupI y] ∧ Good ns ∧ El ns x ∧ El ns y ∧ d = tupI (addI ns x y)
theorem ok_sum {C f : Addr} {fd : FuncData} (F : Fun K "sum_of" "Rounds.sum_of" sSum f fd) (B : Bl mg) (T : Cl K C) : FnOk P w K mg base CX0 1 f fd ["self", "x", "y"] (spD K (pSum C)) := by
  refine fn_D F scSum (fun ds d ⟨ns, x, y, e, _⟩ => by rw [e]; rfl) fun cdv A outer s H E ds d hr ⟨ns, x, y, e1, g, hx, hy, e2⟩ => ⟨.rt d, rfl, ?_⟩
  subst e1 e2
  refine dss_end (ds_ret (de_tuple Sq.l rfl B.tuple (da_cons (DC.de ?_) da_nil))) trivial
  show DC _ _ _ (((x.zip (y.zip ns)).map fun p => (p.1 + p.2.1) % p.2.2).map D.int)
  rw [List.map_map]
  refine dc_map3 (sc := defScope sSum) (N := ["self", "x", "y"]) (own := ["k", "m", "n"]) (cap := []) (k := 0) (k2 := 1) (k3 := 2) (l := x.zip (y.zip ns)) (g1 := fun p => .int p.1) (g2 := fun p => .int p.2.1) (g3 := fun p => .int p.2.2) rfl rfl (by decide +kernel) rfl rfl rfl rfl ?_ ?_ fun cs pr hp p s h fp => ?_
  · rw [← zip3_ints]
    exact DI.dI0 (di_zip3 rfl B.zip Sq.t Sq.t Sq.t (da_cons (by walk_at "v") (da_cons (by walk_at "v") (da_cons (de_fld (by walk_at "v") T.cl T.nR rfl) da_nil))))
  · have := g.len
    have := hx.len
    refine sz ?_
    rw [List.length_zip]
    omega
  · exact de_mod (by have := g.ge _ (mem_zip3 hp); omega) (de_add (by walk_at "c") (by walk_at "c")) (by walk_at "c")
theorem scBackOf : FnScope ["self", "x"] ["self", "x"] (defScope sBackOf) := ⟨rfl, rfl, rfl, by decide +kernel, rfl, by decide +kernel, by decide +kernel⟩
def pBackOf (C : Addr) (ds : List D) (d : D) : Prop := ∃ ns x, ds = [grp C ns, tupI x] ∧ Good ns ∧ El ns x ∧ d = tupI (mulI ns (-1) x)
theorem ok_backOf {C f : Addr} {fd : FuncData} (F : Fun K "back_of" "Rounds.back_of" sBackOf f fd) (B : Bl mg) (T : Cl K C) : FnOk P w K mg base CX0 1 f fd ["self", "x"] (spD K (pBackOf C)) := by
  refine fn_D F scBackOf (fun ds d ⟨ns, x, e, _⟩ => by rw [e]; rfl) fun cdv A outer s H E ds d hr ⟨ns, x, e1, g, hx, e2⟩ => ⟨.rt d, rfl, ?_⟩
  subst e1 e2
  refine dss_end (ds_ret (de_tuple Sq.l rfl B.tuple (da_cons (DC.de ?_) da_nil))) trivial
  show DC _ _ _ (((x.zip ns).map fun p => -1 * p.1 % p.2).map D.int)
  rw [List.map_map]
  refine dc_map2 (sc := defScope sBackOf) (N := ["self", "x"]) (own := ["k", "n"]) (cap := []) (k := 0) (k2 := 1) (l := x.zip ns) (g1 := fun p => .int p.1) (g2 := fun p => .int p.2) rfl rfl (by decide +kernel) rfl rfl rfl ?_ ?_ fun cs pr hp p s h fp => ?_
  · rw [← zipD_ints]
    exact DI.dI0 (di_zip2 rfl B.zip Sq.t Sq.t (da_cons (by walk_at "v") (da_cons (de_fld (by walk_at "v") T.cl T.nR rfl) da_nil)))
  · have := g.len
    have := hx.len
    refine sz ?_
    rw [List.length_zip]
    omega
  · refine DE.to (de_mod (i := -pr.1) (j := pr.2) (by have := g.ge _ (List.of_mem_zip hp).2; omega) (de_neg (by walk_at "c")) (by walk_at "c")) ?_
    show D.int (-pr.1 % pr.2) = D.int (-1 * pr.1 % pr.2)
    rw [Int.neg_mul, Int.one_mul]
/-! ### need, added, back -/
theorem scNeed : FnScope ["self", "thing"] ["self", "thing"] (defScope sNeed) := ⟨rfl, rfl, rfl, by decide +kernel, rfl, by decide +kernel, by decide +kernel⟩
def pNeed (C : Addr) (ds : List D) (d : D) : Prop := ∃ ns x, ds = [grp C ns, tupI x] ∧ Good ns ∧ El ns x ∧ d = .non
/-- the class and its methods -/
structure Ms (K : PySem.W.Frag) (mg : Str → Option Value) (C fW fHas fNou fSum fBack fNeed : Addr) (dW dHas dNou dSum dBack dNeed : FuncData) : Prop where
  B : Bl mg
  T : Cl K C
  mW : mg "is_whole" = some (.ref fW)
  FW : Fun K "is_whole" "is_whole" sIsWhole fW dW
  FHas : Fun K "has" "Rounds.has" sHas fHas dHas
  FNou : Fun K "nought" "Rounds.nought" sNought fNou dNou
  FSum : Fun K "sum_of" "Rounds.sum_of" sSum fSum dSum
  FBack : Fun K "back_of" "Rounds.back_of" sBackOf fBack dBack
  FNeed : Fun K "need" "Group.need" sNeed fNeed dNeed
  eHas : Meth K C "has" fHas
  eNou : Meth K C "nought" fNou
  eSum : Meth K C "sum_of" fSum
  eBack : Meth K C "back_of" fBack
  eNeed : Meth K C "need" fNeed
section
variable {C fW fHas fNou fSum fBack fNeed : Addr} {dW dHas dNou dSum dBack dNeed : FuncData}
theorem Ms.bW (M : Ms K mg C fW fHas fNou fSum fBack fNeed dW dHas dNou dSum dBack dNeed) : Binds K dW ["thing"] [] := M.FW.binds fun _ _ _ _ _ _ us hl => match us, hl with | [_], _ => rfl
theorem Ms.bHas (M : Ms K mg C fW fHas fNou fSum fBack fNeed dW dHas dNou dSum dBack dNeed) : Binds K dHas ["self", "thing"] [] := M.FHas.binds fun _ _ _ _ _ _ us hl => match us, hl with | [_, _], _ => rfl
theorem Ms.bNou (M : Ms K mg C fW fHas fNou fSum fBack fNeed dW dHas dNou dSum dBack dNeed) : Binds K dNou ["self"] [] := M.FNou.binds fun _ _ _ _ _ _ us hl => match us, hl with | [_], _ => rfl
theorem Ms.bSum (M : Ms K mg C fW fHas fNou fSum fBack fNeed dW dHas dNou dSum dBack dNeed) : Binds K dSum ["self", "x", "y"] [] := M.FSum.binds fun _ _ _ _ _ _ us hl => match us, hl with | [_, _, _], _ => rfl
theorem Ms.bBack (M : Ms K mg C fW fHas fNou fSum fBack fNeed dW dHas dNou dSum dBack dNeed) : Binds K dBack ["self", "x"] [] := M.FBack.binds fun _ _ _ _ _ _ us hl => match us, hl with | [_, _], _ => rfl
theorem Ms.bNeed (M : Ms K mg C fW fHas fNou fSum fBack fNeed dW dHas dNou dSum dBack dNeed) : Binds K dNeed ["self", "thing"] [] := M.FNeed.binds fun _ _ _ _ _ _ us hl => match us, hl with | [_, _], _ => rfl
theorem ok_need (M : Ms K mg C fW fHas fNou fSum fBack fNeed dW dHas dNou dSum dBack dNeed) : FnOk P w K mg base CX0 3 fNeed dNeed ["self", "thing"] (spD K (pNeed C)) := by
  refine fn_D M.FNeed scNeed (fun ds d ⟨ns, x, e, _⟩ => by rw [e]; rfl) fun cdv A outer s H E ds d hr ⟨ns, x, e1, g, hx, e2⟩ => ⟨.nx [.val (grp C ns), .val (tupI x)], e2, ?_⟩
  subst e1
  refine dss_cons (ds_if (q := false) (dt_not (p := true) (dt_val ?_)) (fun z => nomatch z) fun _ => dss_nil) dss_nil
  exact DE.to (de_meth (by walk_at "v") rfl M.T.cl M.eHas (ok_has M.FHas M.B M.T M.mW M.FW M.bW) (hr.mono (by decide)) M.bHas (da_cons (by walk_at "v") da_nil) ⟨ns, x, rfl, g, hx.len, rfl⟩) (by rw [hx.has])
variable {X : Cx} {ρ : Rho} {ns x y : List Int} {e e2 o : Expr} {pos apos : Pos}
end
end
end K4
set_option Elab.async false
set_option linter.all false
set_option maxRecDepth 100000
set_option maxHeartbeats 2000000
namespace K4
open PySem PySem.Spec L2 CT
open PyProof.Rows hiding St
def whC : Stmt → Expr
  | .While c _ _ _ => c
  | _ => .Constant .none 0 ⟨0, 0, 0, 0⟩
def whB : Stmt → List Stmt
  | .While _ b _ _ => b
  | _ => []
/-! ### the least number -/
def firstN (p : Nat → Bool) : Nat → Nat → Nat
  | 0, s => s
  | f + 1, s => if p s = true then s else firstN p f (s + 1)
theorem eqvAll_ints : ∀ (a b : List Int), PyData.eqvAll (toPyL (a.map .int)) (toPyL (b.map .int)) = decide (a = b)
  | [], [] => by simp [toPyL, PyData.eqvAll]
  | [], _ :: _ => by simp [toPyL, PyData.eqvAll]
  | _ :: _, [] => by simp [toPyL, PyData.eqvAll]
  | x :: a, y :: b => by
    show (PyData.eqv (.int x) (.int y) && PyData.eqvAll (toPyL (a.map .int)) (toPyL (b.map .int))) = _
    rw [eqvAll_ints a b]
    show ((x == y) && decide (a = b)) = _
    by_cases h1 : x = y <;> by_cases h2 : a = b <;> simp [h1, h2]
theorem eqD_tupI (a b : List Int) : eqD (tupI a) (tupI b) = decide (a = b) := eqvAll_ints a b
def zB (ns x : List Int) (n : Nat) : Bool := decide (mulI ns (n : Int) x = List.replicate ns.length 0)
def ordN (ns x : List Int) : Nat := firstN (zB ns x) (prod ns).toNat 1
theorem dvd_prod {ns : List Int} {n : Int} (h : n ∈ ns) : n ∣ prod ns := by
  have go : ∀ (l : List Int) (acc : Int), (n ∣ acc ∨ n ∈ l) → n ∣ l.foldl (· * ·) acc := by
    intro l
    induction l with
    | nil => intro acc h; rcases h with h | h; exact h; cases h
    | cons a l ih =>
      intro acc h
      refine ih (acc * a) ?_
      rcases h with h | h
      · exact .inl (Int.dvd_trans h (Int.dvd_mul_right _ _))
      · rcases List.mem_cons.mp h with h | h
        · exact .inl (by rw [h]; exact Int.dvd_mul_left _ _)
        · exact .inr h
  exact go ns 1 (.inr h)
theorem mul_zero_of {m : Int} : ∀ {ns x : List Int}, El ns x → (∀ n ∈ ns, n ∣ m) → mulI ns m x = List.replicate ns.length 0
  | [], x, h1, _ => by
    have e : x = [] := List.length_eq_zero_iff.mp h1.len
    subst e; rfl
  | n :: ns, x, h1, hd => by
    obtain ⟨k, x', rfl, h2, h3, hx⟩ := h1.inv
    rw [mulI_cons, mul_zero_of hx fun k hk => hd k (List.mem_cons_of_mem _ hk), Int.emod_eq_zero_of_dvd (Int.dvd_trans (hd n List.mem_cons_self) (Int.dvd_mul_right _ _))]
    rfl
theorem prod_pos' : ∀ {ns : List Int}, Ge2 ns → 1 ≤ prod ns := by
  intro ns h
  have go : ∀ (l : List Int) (acc : Int), 1 ≤ acc → (∀ n ∈ l, 2 ≤ n) → 1 ≤ l.foldl (· * ·) acc := by
    intro l
    induction l with
    | nil => intro acc h _; exact h
    | cons a l ih =>
      intro acc h hl
      refine ih (acc * a) ?_ fun n hn => hl n (List.mem_cons_of_mem _ hn)
      have := Int.mul_le_mul h (show (1 : Int) ≤ a by have := hl a List.mem_cons_self; omega) (by decide) (by omega)
      simpa using this
  exact go ns 1 (by decide) h
theorem zB_prod {ns x : List Int} (g : Ge2 ns) (h : El ns x) : ∃ j, j ≤ (prod ns).toNat ∧ zB ns x (1 + j) = true := by
  have hp := prod_pos' g
  refine ⟨(prod ns).toNat - 1, by omega, decide_eq_true ?_⟩
  have e : ((1 + ((prod ns).toNat - 1) : Nat) : Int) = prod ns := by omega
  rw [e]
  exact mul_zero_of h fun n hn => dvd_prod hn
local macro_rules | `(tactic| walk_at "v") => `(tactic| first
  | exact de_var (i := 0) rfl (by first | exact Or.inl rfl | exact Or.inr (Or.inl rfl)) rfl
  | exact de_var (i := 1) rfl (by first | exact Or.inl rfl | exact Or.inr (Or.inl rfl)) rfl
  | exact de_var (i := 2) rfl (by first | exact Or.inl rfl | exact Or.inr (Or.inl rfl)) rfl
  | exact de_var (i := 3) rfl (by first | exact Or.inl rfl | exact Or.inr (Or.inl rfl)) rfl
  | exact de_var (i := 4) rfl (by first | exact Or.inl rfl | exact Or.inr (Or.inl rfl)) rfl
  | exact de_var (i := 5) rfl (by first | exact Or.inl rfl | exact Or.inr (Or.inl rfl)) rfl
  | exact de_var (i := 6) rfl (by first | exact Or.inl rfl | exact Or.inr (Or.inl rfl)) rfl
  | exact de_var (i := 7) rfl (by first | exact Or.inl rfl | exact Or.inr (Or.inl rfl)) rfl
  | exact de_var (i := 8) rfl (by first | exact Or.inl rfl | exact Or.inr (Or.inl rfl)) rfl
  | exact de_var (i := 9) rfl (by first | exact Or.inl rfl | exact Or.inr (Or.inl rfl)) rfl
  | exact de_var (i := 10) rfl (by first | exact Or.inl rfl | exact Or.inr (Or.inl rfl)) rfl
  | exact de_var (i := 11) rfl (by first | exact Or.inl rfl | exact Or.inr (Or.inl rfl)) rfl
  | exact de_var (i := 12) rfl (by first | exact Or.inl rfl | exact Or.inr (Or.inl rfl)) rfl)
local macro_rules | `(tactic| walk_at "c") => `(tactic| first
  | exact de_cv (by assumption) (i := 0) rfl rfl
  | exact de_cv (by assumption) (i := 1) rfl rfl
  | exact de_cv (by assumption) (i := 2) rfl rfl
  | exact de_cv (by assumption) (i := 3) rfl rfl
  | exact de_cv (by assumption) (i := 4) rfl rfl
  | exact de_cv (by assumption) (i := 5) rfl rfl)
section
variable {P : Program} {w : World} {K : PySem.W.Frag} {mg : Str → Option Value} {base : Heap}
variable {C fW fHas fNou fSum fBack fNeed : Addr} {dW dHas dNou dSum dBack dNeed : FuncData}
/-! ### added, back -/
theorem scAdded : FnScope ["self", "x", "y"] ["self", "x", "y"] (defScope sAdded) := ⟨rfl, rfl, rfl, by decide +kernel, rfl, by decide +kernel, by decide +kernel⟩
theorem ok_added (M : Ms K mg C fW fHas fNou fSum fBack fNeed dW dHas dNou dSum dBack dNeed) {f : Addr} {fd : FuncData} (F : Fun K "added" "Group.added" sAdded f fd) : FnOk P w K mg base CX0 4 f fd ["self", "x", "y"] (spD K (pSum C)) := by
  refine fn_D F scAdded (fun ds d ⟨ns, x, y, e, _⟩ => by rw [e]; rfl) fun cdv A outer s H E ds d hr ⟨ns, x, y, e1, g, hx, hy, e2⟩ => ⟨.rt d, rfl, ?_⟩
  subst e1 e2
  refine dss_cons (ds_expr (de_meth (by walk_at "v") rfl M.T.cl M.eNeed (ok_need M) (hr.mono (by decide)) M.bNeed (da_cons (by walk_at "v") da_nil) ⟨ns, x, rfl, g, hx, rfl⟩)) ?_
  refine dss_cons (ds_expr (de_meth (by walk_at "v") rfl M.T.cl M.eNeed (ok_need M) (hr.mono (by decide)) M.bNeed (da_cons (by walk_at "v") da_nil) ⟨ns, y, rfl, g, hy, rfl⟩)) ?_
  exact dss_end (ds_ret (de_meth (by walk_at "v") rfl M.T.cl M.eSum (ok_sum M.FSum M.B M.T) (hr.mono (by decide)) M.bSum (da_cons (by walk_at "v") (da_cons (by walk_at "v") da_nil)) ⟨ns, x, y, rfl, g, hx, hy, rfl⟩)) trivial
theorem scBack : FnScope ["self", "x"] ["self", "x"] (defScope sBack) := ⟨rfl, rfl, rfl, by decide +kernel, rfl, by decide +kernel, by decide +kernel⟩
theorem ok_back (M : Ms K mg C fW fHas fNou fSum fBack fNeed dW dHas dNou dSum dBack dNeed) {f : Addr} {fd : FuncData} (F : Fun K "back" "Group.back" sBack f fd) : FnOk P w K mg base CX0 4 f fd ["self", "x"] (spD K (pBackOf C)) := by
  refine fn_D F scBack (fun ds d ⟨ns, x, e, _⟩ => by rw [e]; rfl) fun cdv A outer s H E ds d hr ⟨ns, x, e1, g, hx, e2⟩ => ⟨.rt d, rfl, ?_⟩
  subst e1 e2
  refine dss_cons (ds_expr (de_meth (by walk_at "v") rfl M.T.cl M.eNeed (ok_need M) (hr.mono (by decide)) M.bNeed (da_cons (by walk_at "v") da_nil) ⟨ns, x, rfl, g, hx, rfl⟩)) ?_
  exact dss_end (ds_ret (de_meth (by walk_at "v") rfl M.T.cl M.eBack (ok_backOf M.FBack M.B M.T) (hr.mono (by decide)) M.bBack (da_cons (by walk_at "v") da_nil) ⟨ns, x, rfl, g, hx, rfl⟩)) trivial
/-! ### times -/
theorem scTimes : FnScope ["self", "n", "x", "step", "left", "whole"] ["self", "n", "x"] (defScope sTimes) := ⟨rfl, rfl, rfl, by decide +kernel, rfl, by decide +kernel, by decide +kernel⟩
def pTimes (C : Addr) (ds : List D) (d : D) : Prop := ∃ ns n x, ds = [grp C ns, .int n, tupI x] ∧ Good ns ∧ El ns x ∧ d = tupI (mulI ns n x)
theorem ok_times (M : Ms K mg C fW fHas fNou fSum fBack fNeed dW dHas dNou dSum dBack dNeed) (mAbs : mg "abs" = none) {f : Addr} {fd : FuncData} (F : Fun K "times" "Group.times" sTimes f fd) : FnOk P w K mg base CX0 4 f fd ["self", "n", "x"] (spD K (pTimes C)) := by
  refine fn_D F scTimes (fun ds d ⟨ns, n, x, e, _⟩ => by rw [e]; rfl) fun cdv A outer s H E ds d hr ⟨ns, n, x, e1, g, hx, e2⟩ => ⟨.rt d, rfl, ?_⟩
  subst e1 e2
  have nd := scTimes.nd
  refine dss_cons (ds_expr (de_meth (by walk_at "v") rfl M.T.cl M.eNeed (ok_need M) (hr.mono (by decide)) M.bNeed (da_cons (by walk_at "v") da_nil) ⟨ns, x, rfl, g, hx, rfl⟩)) ?_
  refine dss_cons (ds_set (i := 3) (d := tupI (mulI ns (if n < 0 then -1 else 1) x)) nd rfl (Or.inl rfl) (de_if (p := decide (n < 0)) (dt_lt (by walk_at "v") de_int) (fun z => ?_) fun z => ?_)) ?_
  · rw [if_pos (of_decide_eq_true z)]
    exact de_meth (by walk_at "v") rfl M.T.cl M.eBack (ok_backOf M.FBack M.B M.T) (hr.mono (by decide)) M.bBack (da_cons (by walk_at "v") da_nil) ⟨ns, x, rfl, g, hx, rfl⟩
  · rw [if_neg (of_decide_eq_false z), mulI_one hx]
    walk_at "v"
  refine dss_cons (ds_set (i := 4) nd rfl (Or.inl rfl) (de_abs rfl mAbs (da_cons (by walk_at "v") da_nil))) ?_
  refine dss_cons (ds_set (i := 5) (d := tupI (mulI ns 0 x)) nd rfl (Or.inl rfl) ?_) ?_
  · rw [mulI_zero hx]
    exact de_meth0 (by walk_at "v") rfl M.T.cl M.eNou (ok_nought M.FNou M.B M.T) (hr.mono (by decide)) M.bNou ⟨ns, rfl, g, rfl⟩
  have loop : ∀ (l : Nat) (a b : Int), ∃ m b', WhO (cxOf CX0 P w K mg base ["self", "n", "x", "step", "left", "whole"] "Group.times" (defScope sTimes) f cdv A outer s H E).nox (whC (stN (defBody sTimes) 4)) (whB (stN (defBody sTimes) 4)) m
      [.val (grp C ns), .val (.int n), .val (tupI x), .val (tupI (mulI ns b x)), .val (.int (l : Int)), .val (tupI (mulI ns a x))] (.nx [.val (grp C ns), .val (.int n), .val (tupI x), .val (tupI (mulI ns b' x)), .val (.int 0), .val (tupI (mulI ns (a + b * (l : Int)) x))]) := by
    intro l
    induction l using Nat.strongRecOn with
    | ind l ih =>
      intro a b
      by_cases hl : l = 0
      · subst hl
        refine ⟨0, b, ?_⟩
        rw [show a + b * ((0 : Nat) : Int) = a by simp]
        exact .stop (DT.to (dt_gt (by walk_at "v") de_int) rfl)
      · have pos : (0 : Int) < (l : Int) := by omega
        have sumStep : ∀ (a b : Int), El ns (mulI ns a x) ∧ addI ns (mulI ns a x) (mulI ns b x) = mulI ns (a + b) x := fun a b => ⟨hx.mul g.g2, add_mul hx⟩
        by_cases odd : (l : Int) % 2 = 1
        · obtain ⟨m, b', h⟩ := ih (l / 2) (by omega) (a + b) (b + b)
          have e : a + b + (b + b) * ((l / 2 : Nat) : Int) = a + b * (l : Int) := by
            have : (l : Int) = 2 * ((l / 2 : Nat) : Int) + 1 := by omega
            rw [this, Int.mul_add, ← Int.mul_assoc, Int.mul_comm b 2, Int.two_mul, Int.mul_one]; omega
          rw [e] at h
          refine ⟨m + 1, b', .turn (DT.to (dt_gt (by walk_at "v") de_int) (decide_eq_true pos)) (dss_cons (ds_if (q := true) (DT.to (dt_eqI (de_mod (by decide) (by walk_at "v") de_int) de_int) (decide_eq_true odd)) (fun _ => dss_cons (ds_set (i := 5) (d := tupI (mulI ns (a + b) x)) nd rfl (Or.inl rfl) ?_) dss_nil) fun z => nomatch z)
            (dss_cons (ds_set (i := 3) (d := tupI (mulI ns (b + b) x)) nd rfl (Or.inl rfl) ?_) (dss_cons (ds_set (i := 4) (d := .int ((l / 2 : Nat) : Int)) nd rfl (Or.inl rfl) (DE.to (de_fdiv (i := (l : Int)) (j := 2) ⟨by decide, by decide⟩ (by walk_at "v") de_int) (by simp))) dss_nil))) h⟩
          · rw [← (sumStep a b).2]
            exact de_meth (by walk_at "v") rfl M.T.cl M.eSum (ok_sum M.FSum M.B M.T) (hr.mono (by decide)) M.bSum (da_cons (by walk_at "v") (da_cons (by walk_at "v") da_nil)) ⟨ns, _, _, rfl, g, hx.mul g.g2, hx.mul g.g2, rfl⟩
          · rw [← (sumStep b b).2]
            exact de_meth (by walk_at "v") rfl M.T.cl M.eSum (ok_sum M.FSum M.B M.T) (hr.mono (by decide)) M.bSum (da_cons (by walk_at "v") (da_cons (by walk_at "v") da_nil)) ⟨ns, _, _, rfl, g, hx.mul g.g2, hx.mul g.g2, rfl⟩
        · obtain ⟨m, b', h⟩ := ih (l / 2) (by omega) a (b + b)
          have e : a + (b + b) * ((l / 2 : Nat) : Int) = a + b * (l : Int) := by
            have : (l : Int) = 2 * ((l / 2 : Nat) : Int) := by omega
            rw [this, ← Int.mul_assoc, Int.mul_comm b 2, Int.two_mul]
          rw [e] at h
          refine ⟨m + 1, b', .turn (DT.to (dt_gt (by walk_at "v") de_int) (decide_eq_true pos)) (dss_cons (ds_if (q := false) (DT.to (dt_eqI (de_mod (by decide) (by walk_at "v") de_int) de_int) (decide_eq_false odd)) (fun z => nomatch z) fun _ => dss_nil)
            (dss_cons (ds_set (i := 3) (d := tupI (mulI ns (b + b) x)) nd rfl (Or.inl rfl) ?_) (dss_cons (ds_set (i := 4) (d := .int ((l / 2 : Nat) : Int)) nd rfl (Or.inl rfl) (DE.to (de_fdiv (i := (l : Int)) (j := 2) ⟨by decide, by decide⟩ (by walk_at "v") de_int) (by simp))) dss_nil))) h⟩
          rw [← (sumStep b b).2]
          exact de_meth (by walk_at "v") rfl M.T.cl M.eSum (ok_sum M.FSum M.B M.T) (hr.mono (by decide)) M.bSum (da_cons (by walk_at "v") (da_cons (by walk_at "v") da_nil)) ⟨ns, _, _, rfl, g, hx.mul g.g2, hx.mul g.g2, rfl⟩
  obtain ⟨m, b', h⟩ := loop n.natAbs 0 (if n < 0 then -1 else 1)
  have e1 : (if n < 0 then -n else n) = (n.natAbs : Int) := by split <;> omega
  have e2 : 0 + (if n < 0 then -1 else 1) * (n.natAbs : Int) = n := by split <;> omega
  rw [e2] at h
  rw [e1]
  exact dss_cons (ds_while PassesOwn.never h) (dss_end (ds_ret (by walk_at "v")) trivial)
/-! ### order -/
theorem scOrder : FnScope ["self", "x", "nought", "reached", "n"] ["self", "x"] (defScope sOrder) := ⟨rfl, rfl, rfl, by decide +kernel, rfl, by decide +kernel, by decide +kernel⟩
def pOrder (C : Addr) (ds : List D) (d : D) : Prop := ∃ ns x, ds = [grp C ns, tupI x] ∧ Good ns ∧ El ns x ∧ d = .int (ordN ns x)
theorem firstN_skip {p : Nat → Bool} {f s : Nat} (h : p s = true) : firstN p f s = s := by
  cases f with
  | zero => rfl
  | succ f => unfold firstN; rw [if_pos h]
theorem firstN_go {p : Nat → Bool} {f s : Nat} (h : ¬ p s = true) : firstN p (f + 1) s = firstN p f (s + 1) := by
  rw [firstN, if_neg h]
theorem ok_order (M : Ms K mg C fW fHas fNou fSum fBack fNeed dW dHas dNou dSum dBack dNeed) {f : Addr} {fd : FuncData} (F : Fun K "order" "Group.order" sOrder f fd) : FnOk P w K mg base CX0 4 f fd ["self", "x"] (spD K (pOrder C)) := by
  refine fn_D F scOrder (fun ds d ⟨ns, x, e, _⟩ => by rw [e]; rfl) fun cdv A outer s H E ds d hr ⟨ns, x, e1, g, hx, e2⟩ => ⟨.rt d, rfl, ?_⟩
  subst e1 e2
  have nd := scOrder.nd
  refine dss_cons (ds_expr (de_meth (by walk_at "v") rfl M.T.cl M.eNeed (ok_need M) (hr.mono (by decide)) M.bNeed (da_cons (by walk_at "v") da_nil) ⟨ns, x, rfl, g, hx, rfl⟩)) ?_
  refine dss_cons (ds_set (i := 2) nd rfl (Or.inl rfl) (de_meth0 (by walk_at "v") rfl M.T.cl M.eNou (ok_nought M.FNou M.B M.T) (hr.mono (by decide)) M.bNou ⟨ns, rfl, g, rfl⟩)) ?_
  refine dss_cons (ds_set (i := 3) (d := tupI (mulI ns ((1 : Nat) : Int) x)) nd rfl (Or.inl rfl) ?_) ?_
  · rw [show ((1 : Nat) : Int) = 1 from rfl, mulI_one hx]
    walk_at "v"
  refine dss_cons (ds_set (i := 4) (d := .int ((1 : Nat) : Int)) nd rfl (Or.inl rfl) de_int) ?_
  have loop : ∀ (fu n : Nat), (∃ j, j ≤ fu ∧ zB ns x (n + j) = true) → ∃ m, WhO (cxOf CX0 P w K mg base ["self", "x", "nought", "reached", "n"] "Group.order" (defScope sOrder) f cdv A outer s H E).nox (whC (stN (defBody sOrder) 4)) (whB (stN (defBody sOrder) 4)) m
      [.val (grp C ns), .val (tupI x), .val (tupI (List.replicate ns.length 0)), .val (tupI (mulI ns (n : Int) x)), .val (.int (n : Int))]
      (.nx [.val (grp C ns), .val (tupI x), .val (tupI (List.replicate ns.length 0)), .val (tupI (mulI ns (firstN (zB ns x) fu n : Nat) x)), .val (.int (firstN (zB ns x) fu n : Nat))]) := by
    have test : ∀ (n : Nat), DT (cxOf CX0 P w K mg base ["self", "x", "nought", "reached", "n"] "Group.order" (defScope sOrder) f cdv A outer s H E).nox
        [.val (grp C ns), .val (tupI x), .val (tupI (List.replicate ns.length 0)), .val (tupI (mulI ns (n : Int) x)), .val (.int (n : Int))] (whC (stN (defBody sOrder) 4)) (!zB ns x n) := fun n => by
      refine DT.to (dt_neD (Room.units hr) (isDat_tupI _) (isDat_tupI _) ?_ (by walk_at "v") (by walk_at "v")) (by rw [eqD_tupI]; rfl)
      rw [depth_tupI, depth_tupI]; decide
    intro fu
    induction fu with
    | zero =>
      intro n ⟨j, hj, hz⟩
      have e : j = 0 := by omega
      subst e
      exact ⟨0, .stop (DT.to (test n) (by rw [show zB ns x n = true from hz]; rfl))⟩
    | succ fu ih =>
      intro n ⟨j, hj, hz⟩
      by_cases hp : zB ns x n = true
      · rw [firstN_skip hp]
        exact ⟨0, .stop (DT.to (test n) (by rw [hp]; rfl))⟩
      · rw [firstN_go hp]
        have hj0 : j ≠ 0 := fun z => hp (by rw [z] at hz; exact hz)
        obtain ⟨m, h⟩ := ih (n + 1) ⟨j - 1, by omega, by rw [show n + 1 + (j - 1) = n + j by omega]; exact hz⟩
        refine ⟨m + 1, .turn (DT.to (test n) (by rw [Bool.eq_false_iff.mpr hp]; rfl)) (dss_cons (ds_set (i := 3) (d := tupI (mulI ns ((n + 1 : Nat) : Int) x)) nd rfl (Or.inl rfl) ?_) (dss_cons (ds_addI (i := 4) nd rfl (Or.inl rfl) rfl de_int) dss_nil)) h⟩
        have e : tupI (mulI ns ((n + 1 : Nat) : Int) x) = tupI (addI ns (mulI ns (n : Int) x) x) := by
          have := add_mul (a := (n : Int)) (b := 1) hx
          rw [mulI_one hx] at this
          rw [this]; rfl
        rw [e]
        exact de_meth (by walk_at "v") rfl M.T.cl M.eSum (ok_sum M.FSum M.B M.T) (hr.mono (by decide)) M.bSum (da_cons (by walk_at "v") (da_cons (by walk_at "v") da_nil)) ⟨ns, _, _, rfl, g, hx.mul g.g2, hx, rfl⟩
  obtain ⟨m, h⟩ := loop (prod ns).toNat 1 (zB_prod g.g2 hx)
  exact dss_cons (ds_while PassesOwn.never h) (dss_end (ds_ret (by walk_at "v")) trivial)
/-! ### total -/
theorem scTotal : FnScope ["self", "some", "whole", "x"] ["self", "some"] (defScope sTotal) := ⟨rfl, rfl, rfl, by decide +kernel, rfl, by decide +kernel, by decide +kernel⟩
def totI (ns : List Int) (xs : List (List Int)) : List Int := xs.foldl (addI ns) (List.replicate ns.length 0)
theorem totI_snoc (ns : List Int) (xs : List (List Int)) (x : List Int) : totI ns (xs ++ [x]) = addI ns (totI ns xs) x := by
  show List.foldl (addI ns) _ (xs ++ [x]) = _
  rw [List.foldl_append]; rfl
theorem totI_el {ns : List Int} (g : Ge2 ns) : ∀ {xs : List (List Int)}, (∀ x ∈ xs, El ns x) → El ns (totI ns xs) := by
  have go : ∀ (xs : List (List Int)) (acc : List Int), El ns acc → (∀ x ∈ xs, El ns x) → El ns (xs.foldl (addI ns) acc) := by
    intro xs
    induction xs with
    | nil => intro acc h _; exact h
    | cons x xs ih => intro acc h hx; exact ih _ (El.add g h (hx x List.mem_cons_self)) fun y hy => hx y (List.mem_cons_of_mem _ hy)
  exact fun {xs} h => go xs _ (El.zero g) h
def pTotal (C : Addr) (ds : List D) (d : D) : Prop := ∃ ns xs, ds = [grp C ns, .lst (xs.map tupI)] ∧ Good ns ∧ (∀ x ∈ xs, El ns x) ∧ d = tupI (totI ns xs)
theorem ok_total (M : Ms K mg C fW fHas fNou fSum fBack fNeed dW dHas dNou dSum dBack dNeed) {f : Addr} {fd : FuncData} (F : Fun K "total" "Group.total" sTotal f fd) : FnOk P w K mg base CX0 4 f fd ["self", "some"] (spD K (pTotal C)) := by
  refine fn_D F scTotal (fun ds d ⟨ns, xs, e, _⟩ => by rw [e]; rfl) fun cdv A outer s H E ds d hr ⟨ns, xs, e1, g, hx, e2⟩ => ⟨.rt d, rfl, ?_⟩
  subst e1 e2
  have nd := scTotal.nd
  refine dss_cons (ds_set (i := 2) nd rfl (Or.inl rfl) (de_meth0 (by walk_at "v") rfl M.T.cl M.eNou (ok_nought M.FNou M.B M.T) (hr.mono (by decide)) M.bNou ⟨ns, rfl, g, rfl⟩)) ?_
  refine dss_cons (ds_forW PassesOwn.never rfl (g := tupI) (fun done => [.val (grp C ns), .val (.lst (xs.map tupI)), .val (tupI (totI ns done)), .any]) xs (di_lst (by walk_at "v")) (.same (.same (.same (.any .nil)))) fun done x rest e => ?_) ?_
  · have hxx : El ns x := hx x (by rw [e]; simp)
    have hd : El ns (totI ns done) := totI_el g.g2 fun y hy => hx y (by rw [e]; simp [hy])
    refine ⟨_, _, _, dg_name (k := 3) nd rfl (Or.inl rfl), tg_set, dss_cons (ds_expr (de_meth (by walk_at "v") rfl M.T.cl M.eNeed (ok_need M) (hr.mono (by decide)) M.bNeed (da_cons (by walk_at "v") da_nil) ⟨ns, x, rfl, g, hxx, rfl⟩))
      (dss_cons (ds_set (i := 2) nd rfl (Or.inl rfl) (de_meth (by walk_at "v") rfl M.T.cl M.eSum (ok_sum M.FSum M.B M.T) (hr.mono (by decide)) M.bSum (da_cons (by walk_at "v") (da_cons (by walk_at "v") da_nil)) ⟨ns, _, _, rfl, g, hd, hxx, rfl⟩)) dss_nil), ?_⟩
    rw [totI_snoc]
    exact .same (.same (.same (.any .nil)))
  · exact dss_end (ds_ret (by walk_at "v")) trivial
end
end K4
set_option Elab.async false
set_option linter.all false
set_option maxRecDepth 100000
set_option maxHeartbeats 2000000
namespace K4
open PySem PySem.Spec L2 CT
open PyProof.Rows hiding St
/-! ### the rounds drawn -/
def mn (l gr : Int) : Int := if gr < l then gr else l
def mval (gr c l : Int) : Int := 2 + c / 5 % (mn l gr - 1)
structure MS where
  c : Int
  l : Int
  f : List Int
def mstep (gr : Int) (s : MS) : MS := if 1 < s.l ∧ 0 < s.c % 5 then ⟨s.c / 101, s.l / mval gr s.c s.l, s.f ++ [mval gr s.c s.l]⟩ else ⟨s.c / 101, s.l, s.f⟩
def mrun (gr c most : Int) (ks : List Int) : MS := ks.foldl (fun s _ => mstep gr s) ⟨c, most, []⟩
def many (gr c most : Int) : List Int := (mrun gr c most (kNats 3)).f
theorem mrun_snoc (gr c most : Int) (ks : List Int) (k : Int) : mrun gr c most (ks ++ [k]) = mstep gr (mrun gr c most ks) := by
  show List.foldl _ _ (ks ++ [k]) = _
  rw [List.foldl_append]; rfl
theorem mval_le {gr c l : Int} (h : 1 < l) (hg : 2 ≤ gr) : 2 ≤ mval gr c l ∧ mval gr c l ≤ l := by
  have h0 : 2 ≤ mn l gr ∧ mn l gr ≤ l := by unfold mn; split <;> omega
  have h1 : 0 ≤ c / 5 % (mn l gr - 1) := Int.emod_nonneg _ (by omega)
  have h2 : c / 5 % (mn l gr - 1) < mn l gr - 1 := Int.emod_lt_of_pos _ (by omega)
  unfold mval
  omega
structure MOk (most : Int) (n : Nat) (s : MS) : Prop where
  l1 : 1 ≤ s.l
  l2 : s.l ≤ 144
  ge : ∀ k ∈ s.f, 2 ≤ k ∧ k ≤ 144
  pr : prod s.f * s.l ≤ most
  p1 : 1 ≤ prod s.f
  len : s.f.length ≤ n
theorem MOk.step {gr most : Int} {n : Nat} {s : MS} (hg : 2 ≤ gr) (h : MOk most n s) : MOk most (n + 1) (mstep gr s) := by
  unfold mstep
  split
  · rename_i hc
    obtain ⟨m1, m2⟩ := mval_le (c := s.c) hc.1 hg
    have hd : mval gr s.c s.l * (s.l / mval gr s.c s.l) ≤ s.l := Int.mul_ediv_self_le (by omega)
    refine ⟨?_, ?_, fun j hj => ?_, ?_, ?_, ?_⟩
    · exact Int.le_ediv_of_mul_le (by omega) (by omega)
    · exact Int.le_trans (Int.ediv_le_self _ (by have := h.l1; omega)) h.l2
    · rcases List.mem_append.mp hj with z | z
      · exact h.ge j z
      · rw [List.mem_singleton.mp z]; exact ⟨m1, Int.le_trans m2 h.l2⟩
    · show prod (s.f ++ [_]) * (s.l / mval gr s.c s.l) ≤ most
      rw [prod_snoc, Int.mul_assoc]
      exact Int.le_trans (Int.mul_le_mul_of_nonneg_left hd (by have := h.p1; omega)) h.pr
    · show 1 ≤ prod (s.f ++ [_])
      rw [prod_snoc]
      have := Int.mul_le_mul h.p1 (show (1 : Int) ≤ mval gr s.c s.l by omega) (by decide) (by have := h.p1; omega)
      simpa using this
    · show (s.f ++ [_]).length ≤ n + 1
      have := h.len
      simp; omega
  · exact ⟨h.l1, h.l2, h.ge, h.pr, h.p1, Nat.le_succ_of_le h.len⟩
theorem mrun_ok {gr c most : Int} (hg : 2 ≤ gr) (h1 : 1 ≤ most) (h2 : most ≤ 144) (ks : List Int) : MOk most ks.length (mrun gr c most ks) := by
  have go : ∀ (ks : List Int) (n : Nat) (s : MS), MOk most n s → MOk most (n + ks.length) (ks.foldl (fun s _ => mstep gr s) s) := by
    intro ks
    induction ks with
    | nil => intro n s h; exact h
    | cons k ks ih =>
      intro n s h
      have := ih (n + 1) (mstep gr s) (h.step hg)
      rw [List.length_cons, show n + (ks.length + 1) = n + 1 + ks.length by omega]
      exact this
  have := go ks 0 ⟨c, most, []⟩ ⟨h1, h2, (fun k hk => by cases hk), (by show prod [] * most ≤ most; simp [prod]), (by show (1 : Int) ≤ prod []; decide), Nat.le_refl _⟩
  rw [Nat.zero_add] at this
  exact this
theorem many_good {gr c most : Int} (hg : 2 ≤ gr) (h1 : 1 ≤ most) (h2 : most ≤ 144) : Good (many gr c most) := by
  have h := mrun_ok (c := c) hg h1 h2 (kNats 3)
  refine ⟨fun n hn => (h.ge n hn).1, ?_, fun n hn => (h.ge n hn).2, ?_⟩
  · have := h.pr
    have l1 := h.l1
    have p1 := h.p1
    have h3 : prod (mrun gr c most (kNats 3)).f * 1 ≤ prod (mrun gr c most (kNats 3)).f * (mrun gr c most (kNats 3)).l := Int.mul_le_mul_of_nonneg_left l1 (by omega)
    rw [Int.mul_one] at h3
    exact Int.le_trans h3 (Int.le_trans this h2)
  · have := h.len
    rw [show (kNats 3).length = 3 from rfl] at this
    exact Nat.le_trans this (by decide)
/-! ### by places -/
def gd (l : List Int) (k : Int) : Int := l.getD k.toNat 0
theorem gd_ix {l : List Int} {k : Int} (h : 0 ≤ k) (h2 : k < (l.length : Int)) : atI (l.map D.int) k = some (.int (gd l k)) := by
  obtain ⟨j, rfl⟩ := Int.eq_ofNat_of_zero_le h
  have h3 : j < l.length := by omega
  refine atI_nat ?_
  simp [gd, h3]
/-! ### an element by a cell -/
def est (s : Int × List Int) (n : Int) : Int × List Int := (s.1 / n, s.2 ++ [s.1 % n])
def erun (c : Int) (ns : List Int) : Int × List Int := ns.foldl est (c, [])
def elI (ns : List Int) (c : Int) : List Int := (erun c ns).2
theorem erun_snoc (c : Int) (ns : List Int) (n : Int) : erun c (ns ++ [n]) = est (erun c ns) n := by
  show List.foldl _ _ (ns ++ [n]) = _
  rw [List.foldl_append]; rfl
theorem elI_el : ∀ {ns : List Int} {c : Int}, Ge2 ns → El ns (elI ns c) := by
  have go : ∀ (ns : List Int) (c : Int) (f : List Int), (ns.foldl est (c, f)).2 = f ++ (ns.foldl est (c, [])).2 := by
    intro ns
    induction ns with
    | nil => intro c f; simp
    | cons n ns ih =>
      intro c f
      show (ns.foldl est (c / n, f ++ [c % n])).2 = f ++ (ns.foldl est (c / n, [] ++ [c % n])).2
      rw [ih, ih (c / n) ([] ++ [c % n]), List.append_assoc]; rfl
  intro ns
  induction ns with
  | nil => intro c _; exact El.nil
  | cons n ns ih =>
    intro c g
    have e : elI (n :: ns) c = c % n :: elI ns (c / n) := by
      show (ns.foldl est (c / n, [] ++ [c % n])).2 = _
      rw [go]; rfl
    rw [e]
    exact El.cons (mod_ok g.head).1 (mod_ok g.head).2 (ih g.tail)
local macro_rules | `(tactic| walk_at "v") => `(tactic| first
  | exact de_var (i := 0) rfl (by first | exact Or.inl rfl | exact Or.inr (Or.inl rfl)) rfl
  | exact de_var (i := 1) rfl (by first | exact Or.inl rfl | exact Or.inr (Or.inl rfl)) rfl
  | exact de_var (i := 2) rfl (by first | exact Or.inl rfl | exact Or.inr (Or.inl rfl)) rfl
  | exact de_var (i := 3) rfl (by first | exact Or.inl rfl | exact Or.inr (Or.inl rfl)) rfl
  | exact de_var (i := 4) rfl (by first | exact Or.inl rfl | exact Or.inr (Or.inl rfl)) rfl
  | exact de_var (i := 5) rfl (by first | exact Or.inl rfl | exact Or.inr (Or.inl rfl)) rfl
  | exact de_var (i := 6) rfl (by first | exact Or.inl rfl | exact Or.inr (Or.inl rfl)) rfl
  | exact de_var (i := 7) rfl (by first | exact Or.inl rfl | exact Or.inr (Or.inl rfl)) rfl
  | exact de_var (i := 8) rfl (by first | exact Or.inl rfl | exact Or.inr (Or.inl rfl)) rfl
  | exact de_var (i := 9) rfl (by first | exact Or.inl rfl | exact Or.inr (Or.inl rfl)) rfl
  | exact de_var (i := 10) rfl (by first | exact Or.inl rfl | exact Or.inr (Or.inl rfl)) rfl
  | exact de_var (i := 11) rfl (by first | exact Or.inl rfl | exact Or.inr (Or.inl rfl)) rfl
  | exact de_var (i := 12) rfl (by first | exact Or.inl rfl | exact Or.inr (Or.inl rfl)) rfl)
local macro_rules | `(tactic| walk_at "c") => `(tactic| first
  | exact de_cv (by assumption) (i := 0) rfl rfl
  | exact de_cv (by assumption) (i := 1) rfl rfl
  | exact de_cv (by assumption) (i := 2) rfl rfl
  | exact de_cv (by assumption) (i := 3) rfl rfl
  | exact de_cv (by assumption) (i := 4) rfl rfl
  | exact de_cv (by assumption) (i := 5) rfl rfl)
section
variable {P : Program} {w : World} {K : PySem.W.Frag} {mg : Str → Option Value} {base : Heap}
theorem scRounds : FnScope ["_law_cell_here", "_law_most", "_law_greatest", "_law_found", "_law_left", "_law_k"] ["_law_cell_here", "_law_most", "_law_greatest"] (defScope sRounds) := ⟨rfl, rfl, rfl, by decide +kernel, rfl, by decide +kernel, by decide +kernel⟩
def pRounds (ds : List D) (d : D) : Prop := ∃ c most gr, ds = [.int c, .int most, .int gr] ∧ 1 ≤ most ∧ most ≤ 144 ∧ 2 ≤ gr ∧ d = tupI (many gr c most)
theorem ok_rounds {f : Addr} {fd : FuncData} (F : Fun K "_law_rounds" "_law_rounds" sRounds f fd) (B : Bl mg) (mMin : mg "min" = none) : FnOk P w K mg base CX0 1 f fd ["_law_cell_here", "_law_most", "_law_greatest"] (spD K pRounds) := by
  refine fn_D F scRounds (fun ds d ⟨c, m, gr, e, _⟩ => by rw [e]; rfl) fun cdv A outer s H E ds d hr ⟨c, most, gr, e1, hm1, hm2, hg, e2⟩ => ⟨.rt d, rfl, ?_⟩
  subst e1 e2
  have nd := scRounds.nd
  refine dss_cons (ds_setF (i := 3) (xs := []) nd rfl (Or.inl rfl) (df_lst da_nil (by decide))) ?_
  refine dss_cons (ds_set (i := 4) nd rfl (Or.inl rfl) (by walk_at "v")) ?_
  refine dss_cons (ds_forW PassesOwn.never rfl (g := D.int) (fun ks => [.val (.int (mrun gr c most ks).c), .val (.int most), .val (.int gr), .own (intsD (mrun gr c most ks).f), .val (.int (mrun gr c most ks).l), .any]) (kNats 3) (di_rangeK rfl B.range (da_cons de_int da_nil) (by decide) (by decide)) (.same (.same (.same (.same (.same (.any .nil)))))) fun ks k rest e => ?_) ?_
  · have ok := mrun_ok (c := c) hg hm1 hm2 ks
    rw [mrun_snoc]
    generalize mrun gr c most ks = S at ok ⊢
    have hlen : S.f.length ≤ 7 := by
      have h1 := ok.len
      have h2 : ks.length ≤ (kNats 3).length := by rw [e]; simp
      rw [show (kNats 3).length = 3 from rfl] at h2
      omega
    by_cases hc : 1 < S.l ∧ 0 < S.c % 5
    · obtain ⟨m1, m2⟩ := mval_le (c := S.c) hc.1 hg
      have l144 := ok.l2
      have hmn : 2 ≤ mn S.l gr := by have := hc.1; unfold mn; split <;> omega
      refine ⟨_, _, _, dg_name (k := 5) nd rfl (Or.inl rfl), tg_set, dss_cons (ds_if (q := true) (DT.to (DW.dt (dw_and (dt_gt (by walk_at "v") de_int) fun _ => dw_and1 (dt_gt (de_mod (by decide) (by walk_at "v") de_int) de_int))) ?_)
        (fun _ => dss_cons (ds_append (i := 3) (d := .int (mval gr S.c S.l)) rfl (Or.inl rfl) rfl (de_add de_int (de_mod (j := mn S.l gr - 1) (by omega) (de_fdiv ⟨by decide, by decide⟩ (by walk_at "v") de_int) (de_sub (de_min2 rfl rfl mMin (da_cons (by walk_at "v") (da_cons (by walk_at "v") da_nil))) de_int))) ?_)
          (dss_cons (ds_set (i := 4) nd rfl (Or.inl rfl) (de_fdiv (j := mval gr S.c S.l) ⟨by omega, by omega⟩ (by walk_at "v") (de_read (i := 3) rfl rfl (de_ixL (by walk_at "v") (de_neg de_int) ?_)))) dss_nil)) fun z => nomatch z)
        (dss_cons (ds_set (i := 0) nd rfl (Or.inl rfl) (de_fdiv ⟨by decide, by decide⟩ (by walk_at "v") de_int)) dss_nil), ?_⟩
      · simp [hc.1, hc.2]
      · rw [List.length_map]; show _ < 2 ^ 24; omega
      · exact atI_last _ _
      · rw [mstep, if_pos hc]
        exact .same (.same (.same (.cons (by simp [intsD]) (.same (.any .nil)))))
    · refine ⟨_, _, _, dg_name (k := 5) nd rfl (Or.inl rfl), tg_set, dss_cons (ds_if (q := false) (DT.to (DW.dt (dw_and (dt_gt (by walk_at "v") de_int) fun _ => dw_and1 (dt_gt (de_mod (by decide) (by walk_at "v") de_int) de_int))) ?_) (fun z => nomatch z) fun _ => dss_nil)
        (dss_cons (ds_set (i := 0) nd rfl (Or.inl rfl) (de_fdiv ⟨by decide, by decide⟩ (by walk_at "v") de_int)) dss_nil), ?_⟩
      · rw [← Bool.decide_and]; exact decide_eq_false hc
      · rw [mstep, if_neg hc]
        exact .same (.same (.same (.same (.same (.any .nil)))))
  · exact dss_end (ds_ret (de_readN (i := 3) rfl (noLst_ints _) (de_tuple Sq.l rfl B.tuple (da_cons (by walk_at "v") da_nil)))) trivial
/-! ### _law_element, _law_order -/
theorem scElement : FnScope ["_law_rounds_here", "_law_cell_here", "_law_found", "_law_number"] ["_law_rounds_here", "_law_cell_here"] (defScope sElement) := ⟨rfl, rfl, rfl, by decide +kernel, rfl, by decide +kernel, by decide +kernel⟩
def pElement (ds : List D) (d : D) : Prop := ∃ ns c, ds = [tupI ns, .int c] ∧ Good ns ∧ d = tupI (elI ns c)
theorem erun_len (c : Int) (ns : List Int) : (erun c ns).2.length = ns.length := by
  have go : ∀ (ns : List Int) (s : Int × List Int), (ns.foldl est s).2.length = s.2.length + ns.length := by
    intro ns
    induction ns with
    | nil => intro s; rfl
    | cons n ns ih => intro s; rw [List.foldl_cons, ih]; simp [est]; omega
  rw [erun, go]; simp
theorem ok_element {f : Addr} {fd : FuncData} (F : Fun K "_law_element" "_law_element" sElement f fd) (B : Bl mg) : FnOk P w K mg base CX0 1 f fd ["_law_rounds_here", "_law_cell_here"] (spD K pElement) := by
  refine fn_D F scElement (fun ds d ⟨ns, c, e, _⟩ => by rw [e]; rfl) fun cdv A outer s H E ds d hr ⟨ns, c, e1, g, e2⟩ => ⟨.rt d, rfl, ?_⟩
  subst e1 e2
  have nd := scElement.nd
  refine dss_cons (ds_setF (i := 2) (xs := []) nd rfl (Or.inl rfl) (df_lst da_nil (by decide))) ?_
  refine dss_cons (ds_forW PassesOwn.never rfl (g := D.int) (fun done => [.val (tupI ns), .val (.int (erun c done).1), .own (intsD (erun c done).2), .any]) ns (di_tup (by walk_at "v")) (.same (.same (.same (.any .nil)))) fun done n rest e => ?_) ?_
  · have hn : n ∈ ns := by rw [e]; simp
    have h2 := g.ge n hn
    have h144 := g.lt n hn
    have hlen : (erun c done).2.length ≤ 7 := by
      rw [erun_len]
      have := g.len
      rw [e, List.length_append] at this
      omega
    refine ⟨_, _, _, dg_name (k := 3) nd rfl (Or.inl rfl), tg_set, dss_cons (ds_append (i := 2) rfl (Or.inl rfl) rfl (de_mod (i := (erun c done).1) (j := n) (by omega) (by walk_at "v") (by walk_at "v")) ?_) (dss_cons (ds_set (i := 1) nd rfl (Or.inl rfl) (de_fdiv (i := (erun c done).1) (j := n) ⟨by omega, by omega⟩ (by walk_at "v") (by walk_at "v"))) dss_nil), ?_⟩
    · rw [List.length_map]; show _ < 2 ^ 24; omega
    · rw [erun_snoc]
      exact .same (.same (.cons (by simp [intsD, est]) (.any .nil)))
  · exact dss_end (ds_ret (de_readN (i := 2) rfl (noLst_ints _) (de_tuple Sq.l rfl B.tuple (da_cons (by walk_at "v") da_nil)))) trivial
end
end K4
set_option Elab.async false
set_option linter.all false
set_option maxRecDepth 100000
set_option maxHeartbeats 1000000
namespace K4
open PySem PySem.Spec L2 CT
open PyProof.Rows hiding St
local macro_rules | `(tactic| walk_at "v") => `(tactic| first
  | exact de_var (i := 0) rfl (by first | exact Or.inl rfl | exact Or.inr (Or.inl rfl)) rfl
  | exact de_var (i := 1) rfl (by first | exact Or.inl rfl | exact Or.inr (Or.inl rfl)) rfl
  | exact de_var (i := 2) rfl (by first | exact Or.inl rfl | exact Or.inr (Or.inl rfl)) rfl
  | exact de_var (i := 3) rfl (by first | exact Or.inl rfl | exact Or.inr (Or.inl rfl)) rfl
  | exact de_var (i := 4) rfl (by first | exact Or.inl rfl | exact Or.inr (Or.inl rfl)) rfl
  | exact de_var (i := 5) rfl (by first | exact Or.inl rfl | exact Or.inr (Or.inl rfl)) rfl
  | exact de_var (i := 6) rfl (by first | exact Or.inl rfl | exact Or.inr (Or.inl rfl)) rfl
  | exact de_var (i := 7) rfl (by first | exact Or.inl rfl | exact Or.inr (Or.inl rfl)) rfl
  | exact de_var (i := 8) rfl (by first | exact Or.inl rfl | exact Or.inr (Or.inl rfl)) rfl
  | exact de_var (i := 9) rfl (by first | exact Or.inl rfl | exact Or.inr (Or.inl rfl)) rfl
  | exact de_var (i := 10) rfl (by first | exact Or.inl rfl | exact Or.inr (Or.inl rfl)) rfl
  | exact de_var (i := 11) rfl (by first | exact Or.inl rfl | exact Or.inr (Or.inl rfl)) rfl
  | exact de_var (i := 12) rfl (by first | exact Or.inl rfl | exact Or.inr (Or.inl rfl)) rfl)
local macro_rules | `(tactic| walk_at "c") => `(tactic| first
  | exact de_cv (by assumption) (i := 0) rfl rfl
  | exact de_cv (by assumption) (i := 1) rfl rfl
  | exact de_cv (by assumption) (i := 2) rfl rfl
  | exact de_cv (by assumption) (i := 3) rfl rfl
  | exact de_cv (by assumption) (i := 4) rfl rfl
  | exact de_cv (by assumption) (i := 5) rfl rfl)
section
variable {P : Program} {w : World} {K : PySem.W.Frag} {mg : Str → Option Value} {base : Heap} {C fW fHas fNou fSum fBack fNeed : Addr} {dW dHas dNou dSum dBack dNeed : FuncData}
/-! ### things of any kind -/
def pWholeG (ds : List D) (d : D) : Prop := ∃ x, ds = [x] ∧ tyN x ≠ none ∧ d = .bl (isW x)
theorem ok_isWholeG {f : Addr} {fd : FuncData} (F : Fun K "is_whole" "is_whole" sIsWhole f fd) (B : Bl mg) : FnOk P w K mg base CX0 1 f fd ["thing"] (spD K pWholeG) := by
  refine fn_D F scIsWhole (fun ds d ⟨i, e, _⟩ => by rw [e]; rfl) fun cdv A outer s H E ds d hr ⟨x, e1, hx, e2⟩ => ⟨.rt d, rfl, ?_⟩
  subst e1 e2
  refine dss_end (ds_ret (DE.to (de_and (p := isiN x "int") (q := !isiN x "bool") ?_ fun _ => de_one (de_not ?_)) ?_)) trivial
  · exact de_isiN hx .int rfl B.isinstance (by walk_at "v") (de_ty rfl B.int boot_int')
  · exact de_isiN hx .bool rfl B.isinstance (by walk_at "v") (de_ty rfl B.bool boot_bool')
  · rw [isW_isi hx]
theorem ok_wholeG {f : Addr} {fd : FuncData} (F : Fun K "_law_whole" "_law_whole" sWhole f fd) (B : Bl mg) : FnOk P w K mg base CX0 1 f fd ["_law_found"] (spD K pWholeG) := by
  refine fn_D F scWhole (fun ds d ⟨i, e, _⟩ => by rw [e]; rfl) fun cdv A outer s H E ds d hr ⟨x, e1, hx, e2⟩ => ⟨.rt d, rfl, ?_⟩
  subst e1 e2
  refine dss_end (ds_ret (DE.to (de_and (p := isiN x "int") (q := !isiN x "bool") ?_ fun _ => de_one (de_not ?_)) ?_)) trivial
  · exact de_isiN hx .int rfl B.isinstance (by walk_at "v") (de_ty rfl B.int boot_int')
  · exact de_isiN hx .bool rfl B.isinstance (by walk_at "v") (de_ty rfl B.bool boot_bool')
  · rw [isW_isi hx]
/-- a thing as they are handed in here -/
def ThE (x : D) : Prop := tyN x ≠ none ∧ ∀ ks, x = .tup ks → ks.length ≤ 50 ∧ ∀ k ∈ ks, tyN k ≠ none
def inB (k : D) (n : Int) : Bool := isW k && (decide (0 ≤ intOf k) && decide (intOf k < n))
/-- is it an element -/
def hasG (ns : List Int) : D → Bool
  | .tup ks => decide (ks.length = ns.length) && (ks.zip ns).all fun p => inB p.1 p.2
  | _ => false
theorem isi_tup {x : D} (hx : tyN x ≠ none) : isiN x "tuple" = true ↔ ∃ ks, x = .tup ks := by
  cases x with
  | tup ks => exact ⟨fun _ => ⟨_, rfl⟩, fun _ => rfl⟩
  | ins _ _ => exact absurd rfl hx
  | exc _ _ => exact absurd rfl hx
  | ty _ => exact absurd rfl hx
  | cl _ => exact absurd rfl hx
  | _ => exact ⟨(fun z => by cases z), fun h => by obtain ⟨_, z⟩ := h; cases z⟩
def pHasG (C : Addr) (ds : List D) (d : D) : Prop := ∃ ns x, ds = [grp C ns, x] ∧ Good ns ∧ ThE x ∧ d = .bl (hasG ns x)
theorem zip_any {ks : List D} {ns : List Int} : zipD ks (ns.map D.int) = (ks.zip ns).map fun p => .tup [p.1, .int p.2] := by
  have := zipD_zip (g := id) (h := D.int) (as := ks) (bs := ns)
  rw [List.map_id] at this
  exact this
theorem ok_hasG {f : Addr} {fd : FuncData} (F : Fun K "has" "Rounds.has" sHas f fd) (B : Bl mg) (T : Cl K C) (mW : mg "is_whole" = some (.ref fW)) (FW : Fun K "is_whole" "is_whole" sIsWhole fW dW) (bW : Binds K dW ["thing"] []) : FnOk P w K mg base CX0 2 f fd ["self", "thing"] (spD K (pHasG C)) := by
  refine fn_D F scHas (fun ds d ⟨ns, x, e, _⟩ => by rw [e]; rfl) fun cdv A outer s H E ds d hr ⟨ns, x, e1, g, ht, e2⟩ => ⟨.rt d, rfl, ?_⟩
  subst e1
  by_cases hq : ∃ ks, x = .tup ks
  · obtain ⟨ks, rfl⟩ := hq
    obtain ⟨hl, hk⟩ := ht.2 ks rfl
    have hlen : (intsD ns).length = ns.length := by simp
    by_cases hl2 : ks.length = ns.length
    · refine dss_cons (ds_if (q := false) (DW.dt (dw_or (p := false) (q := false) (dt_not (p := true) (dt_val ?_)) fun _ => dw_or1 ?_)) (fun z => nomatch z) fun _ => dss_nil) ?_
      · exact de_isi rfl B.isinstance (.tup _) (.ty "tuple") rfl (da_cons (by walk_at "v") (da_cons (de_ty rfl B.tuple boot_tuple') da_nil))
      · exact DT.to (dt_neI (de_len Sq.t rfl B.len (da_cons (by walk_at "v") da_nil)) (de_len Sq.t rfl B.len (da_cons (de_fld (by walk_at "v") T.cl T.nR rfl) da_nil))) (by simp [hl2])
      have e : (D.bl (hasG ns (.tup ks))) = .bl (((ks.zip ns).map fun p => inB p.1 p.2).all id) := by
        rw [List.all_map]
        show D.bl (decide _ && _) = _
        rw [decide_eq_true hl2, Bool.true_and]; rfl
      rw [e2, e]
      refine dss_end (ds_ret (de_all rfl Sq.l rfl B.all (da_cons (DC.de ?_) da_nil))) trivial
      rw [List.map_map]
      refine dc_map2 (sc := defScope sHas) (N := ["self", "thing"]) (own := ["k", "n"]) (cap := []) (k := 0) (k2 := 1) (l := ks.zip ns) (g1 := fun p => p.1) (g2 := fun p => .int p.2) rfl rfl (by decide +kernel) rfl rfl rfl ?_ ?_ fun cs pr hp p s h fp => ?_
      · rw [← zip_any]
        exact DI.dI0 (di_zip2 rfl B.zip Sq.t Sq.t (da_cons (by walk_at "v") (da_cons (de_fld (by walk_at "v") T.cl T.nR rfl) da_nil)))
      · have := g.len
        exact sz (by rw [List.length_zip]; omega)
      · have hm := hk pr.1 (List.of_mem_zip hp).1
        refine de_and (p := isW pr.1) (q := decide (0 ≤ intOf pr.1) && decide (intOf pr.1 < pr.2)) (de_call (ok_isWholeG FW B) (hr.mono (by decide)) rfl mW FW.kp bW (da_cons (by walk_at "c") da_nil) ⟨_, rfl, hm, rfl⟩) fun z => de_one (de_chain de_int (DE.to (by walk_at "c") (intOf_W z)) (by walk_at "c"))
    · refine dss_end (ds_if (q := true) (DW.dt (dw_or (p := false) (q := true) (dt_not (p := true) (dt_val ?_)) fun _ => dw_or1 ?_)) (fun _ => dss_end (ds_ret (DE.to de_bl ?_)) trivial) fun z => nomatch z) trivial
      · exact de_isi rfl B.isinstance (.tup _) (.ty "tuple") rfl (da_cons (by walk_at "v") (da_cons (de_ty rfl B.tuple boot_tuple') da_nil))
      · exact DT.to (dt_neI (de_len Sq.t rfl B.len (da_cons (by walk_at "v") da_nil)) (de_len Sq.t rfl B.len (da_cons (de_fld (by walk_at "v") T.cl T.nR rfl) da_nil))) (by simp; omega)
      · rw [e2]
        show _ = D.bl (decide _ && _)
        rw [decide_eq_false hl2, Bool.false_and]
  · have hf : isiN x "tuple" = false := by
      cases h : isiN x "tuple" with
      | false => rfl
      | true => exact absurd ((isi_tup ht.1).mp h) hq
    refine dss_end (ds_if (q := true) (DW.dt (dw_or (p := true) (q := true) (dt_not (p := false) (dt_val (DE.to (de_isiN ht.1 .tuple rfl B.isinstance (by walk_at "v") (de_ty rfl B.tuple boot_tuple')) (by rw [hf])))) fun z => nomatch z)) (fun _ => dss_end (ds_ret (DE.to de_bl ?_)) trivial) fun z => nomatch z) trivial
    rw [e2]
    cases x <;> first | rfl | exact absurd ⟨_, rfl⟩ hq
/-- an element, as it is known -/
theorem hasG_el {ns : List Int} {x : D} (h : hasG ns x = true) : ∃ ks, x = tupI ks ∧ El ns ks := by
  cases x with
  | tup ks =>
    have h' := Bool.and_eq_true_iff.mp (show (decide (ks.length = ns.length) && (ks.zip ns).all fun p => inB p.1 p.2) = true from h)
    have hl := of_decide_eq_true h'.1
    have key : ∀ (ks : List D) (ns : List Int), ks.length = ns.length → ((ks.zip ns).all fun p => inB p.1 p.2) = true → ∃ is, ks = intsD is ∧ El ns is := by
      intro ks
      induction ks with
      | nil => intro ns hl _; cases ns with
        | nil => exact ⟨[], rfl, El.nil⟩
        | cons _ _ => cases hl
      | cons k ks ih => intro ns hl ha; cases ns with
        | nil => cases hl
        | cons n ns =>
          rw [List.zip_cons_cons, List.all_cons, Bool.and_eq_true] at ha
          obtain ⟨is, e, hel⟩ := ih ns (by simpa using hl) ha.2
          have hk := ha.1
          rw [inB, Bool.and_eq_true, Bool.and_eq_true] at hk
          exact ⟨intOf k :: is, (by show k :: ks = D.int (intOf k) :: intsD is; rw [← intOf_W (show isW k = true from hk.1), e]), El.cons (of_decide_eq_true hk.2.1) (of_decide_eq_true hk.2.2) hel⟩
    obtain ⟨is, e, hel⟩ := key ks ns hl h'.2
    exact ⟨is, by rw [e], hel⟩
  | _ => cases h
theorem el_hasG {ns ks : List Int} (h : El ns ks) : hasG ns (tupI ks) = true := by
  have key : ∀ (ns ks : List Int), El ns ks → (((intsD ks).zip ns).all fun p => inB p.1 p.2) = true := by
    intro ns
    induction ns with
    | nil => intro ks h; have := h.len; cases ks with
      | nil => rfl
      | cons _ _ => cases this
    | cons n ns ih =>
      intro ks h
      obtain ⟨k, r, rfl, h0, h1, hr⟩ := h.inv
      show (inB (.int k) n && _) = true
      rw [Bool.and_eq_true]
      exact ⟨by simp [inB, isW, intOf, h0, h1], ih r hr⟩
  show (decide _ && _) = true
  rw [key ns ks h, Bool.and_true]
  exact decide_eq_true (by simpa using h.len)
theorem the_el {ks : List Int} (hl : ks.length ≤ 50) : ThE (tupI ks) := ⟨nofun, fun l e => by
  cases e
  exact ⟨by simpa using hl, fun k hk => by obtain ⟨i, _, rfl⟩ := List.mem_map.mp hk; exact nofun⟩⟩
end
end K4
set_option Elab.async false
set_option linter.all false
set_option maxRecDepth 100000
set_option maxHeartbeats 1000000
namespace K4
open PySem PySem.Spec L2 CT
open PyProof.Rows hiding St
local macro_rules | `(tactic| walk_at "v") => `(tactic| first
  | exact de_var (i := 0) rfl (by first | exact Or.inl rfl | exact Or.inr (Or.inl rfl)) rfl
  | exact de_var (i := 1) rfl (by first | exact Or.inl rfl | exact Or.inr (Or.inl rfl)) rfl
  | exact de_var (i := 2) rfl (by first | exact Or.inl rfl | exact Or.inr (Or.inl rfl)) rfl
  | exact de_var (i := 3) rfl (by first | exact Or.inl rfl | exact Or.inr (Or.inl rfl)) rfl
  | exact de_var (i := 4) rfl (by first | exact Or.inl rfl | exact Or.inr (Or.inl rfl)) rfl
  | exact de_var (i := 5) rfl (by first | exact Or.inl rfl | exact Or.inr (Or.inl rfl)) rfl
  | exact de_var (i := 6) rfl (by first | exact Or.inl rfl | exact Or.inr (Or.inl rfl)) rfl
  | exact de_var (i := 7) rfl (by first | exact Or.inl rfl | exact Or.inr (Or.inl rfl)) rfl
  | exact de_var (i := 8) rfl (by first | exact Or.inl rfl | exact Or.inr (Or.inl rfl)) rfl
  | exact de_var (i := 9) rfl (by first | exact Or.inl rfl | exact Or.inr (Or.inl rfl)) rfl
  | exact de_var (i := 10) rfl (by first | exact Or.inl rfl | exact Or.inr (Or.inl rfl)) rfl
  | exact de_var (i := 11) rfl (by first | exact Or.inl rfl | exact Or.inr (Or.inl rfl)) rfl
  | exact de_var (i := 12) rfl (by first | exact Or.inl rfl | exact Or.inr (Or.inl rfl)) rfl)
local macro_rules | `(tactic| walk_at "c") => `(tactic| first
  | exact de_cv (by assumption) (i := 0) rfl rfl
  | exact de_cv (by assumption) (i := 1) rfl rfl
  | exact de_cv (by assumption) (i := 2) rfl rfl
  | exact de_cv (by assumption) (i := 3) rfl rfl
  | exact de_cv (by assumption) (i := 4) rfl rfl
  | exact de_cv (by assumption) (i := 5) rfl rfl)
/-- a class of errors that is raised -/
structure Xc (K : PySem.W.Frag) (mg : Str → Option Value) (x : Str) (C : Addr) : Prop where
  ex : PySem.W.excIn K C bmV "ValueError.__new__" = true
  kp : PySem.W.keepIn K (.ref C) = true
  gl : mg x = some (.ref C)
  is : XIsi K C
  ty : PySem.W.typeIn K (.ref C) = some (.type "type")
section
variable {P : Program} {w : World} {K : PySem.W.Frag} {mg : Str → Option Value} {base : Heap} {C CL fW fHas fNou fSum fBack fNeed : Addr} {dW dHas dNou dSum dBack dNeed : FuncData}
def pNeedX (C CL : Addr) (ds : List D) (r : Res) : Prop := ∃ ns x, ds = [grp C ns, x] ∧ Good ns ∧ ThE x ∧ hasG ns x = false ∧ r = .xc (.exc CL [])
theorem ok_needX (M : Ms K mg C fW fHas fNou fSum fBack fNeed dW dHas dNou dSum dBack dNeed) (N : Xc K mg "NoElement" CL) : FnOk P w K mg base (CXA P w) 3 fNeed dNeed ["self", "thing"] (spR K (pNeedX C CL)) := by
  refine fn_R M.FNeed scNeed (fun ds r ⟨ns, x, e, _⟩ => by rw [e]; rfl) (fun cdv A outer s H E ds d hr ⟨ns, x, e1, g, ht, hb, e2⟩ => nomatch e2) fun cdv A outer s H E ds d hr ⟨ns, x, e1, g, ht, hb, e2⟩ => ?_
  subst e1
  cases e2
  refine ⟨_, dsxs_head (dsx_if (q := true) (dt_not (p := false) (dt_val ?_)) (fun _ => dsxs_head (dsx_raise0 N.ex N.kp rfl N.gl N.is.cl N.ty hr.hd)) fun z => nomatch z)⟩
  exact DE.to (de_meth (by walk_at "v") rfl M.T.cl M.eHas (ok_hasG M.FHas M.B M.T M.mW M.FW M.bW) (hr.mono (by decide)) M.bHas (da_cons (by walk_at "v") da_nil) ⟨ns, x, rfl, g, ht, rfl⟩) (by rw [hb])
/-- self.need(e) raises -/
theorem x_need {X : Cx} {ρ : Rho} {o e : Expr} {apos cpos pos : Pos} {ns : List Int} {x : D} (M : Ms X.K X.mg C fW fHas fNou fSum fBack fNeed dW dHas dNou dSum dBack dNeed) (N : Xc X.K X.mg "NoElement" CL) (hr : Room 3 X.A) (ho : DE X ρ o (grp C ns)) (he : DE X ρ e x) (g : Good ns) (ht : ThE x) (hb : hasG ns x = false)
    (hx : ∀ e s, ¬ X.xe e s) (hs : swapsWith (.Call (.Attribute o "need" apos) [e] [] cpos) none pos.line X.env = pure false := by rfl) (h1 : starEach [e] X.env = (false, eval e X.env) :: starEach [] X.env := by rfl) (hpl : (backTo cpos (starEach [] X.env)).any (·.1) = false := by rfl)
    {pl : Sem Bool} (hq : eval (.Call (.Attribute o "need" apos) [e] [] cpos) X.env = (do
      let ov ← eval o X.env
      standAt apos.atName
      let (f, first) ← holding [ov] (getMethod ov "need" pl)
      callWith cpos f first (backTo cpos (starEach [e] X.env)) (backToKw cpos (keywordEach [] X.env))) := by rfl) : DSX X ρ (.Expr (.Call (.Attribute o "need" apos) [e] [] cpos) pos) ρ (.exc CL []) :=
  dsx_expr (dex_meth ho rfl M.T.cl M.eNeed (ok_needX M N) hr M.bNeed (da_cons he da_nil h1) ⟨ns, x, rfl, g, ht, hb, rfl⟩ hx h1 hpl hq) hs
def pAddX (C CL : Addr) (ds : List D) (r : Res) : Prop := ∃ ns x y, ds = [grp C ns, x, y] ∧ Good ns ∧ r = .xc (.exc CL []) ∧ ((ThE x ∧ hasG ns x = false) ∨ ((∃ ks, x = tupI ks ∧ El ns ks) ∧ ThE y ∧ hasG ns y = false))
theorem ok_addX (M : Ms K mg C fW fHas fNou fSum fBack fNeed dW dHas dNou dSum dBack dNeed) (N : Xc K mg "NoElement" CL) {f : Addr} {fd : FuncData} (F : Fun K "added" "Group.added" sAdded f fd) : FnOk P w K mg base (CXA P w) 4 f fd ["self", "x", "y"] (spR K (pAddX C CL)) := by
  refine fn_R F scAdded (fun ds r ⟨ns, x, y, e, _⟩ => by rw [e]; rfl) (fun cdv A outer s H E ds d hr ⟨ns, x, y, e1, g, e2, _⟩ => nomatch e2) fun cdv A outer s H E ds d hr ⟨ns, x, y, e1, g, e2, h⟩ => ?_
  subst e1
  cases e2
  rcases h with ⟨ht, hb⟩ | ⟨⟨ks, rfl, hx⟩, ht, hb⟩
  · exact ⟨_, dsxs_head (x_need (pl := _) M N hr (by walk_at "v") (by walk_at "v") g ht hb (fun _ _ z => z))⟩
  · refine ⟨_, dsxs_cons (ds_expr (de_meth (by walk_at "v") rfl M.T.cl M.eNeed (ok_need M) hr M.bNeed (da_cons (by walk_at "v") da_nil) ⟨ns, ks, rfl, g, hx, rfl⟩)) (dsxs_head (x_need (pl := _) M N hr (by walk_at "v") (by walk_at "v") g ht hb (fun _ _ z => z)))⟩
def pOneX (C CL : Addr) (ds : List D) (r : Res) : Prop := ∃ ns x, ds = [grp C ns, x] ∧ Good ns ∧ ThE x ∧ hasG ns x = false ∧ r = .xc (.exc CL [])
theorem ok_backX (M : Ms K mg C fW fHas fNou fSum fBack fNeed dW dHas dNou dSum dBack dNeed) (N : Xc K mg "NoElement" CL) {f : Addr} {fd : FuncData} (F : Fun K "back" "Group.back" sBack f fd) : FnOk P w K mg base (CXA P w) 4 f fd ["self", "x"] (spR K (pOneX C CL)) := by
  refine fn_R F scBack (fun ds r ⟨ns, x, e, _⟩ => by rw [e]; rfl) (fun cdv A outer s H E ds d hr ⟨ns, x, e1, g, ht, hb, e2⟩ => nomatch e2) fun cdv A outer s H E ds d hr ⟨ns, x, e1, g, ht, hb, e2⟩ => ?_
  subst e1
  cases e2
  exact ⟨_, dsxs_head (x_need (pl := _) M N hr (by walk_at "v") (by walk_at "v") g ht hb (fun _ _ z => z))⟩
theorem ok_orderX (M : Ms K mg C fW fHas fNou fSum fBack fNeed dW dHas dNou dSum dBack dNeed) (N : Xc K mg "NoElement" CL) {f : Addr} {fd : FuncData} (F : Fun K "order" "Group.order" sOrder f fd) : FnOk P w K mg base (CXA P w) 4 f fd ["self", "x"] (spR K (pOneX C CL)) := by
  refine fn_R F scOrder (fun ds r ⟨ns, x, e, _⟩ => by rw [e]; rfl) (fun cdv A outer s H E ds d hr ⟨ns, x, e1, g, ht, hb, e2⟩ => nomatch e2) fun cdv A outer s H E ds d hr ⟨ns, x, e1, g, ht, hb, e2⟩ => ?_
  subst e1
  cases e2
  exact ⟨_, dsxs_head (x_need (pl := _) M N hr (by walk_at "v") (by walk_at "v") g ht hb (fun _ _ z => z))⟩
def pTimX (C CL : Addr) (ds : List D) (r : Res) : Prop := ∃ ns n x, ds = [grp C ns, .int n, x] ∧ Good ns ∧ ThE x ∧ hasG ns x = false ∧ r = .xc (.exc CL [])
theorem ok_timesX (M : Ms K mg C fW fHas fNou fSum fBack fNeed dW dHas dNou dSum dBack dNeed) (N : Xc K mg "NoElement" CL) {f : Addr} {fd : FuncData} (F : Fun K "times" "Group.times" sTimes f fd) : FnOk P w K mg base (CXA P w) 4 f fd ["self", "n", "x"] (spR K (pTimX C CL)) := by
  refine fn_R F scTimes (fun ds r ⟨ns, n, x, e, _⟩ => by rw [e]; rfl) (fun cdv A outer s H E ds d hr ⟨ns, n, x, e1, g, ht, hb, e2⟩ => nomatch e2) fun cdv A outer s H E ds d hr ⟨ns, n, x, e1, g, ht, hb, e2⟩ => ?_
  subst e1
  cases e2
  exact ⟨_, dsxs_head (x_need (pl := _) M N hr (by walk_at "v") (by walk_at "v") g ht hb (fun _ _ z => z))⟩
end
end K4
set_option Elab.async false
set_option linter.all false
set_option maxRecDepth 100000
set_option maxHeartbeats 1000000
namespace K4
open PySem PySem.Spec L2 CT
open PyProof.Rows hiding St
local macro_rules | `(tactic| walk_at "v") => `(tactic| first
  | exact de_var (i := 0) rfl (by first | exact Or.inl rfl | exact Or.inr (Or.inl rfl)) rfl
  | exact de_var (i := 1) rfl (by first | exact Or.inl rfl | exact Or.inr (Or.inl rfl)) rfl
  | exact de_var (i := 2) rfl (by first | exact Or.inl rfl | exact Or.inr (Or.inl rfl)) rfl
  | exact de_var (i := 3) rfl (by first | exact Or.inl rfl | exact Or.inr (Or.inl rfl)) rfl
  | exact de_var (i := 4) rfl (by first | exact Or.inl rfl | exact Or.inr (Or.inl rfl)) rfl
  | exact de_var (i := 5) rfl (by first | exact Or.inl rfl | exact Or.inr (Or.inl rfl)) rfl
  | exact de_var (i := 6) rfl (by first | exact Or.inl rfl | exact Or.inr (Or.inl rfl)) rfl
  | exact de_var (i := 7) rfl (by first | exact Or.inl rfl | exact Or.inr (Or.inl rfl)) rfl
  | exact de_var (i := 8) rfl (by first | exact Or.inl rfl | exact Or.inr (Or.inl rfl)) rfl
  | exact de_var (i := 9) rfl (by first | exact Or.inl rfl | exact Or.inr (Or.inl rfl)) rfl
  | exact de_var (i := 10) rfl (by first | exact Or.inl rfl | exact Or.inr (Or.inl rfl)) rfl
  | exact de_var (i := 11) rfl (by first | exact Or.inl rfl | exact Or.inr (Or.inl rfl)) rfl
  | exact de_var (i := 12) rfl (by first | exact Or.inl rfl | exact Or.inr (Or.inl rfl)) rfl)
local macro_rules | `(tactic| walk_at "c") => `(tactic| first
  | exact de_cv (by assumption) (i := 0) rfl rfl
  | exact de_cv (by assumption) (i := 1) rfl rfl
  | exact de_cv (by assumption) (i := 2) rfl rfl
  | exact de_cv (by assumption) (i := 3) rfl rfl
  | exact de_cv (by assumption) (i := 4) rfl rfl
  | exact de_cv (by assumption) (i := 5) rfl rfl)
def forT : Stmt → Expr
  | .For t _ _ _ _ => t
  | _ => .Constant .none 0 ⟨0, 0, 0, 0⟩
def forB : Stmt → List Stmt
  | .For _ _ b _ _ => b
  | _ => []
section
variable {P : Program} {w : World} {K : PySem.W.Frag} {mg : Str → Option Value} {base : Heap} {C CL fW fHas fNou fSum fBack fNeed : Addr} {dW dHas dNou dSum dBack dNeed : FuncData}
def pTotX (C CL : Addr) (ds : List D) (r : Res) : Prop := ∃ (ns : List Int) (dn : List (List Int)) (x : D) (rs : List D), ds = [grp C ns, .lst (dn.map tupI ++ x :: rs)] ∧ Good ns ∧ (∀ y ∈ dn, El ns y) ∧ ThE x ∧ hasG ns x = false ∧ r = .xc (.exc CL [])
theorem ok_totalX (M : Ms K mg C fW fHas fNou fSum fBack fNeed dW dHas dNou dSum dBack dNeed) (N : Xc K mg "NoElement" CL) {f : Addr} {fd : FuncData} (F : Fun K "total" "Group.total" sTotal f fd) : FnOk P w K mg base (CXA P w) 4 f fd ["self", "some"] (spR K (pTotX C CL)) := by
  refine fn_R F scTotal (fun ds r ⟨ns, dn, x, rs, e, _⟩ => by rw [e]; rfl) (fun cdv A outer s H E ds d hr ⟨ns, dn, x, rs, e1, g, hd, ht, hb, e2⟩ => nomatch e2) fun cdv A outer s H E ds d hr ⟨ns, dn, x, rs, e1, g, hd, ht, hb, e2⟩ => ?_
  subst e1
  cases e2
  have nd := scTotal.nd
  have turns : ∀ (todo done : List (List Int)) (z : Sl), done ++ todo = dn → ForX (cxOf (CXA P w) P w K mg base ["self", "some", "whole", "x"] "Group.total" (defScope sTotal) f cdv A outer s H E).nox (forT (stN (defBody sTotal) 1)) (forB (stN (defBody sTotal) 1)) [.val (grp C ns), .val (.lst (dn.map tupI ++ x :: rs)), .val (tupI (totI ns dn)), .val x] (.exc CL []) (todo.map tupI ++ x :: rs) [.val (grp C ns), .val (.lst (dn.map tupI ++ x :: rs)), .val (tupI (totI ns done)), z] := by
    intro todo
    induction todo with
    | nil =>
      intro done z e
      rw [List.append_nil] at e
      subst e
      exact .here (dg_name (k := 3) nd rfl (Or.inl rfl)) tg_set (dsxs_head (x_need (pl := _) M N hr (by walk_at "v") (by walk_at "v") g ht hb (fun _ _ z => z)))
    | cons y todo ih =>
      intro done z e
      have hy : El ns y := hd y (by rw [← e]; simp)
      have hdn : El ns (totI ns done) := totI_el g.g2 fun u hu => hd u (by rw [← e]; simp [hu])
      have := ih (done ++ [y]) (.val (tupI y)) (by rw [List.append_assoc]; exact e)
      rw [totI_snoc] at this
      exact .cons (dg_name (k := 3) nd rfl (Or.inl rfl)) tg_set (dss_cons (ds_expr (de_meth (by walk_at "v") rfl M.T.cl M.eNeed (ok_need M) hr M.bNeed (da_cons (by walk_at "v") da_nil) ⟨ns, y, rfl, g, hy, rfl⟩))
        (dss_cons (ds_set (i := 2) nd rfl (Or.inl rfl) (de_meth (by walk_at "v") rfl M.T.cl M.eSum (ok_sum M.FSum M.B M.T) (hr.mono (by decide)) M.bSum (da_cons (by walk_at "v") (da_cons (by walk_at "v") da_nil)) ⟨ns, _, _, rfl, g, hdn, hy, rfl⟩)) dss_nil)) this
  refine ⟨_, dsxs_cons (ds_set (i := 2) nd rfl (Or.inl rfl) (de_meth0 (by walk_at "v") rfl M.T.cl M.eNou (ok_nought M.FNou M.B M.T) (hr.mono (by decide)) M.bNou ⟨ns, rfl, g, rfl⟩)) (dsxs_head (dsx_for rfl rfl rfl (di_lst (by walk_at "v")) (turns dn [] _ rfl)))⟩
end
end K4
set_option Elab.async false
set_option linter.all false
set_option maxRecDepth 100000
set_option maxHeartbeats 1000000
namespace K4
open PySem PySem.Spec L2 CT
open PyProof.Rows hiding St
local macro_rules | `(tactic| walk_at "v") => `(tactic| first
  | exact de_var (i := 0) rfl (by first | exact Or.inl rfl | exact Or.inr (Or.inl rfl)) rfl
  | exact de_var (i := 1) rfl (by first | exact Or.inl rfl | exact Or.inr (Or.inl rfl)) rfl
  | exact de_var (i := 2) rfl (by first | exact Or.inl rfl | exact Or.inr (Or.inl rfl)) rfl
  | exact de_var (i := 3) rfl (by first | exact Or.inl rfl | exact Or.inr (Or.inl rfl)) rfl
  | exact de_var (i := 4) rfl (by first | exact Or.inl rfl | exact Or.inr (Or.inl rfl)) rfl
  | exact de_var (i := 5) rfl (by first | exact Or.inl rfl | exact Or.inr (Or.inl rfl)) rfl
  | exact de_var (i := 6) rfl (by first | exact Or.inl rfl | exact Or.inr (Or.inl rfl)) rfl
  | exact de_var (i := 7) rfl (by first | exact Or.inl rfl | exact Or.inr (Or.inl rfl)) rfl
  | exact de_var (i := 8) rfl (by first | exact Or.inl rfl | exact Or.inr (Or.inl rfl)) rfl
  | exact de_var (i := 9) rfl (by first | exact Or.inl rfl | exact Or.inr (Or.inl rfl)) rfl
  | exact de_var (i := 10) rfl (by first | exact Or.inl rfl | exact Or.inr (Or.inl rfl)) rfl
  | exact de_var (i := 11) rfl (by first | exact Or.inl rfl | exact Or.inr (Or.inl rfl)) rfl
  | exact de_var (i := 12) rfl (by first | exact Or.inl rfl | exact Or.inr (Or.inl rfl)) rfl)
local macro_rules | `(tactic| walk_at "c") => `(tactic| first
  | exact de_cv (by assumption) (i := 0) rfl rfl
  | exact de_cv (by assumption) (i := 1) rfl rfl
  | exact de_cv (by assumption) (i := 2) rfl rfl
  | exact de_cv (by assumption) (i := 3) rfl rfl
  | exact de_cv (by assumption) (i := 4) rfl rfl
  | exact de_cv (by assumption) (i := 5) rfl rfl)
section
variable {P : Program} {w : World} {K : PySem.W.Frag} {mg : Str → Option Value} {base : Heap}
/-! ### _law_due -/
theorem scDue : FnScope ["_law_rounds_here", "_law_thing"] ["_law_rounds_here", "_law_thing"] (defScope sDue) := ⟨rfl, rfl, rfl, by decide +kernel, rfl, by decide +kernel, by decide +kernel⟩
def pDue (ds : List D) (d : D) : Prop := ∃ ns x, ds = [tupI ns, x] ∧ Good ns ∧ ThE x ∧ d = .bl (hasG ns x)
theorem ok_due {f fW : Addr} {fd dW : FuncData} (F : Fun K "_law_due" "_law_due" sDue f fd) (B : Bl mg) (mW : mg "_law_whole" = some (.ref fW)) (FW : Fun K "_law_whole" "_law_whole" sWhole fW dW) (bW : Binds K dW ["_law_found"] []) : FnOk P w K mg base CX0 2 f fd ["_law_rounds_here", "_law_thing"] (spD K pDue) := by
  refine fn_D F scDue (fun ds d ⟨ns, x, e, _⟩ => by rw [e]; rfl) fun cdv A outer s H E ds d hr ⟨ns, x, e1, g, ht, e2⟩ => ⟨.rt d, rfl, ?_⟩
  subst e1
  by_cases hq : ∃ ks, x = .tup ks
  · obtain ⟨ks, rfl⟩ := hq
    obtain ⟨hl, hk⟩ := ht.2 ks rfl
    have hlen : (intsD ns).length = ns.length := by simp
    by_cases hl2 : ks.length = ns.length
    · refine dss_cons (ds_if (q := false) (DW.dt (dw_or (p := false) (q := false) (dt_not (p := true) (dt_val ?_)) fun _ => dw_or1 ?_)) (fun z => nomatch z) fun _ => dss_nil) ?_
      · exact de_isi rfl B.isinstance (.tup _) (.ty "tuple") rfl (da_cons (by walk_at "v") (da_cons (de_ty rfl B.tuple boot_tuple') da_nil))
      · exact DT.to (dt_neI (de_len Sq.t rfl B.len (da_cons (by walk_at "v") da_nil)) (de_len Sq.t rfl B.len (da_cons (by walk_at "v") da_nil))) (by simp [hl2])
      have e : (D.bl (hasG ns (.tup ks))) = .bl (((ks.zip ns).map fun p => inB p.1 p.2).all id) := by
        simp [hasG, hl2, List.all_map, Function.comp_def]
      rw [e2, e]
      refine dss_end (ds_ret (de_all rfl Sq.l rfl B.all (da_cons (DC.de ?_) da_nil))) trivial
      rw [List.map_map]
      refine dc_map2 (sc := defScope sDue) (N := ["_law_rounds_here", "_law_thing"]) (own := ["_law_number", "_law_most"]) (cap := []) (k := 0) (k2 := 1) (l := ks.zip ns) (g1 := fun p => p.1) (g2 := fun p => .int p.2) rfl rfl (by decide +kernel) rfl rfl rfl ?_ ?_ fun cs pr hp p s h fp => ?_
      · rw [← zip_any]
        exact DI.dI0 (di_zip2 rfl B.zip Sq.t Sq.t (da_cons (by walk_at "v") (da_cons (by walk_at "v") da_nil)))
      · have := g.len
        exact sz (by rw [List.length_zip]; omega)
      · have hm := hk pr.1 (List.of_mem_zip hp).1
        refine de_and (p := isW pr.1) (q := decide (0 ≤ intOf pr.1) && decide (intOf pr.1 < pr.2)) (de_call (ok_wholeG FW B) (hr.mono (by decide)) rfl mW FW.kp bW (da_cons (by walk_at "c") da_nil) ⟨_, rfl, hm, rfl⟩) fun z => de_one (de_chain de_int (DE.to (by walk_at "c") (intOf_W z)) (by walk_at "c"))
    · refine dss_end (ds_if (q := true) (DW.dt (dw_or (p := false) (q := true) (dt_not (p := true) (dt_val ?_)) fun _ => dw_or1 ?_)) (fun _ => dss_end (ds_ret (DE.to de_bl ?_)) trivial) fun z => nomatch z) trivial
      · exact de_isi rfl B.isinstance (.tup _) (.ty "tuple") rfl (da_cons (by walk_at "v") (da_cons (de_ty rfl B.tuple boot_tuple') da_nil))
      · exact DT.to (dt_neI (de_len Sq.t rfl B.len (da_cons (by walk_at "v") da_nil)) (de_len Sq.t rfl B.len (da_cons (by walk_at "v") da_nil))) (by simp; omega)
      · rw [e2]
        show _ = D.bl (decide _ && _)
        rw [decide_eq_false hl2, Bool.false_and]
  · have hf : isiN x "tuple" = false := by
      cases h : isiN x "tuple" with
      | false => rfl
      | true => exact absurd ((isi_tup ht.1).mp h) hq
    refine dss_end (ds_if (q := true) (DW.dt (dw_or (p := true) (q := true) (dt_not (p := false) (dt_val (DE.to (de_isiN ht.1 .tuple rfl B.isinstance (by walk_at "v") (de_ty rfl B.tuple boot_tuple')) (by rw [hf])))) fun z => nomatch z)) (fun _ => dss_end (ds_ret (DE.to de_bl ?_)) trivial) fun z => nomatch z) trivial
    rw [e2]
    cases x <;> first | rfl | exact absurd ⟨_, rfl⟩ hq
end
end K4
set_option Elab.async false
set_option linter.all false
set_option maxRecDepth 100000
set_option maxHeartbeats 4000000
namespace K4
open PySem PySem.Spec L2 CT
open PyProof.Rows hiding St
local macro_rules | `(tactic| walk_at "v") => `(tactic| first
  | exact de_var (i := 0) rfl (by first | exact Or.inl rfl | exact Or.inr (Or.inl rfl)) rfl
  | exact de_var (i := 1) rfl (by first | exact Or.inl rfl | exact Or.inr (Or.inl rfl)) rfl
  | exact de_var (i := 2) rfl (by first | exact Or.inl rfl | exact Or.inr (Or.inl rfl)) rfl
  | exact de_var (i := 3) rfl (by first | exact Or.inl rfl | exact Or.inr (Or.inl rfl)) rfl
  | exact de_var (i := 4) rfl (by first | exact Or.inl rfl | exact Or.inr (Or.inl rfl)) rfl
  | exact de_var (i := 5) rfl (by first | exact Or.inl rfl | exact Or.inr (Or.inl rfl)) rfl
  | exact de_var (i := 6) rfl (by first | exact Or.inl rfl | exact Or.inr (Or.inl rfl)) rfl
  | exact de_var (i := 7) rfl (by first | exact Or.inl rfl | exact Or.inr (Or.inl rfl)) rfl
  | exact de_var (i := 8) rfl (by first | exact Or.inl rfl | exact Or.inr (Or.inl rfl)) rfl
  | exact de_var (i := 9) rfl (by first | exact Or.inl rfl | exact Or.inr (Or.inl rfl)) rfl
  | exact de_var (i := 10) rfl (by first | exact Or.inl rfl | exact Or.inr (Or.inl rfl)) rfl
  | exact de_var (i := 11) rfl (by first | exact Or.inl rfl | exact Or.inr (Or.inl rfl)) rfl
  | exact de_var (i := 12) rfl (by first | exact Or.inl rfl | exact Or.inr (Or.inl rfl)) rfl)
local macro_rules | `(tactic| walk_at "c") => `(tactic| first
  | exact de_cv (by assumption) (i := 0) rfl rfl
  | exact de_cv (by assumption) (i := 1) rfl rfl
  | exact de_cv (by assumption) (i := 2) rfl rfl
  | exact de_cv (by assumption) (i := 3) rfl rfl
  | exact de_cv (by assumption) (i := 4) rfl rfl
  | exact de_cv (by assumption) (i := 5) rfl rfl)
section
variable {P : Program} {w : World} {K : PySem.W.Frag} {mg : Str → Option Value} {base : Heap}
/-! ### _law_spoilt -/
def pickD (l : List D) (k : Int) : D := l.getD k.toNat .non
theorem pickD_ix {l : List D} {k : Int} (h : 0 ≤ k) (h2 : k < (l.length : Int)) : atI l k = some (pickD l k) := by
  obtain ⟨j, rfl⟩ := Int.eq_ofNat_of_zero_le h
  have h3 : j < l.length := by omega
  refine atI_nat ?_
  simp [pickD, h3]
theorem pickD_mem {l : List D} {k : Int} (h : 0 ≤ k) (h2 : k < (l.length : Int)) : pickD l k ∈ l := by
  have h3 : k.toNat < l.length := by omega
  simp [pickD, h3]
def mx1 (n : Int) : Int := if n > 1 then n else 1
def atS (ns : List Int) (c : Int) : Int := c / 9 % mx1 ns.length
def newS (ns ks : List Int) (c : Int) : List D :=
  [.int (-1 - c / 27 % 9), .int (gd ns (atS ns c)), .int (gd ns (atS ns c) + c / 27 % 99), .bl (decide (0 < gd ks (atS ns c))), pickD [.non, .str "0", .tup [.int 0]] (c / 27 % 3)]
def othS (ks : List Int) : List D := [.non, .bl true, .int 0, .str "", .str "0,0", .dct [], .lst [], .tup [.non], .tup [.tup []], tupI ks]
def putS (ns ks : List Int) (c : Int) : List D := cutL (intsD ks) none (some (atS ns c)) ++ [pickD (newS ns ks c) (c % 9)] ++ cutL (intsD ks) (some (atS ns c + 1)) none
def spoilt (ns ks : List Int) (c : Int) : D :=
  if c % 9 < 5 ∧ 0 < ns.length then .tup (putS ns ks c)
  else if c % 9 = 5 then .tup (intsD ks ++ [.int 0])
  else if c % 9 = 6 then .tup (cutL (intsD ks) (some 1) none)
  else if c % 9 = 7 then .lst (intsD ks)
  else pickD (othS ks) (c / 9 % 10)
theorem cutL_mem {xs : List D} {lo hi : Option Int} {x : D} (h : x ∈ cutL xs lo hi) : x ∈ xs := List.mem_of_mem_drop (List.mem_of_mem_take h)
theorem cutL_len {xs : List D} {lo hi : Option Int} : (cutL xs lo hi).length ≤ xs.length := by
  unfold cutL
  rw [List.length_take, List.length_drop]
  omega
theorem ints_ty {ks : List Int} {k : D} (h : k ∈ intsD ks) : tyN k ≠ none := by
  obtain ⟨i, _, rfl⟩ := List.mem_map.mp h
  exact nofun
theorem mod_in (a : Int) {n : Int} (h : 0 < n) : 0 ≤ a % n ∧ a % n < n := ⟨Int.emod_nonneg _ (by omega), Int.emod_lt_of_pos _ h⟩
theorem new_ty {ns ks : List Int} {c : Int} : tyN (pickD (newS ns ks c) (c % 9)) ≠ none := by
  have hl : ∀ x ∈ newS ns ks c, tyN x ≠ none := by
    have h3 : ∀ x ∈ [D.non, .str "0", .tup [.int 0]], tyN x ≠ none := by
      intro x hx
      simp only [List.mem_cons, List.not_mem_nil, or_false] at hx
      rcases hx with rfl | rfl | rfl <;> exact nofun
    have := h3 _ (pickD_mem (l := [D.non, .str "0", .tup [.int 0]]) (mod_in (c / 27) (n := 3) (by decide)).1 (mod_in (c / 27) (n := 3) (by decide)).2)
    intro x hx
    simp only [newS, List.mem_cons, List.not_mem_nil, or_false] at hx
    rcases hx with rfl | rfl | rfl | rfl | rfl
    · exact nofun
    · exact nofun
    · exact nofun
    · exact nofun
    · exact this
  by_cases h : c % 9 < 5
  · exact hl _ (pickD_mem (mod_in c (n := 9) (by decide)).1 h)
  · have : (newS ns ks c).length ≤ (c % 9).toNat := by show 5 ≤ _; omega
    rw [pickD, List.getD_eq_getElem?_getD, List.getElem?_eq_none this]
    exact nofun
theorem spoilt_the {ns ks : List Int} {c : Int} (hl : ks.length ≤ 7) : ThE (spoilt ns ks c) := by
  have hi : (intsD ks).length ≤ 7 := by simpa using hl
  unfold spoilt
  split
  · refine ⟨nofun, fun l e => ?_⟩
    cases e
    refine ⟨?_, fun k hk => ?_⟩
    · have h1 := cutL_len (xs := intsD ks) (lo := none) (hi := some (atS ns c))
      have h2 := cutL_len (xs := intsD ks) (lo := some (atS ns c + 1)) (hi := none)
      rw [putS, List.length_append, List.length_append, List.length_singleton]
      omega
    · rw [putS] at hk
      rcases List.mem_append.mp hk with hk | hk
      · rcases List.mem_append.mp hk with hk | hk
        · exact ints_ty (cutL_mem hk)
        · rw [List.mem_singleton.mp hk]; exact new_ty
      · exact ints_ty (cutL_mem hk)
  split
  · refine ⟨nofun, fun l e => ?_⟩
    cases e
    refine ⟨by rw [List.length_append, List.length_singleton]; omega, fun k hk => ?_⟩
    rcases List.mem_append.mp hk with hk | hk
    · exact ints_ty hk
    · rw [List.mem_singleton.mp hk]; exact nofun
  split
  · refine ⟨nofun, fun l e => ?_⟩
    cases e
    exact ⟨Nat.le_trans cutL_len (by omega), fun k hk => ints_ty (cutL_mem hk)⟩
  split
  · exact ⟨nofun, fun l e => nomatch e⟩
  · have h := pickD_mem (l := othS ks) (k := c / 9 % 10) (mod_in (c / 9) (n := 10) (by decide)).1 (mod_in (c / 9) (n := 10) (by decide)).2
    generalize pickD (othS ks) (c / 9 % 10) = y at h ⊢
    simp only [othS, List.mem_cons, List.not_mem_nil, or_false] at h
    rcases h with rfl | rfl | rfl | rfl | rfl | rfl | rfl | rfl | rfl | rfl
    · exact ⟨nofun, fun l e => nomatch e⟩
    · exact ⟨nofun, fun l e => nomatch e⟩
    · exact ⟨nofun, fun l e => nomatch e⟩
    · exact ⟨nofun, fun l e => nomatch e⟩
    · exact ⟨nofun, fun l e => nomatch e⟩
    · exact ⟨nofun, fun l e => nomatch e⟩
    · exact ⟨nofun, fun l e => nomatch e⟩
    · refine ⟨nofun, fun l e => ?_⟩
      cases e
      exact ⟨by decide, fun k hk => by rw [List.mem_singleton.mp hk]; exact nofun⟩
    · refine ⟨nofun, fun l e => ?_⟩
      cases e
      exact ⟨by decide, fun k hk => by rw [List.mem_singleton.mp hk]; exact nofun⟩
    · exact the_el (by omega)
abbrev SN : List Str := ["_law_rounds_here", "_law_x", "_law_cell_here", "_law_way", "_law_at", "_law_more", "_law_new"]
theorem scSpoilt : FnScope SN ["_law_rounds_here", "_law_x", "_law_cell_here"] (defScope sSpoilt) := ⟨rfl, rfl, rfl, by decide +kernel, rfl, by decide +kernel, by decide +kernel⟩
def pSpoilt (ds : List D) (d : D) : Prop := ∃ ns ks c, ds = [tupI ns, tupI ks, .int c] ∧ ns.length ≤ 7 ∧ ks.length = ns.length ∧ d = spoilt ns ks c
def retX : Stmt → Expr
  | .Return (some e) _ => e
  | _ => .Constant .none 0 ⟨0, 0, 0, 0⟩
theorem oth_ix {X : Cx} {ρ : Rho} {a b : Expr} {pos : Pos} {y : D} {ks : List Int} {c : Int} (ha : DE X ρ a (.lst (othS ks))) (hb : DE X ρ b (.int (c / 9 % 10))) (hs : PlainIx b) (h : atI (othS ks) (c / 9 % 10) = some y) : DE X ρ (.Subscript a b pos) y := de_ixL ha hb h hs
theorem oth_l {X : Cx} {ρ : Rho} {e1 e2 e3 e4 e5 e6 e7 e8 e9 e10 : Expr} {pos : Pos} {ks : List Int} (h1 : DE X ρ e1 .non) (h2 : DE X ρ e2 (.bl true)) (h3 : DE X ρ e3 (.int 0)) (h4 : DE X ρ e4 (.str "")) (h5 : DE X ρ e5 (.str "0,0")) (h6 : DE X ρ e6 (.dct [])) (h7 : DE X ρ e7 (.lst [])) (h8 : DE X ρ e8 (.tup [.non])) (h9 : DE X ρ e9 (.tup [.tup []])) (h10 : DE X ρ e10 (tupI ks))
    (n : [e1, e2, e3, e4, e5, e6, e7, e8, e9, e10].all noStar = true) : DE X ρ (.List [e1, e2, e3, e4, e5, e6, e7, e8, e9, e10] pos) (.lst (othS ks)) := by
  simp only [List.all_cons, List.all_nil, Bool.and_true, Bool.and_eq_true] at n
  obtain ⟨n1, n2, n3, n4, n5, n6, n7, n8, n9, n10⟩ := n
  exact de_lst (da_c h1 (da_c h2 (da_c h3 (da_c h4 (da_c h5 (da_c h6 (da_c h7 (da_c h8 (da_c h9 (da_c h10 da_nil n10) n9) n8) n7) n6) n5) n4) n3) n2) n1) (by show 10 ≤ sizeLine; decide)
theorem oth_parts : ∃ e1 e2 e3 e4 e5 e6 e7 e8 e9 e10 b p q, retX (stN (defBody sSpoilt) 6) = .Subscript (.List [e1, e2, e3, e4, e5, e6, e7, e8, e9, e10] p) b q ∧ (∃ p, e1 = .Constant .none 0 p) ∧ (∃ p, e2 = .Constant (.bool true) 0 p) ∧ (∃ p, e3 = .Constant (.int 0) 0 p) ∧ (∃ p, e4 = .Constant (.str "") 0 p) ∧ (∃ p, e5 = .Constant (.str "0,0") 0 p) ∧
    (∃ p, e6 = .Dict [] [] p) ∧ (∃ p, e7 = .List [] p) ∧ (∃ p q, e8 = .Tuple [.Constant .none 0 q] 0 p) ∧ (∃ p q, e9 = .Tuple [.Tuple [] 0 q] 0 p) ∧ (∃ p, e10 = .Name "_law_x" p) ∧ ∃ p1 p2 p3 p4 p5, b = .BinOp (.BinOp (.Name "_law_cell_here" p1) .FloorDiv (.Constant (.int 9) 0 p2) p3) .Mod (.Constant (.int 10) 0 p4) p5 :=
  ⟨_, _, _, _, _, _, _, _, _, _, _, _, _, rfl, ⟨_, rfl⟩, ⟨_, rfl⟩, ⟨_, rfl⟩, ⟨_, rfl⟩, ⟨_, rfl⟩, ⟨_, rfl⟩, ⟨_, rfl⟩, ⟨_, _, rfl⟩, ⟨_, _, rfl⟩, ⟨_, rfl⟩, ⟨_, _, _, _, _, rfl⟩⟩
theorem oth_ret {X : Cx} {ρ : Rho} {y : D} {ks : List Int} {c : Int} (hx : ∀ p, DE X ρ (.Name "_law_x" p) (tupI ks)) (hc : ∀ p, DE X ρ (.Name "_law_cell_here" p) (.int c)) (h : atI (othS ks) (c / 9 % 10) = some y) : DE X ρ (retX (stN (defBody sSpoilt) 6)) y := by
  obtain ⟨e1, e2, e3, e4, e5, e6, e7, e8, e9, e10, b, p, q, e, ⟨p1, q1⟩, ⟨p2, q2⟩, ⟨p3, q3⟩, ⟨p4, q4⟩, ⟨p5, q5⟩, ⟨p6, q6⟩, ⟨p7, q7⟩, ⟨p8, r8, q8⟩, ⟨p9, r9, q9⟩, ⟨p10, q10⟩, p11, p12, p13, p14, p15, q11⟩ := oth_parts
  rw [e]
  have h1 : DE X ρ e1 .non := by rw [q1]; exact de_non
  have h2 : DE X ρ e2 (.bl true) := by rw [q2]; exact de_bl
  have h3 : DE X ρ e3 (.int 0) := by rw [q3]; exact de_int
  have h4 : DE X ρ e4 (.str "") := by rw [q4]; exact de_str
  have h5 : DE X ρ e5 (.str "0,0") := by rw [q5]; exact de_str
  have h6 : DE X ρ e6 (.dct []) := by rw [q6]; exact de_d0
  have h7 : DE X ρ e7 (.lst []) := by rw [q7]; exact de_lst da_nil (by decide)
  have h8 : DE X ρ e8 (.tup [.non]) := by rw [q8]; exact de_tup (da_c de_non da_nil) (by decide)
  have h9 : DE X ρ e9 (.tup [.tup []]) := by rw [q9]; exact de_tup (da_c (de_tup da_nil (by decide)) da_nil) (by decide)
  have h10 : DE X ρ e10 (tupI ks) := by rw [q10]; exact hx _
  have hb : DE X ρ b (.int (c / 9 % 10)) := by rw [q11]; exact de_mod (by decide) (de_fdiv ⟨by decide, by decide⟩ (hc _) de_int) de_int
  have hs : PlainIx b := by rw [q11]; exact fun _ _ => rfl
  have hn : [e1, e2, e3, e4, e5, e6, e7, e8, e9, e10].all noStar = true := by rw [q1, q2, q3, q4, q5, q6, q7, q8, q9, q10]; rfl
  exact oth_ix (oth_l h1 h2 h3 h4 h5 h6 h7 h8 h9 h10 hn) hb hs h
theorem ok_spoilt {f : Addr} {fd : FuncData} (F : Fun K "_law_spoilt" "_law_spoilt" sSpoilt f fd) (B : Bl mg) (mMax : mg "max" = none) : FnOk P w K mg base CX0 1 f fd ["_law_rounds_here", "_law_x", "_law_cell_here"] (spD K pSpoilt) := by
  refine fn_D F scSpoilt (fun ds d ⟨ns, ks, c, e, _⟩ => by rw [e]; rfl) fun cdv A outer s H E ds d hr ⟨ns, ks, c, e1, hl, hk, e2⟩ => ⟨.rt d, rfl, ?_⟩
  subst e1
  obtain ⟨E0, hE, p0, hB⟩ : ∃ E0, E0 = retX (stN (defBody sSpoilt) 6) ∧ ∃ p0, defBody sSpoilt = [stN (defBody sSpoilt) 0, stN (defBody sSpoilt) 1, stN (defBody sSpoilt) 2, stN (defBody sSpoilt) 3, stN (defBody sSpoilt) 4, stN (defBody sSpoilt) 5, .Return (some E0) p0] := ⟨_, rfl, _, rfl⟩
  have nd := scSpoilt.nd
  rw [hB]
  have hn : (intsD ns).length = ns.length := by simp
  have hkk : (intsD ks).length = ks.length := by simp
  have c9 := mod_in c (n := 9) (by decide)
  have hm1 : 1 ≤ mx1 ns.length := by unfold mx1; split <;> omega
  have ha := mod_in (c / 9) (n := mx1 ns.length) (by omega)
  refine dss_cons (ds_set (i := 3) (d := .int (c % 9)) nd rfl (Or.inl rfl) (de_mod (by decide) (by walk_at "v") de_int)) ?_
  refine dss_cons (ds_set (i := 4) (d := .int (atS ns c)) nd rfl (Or.inl rfl) ?_) ?_
  · refine de_mod (i := c / 9) (j := mx1 ns.length) (by omega) (de_fdiv ⟨by decide, by decide⟩ (by walk_at "v") de_int) ?_
    exact DE.to (de_max2 rfl rfl mMax (da_cons de_int (da_cons (de_len Sq.t rfl B.len (da_cons (by walk_at "v") da_nil)) da_nil))) (by rw [hn]; rfl)
  by_cases h5 : c % 9 < 5 ∧ 0 < ns.length
  · have hal : atS ns c < (ns.length : Int) := by
      have e : mx1 ns.length = ns.length := by unfold mx1; split <;> omega
      have := ha.2
      unfold atS
      omega
    have ha0 : 0 ≤ atS ns c := ha.1
    refine dss_end (ds_if (q := true) (DT.to (DW.dt (dw_and (dt_lt (by walk_at "v") de_int) fun _ => dw_and1 (dt_gt (de_len Sq.t rfl B.len (da_cons (by walk_at "v") da_nil)) de_int))) ?_) (fun _ => ?_) fun z => nomatch z) trivial
    · simp [h5.1, h5.2]
    refine dss_cons (ds_set (i := 5) (d := .int (c / 27)) nd rfl (Or.inl rfl) (de_fdiv ⟨by decide, by decide⟩ (by walk_at "v") de_int)) ?_
    refine dss_cons (ρ' := [.val (tupI ns), .val (tupI ks), .val (.int c), .val (.int (c % 9)), .val (.int (atS ns c)), .val (.int (c / 27)), .val (.lst (newS ns ks c))]) ?_ ?_
    · refine ds_set (i := 6) (d := .lst (newS ns ks c)) ?_ ?_ ?_ ?_ ?_ ?_
      · exact nd
      · rfl
      · exact Or.inl rfl
      · refine de_lst ?_ ?_
        rotate_left
        · show 5 ≤ sizeLine; decide
        refine da_c ?_ ?_
        · exact de_sub (de_neg de_int) (de_mod (by decide) (by walk_at "v") de_int)
        refine da_c ?_ ?_
        · exact de_ixT (by walk_at "v") (by walk_at "v") (gd_ix ha0 hal)
        refine da_c ?_ ?_
        · exact de_add (de_ixT (by walk_at "v") (by walk_at "v") (gd_ix ha0 hal)) (de_mod (by decide) (by walk_at "v") de_int)
        refine da_c ?_ ?_
        · exact de_gt (de_ixT (by walk_at "v") (by walk_at "v") (gd_ix ha0 (by omega))) de_int
        refine da_c ?_ ?_
        · have c3 := mod_in (c / 27) (n := 3) (by decide)
          refine de_ixL (i := c / 27 % 3) (xs := [.non, .str "0", .tup [.int 0]]) ?_ ?_ (pickD_ix c3.1 c3.2)
          · refine de_lst ?_ ?_
            rotate_left
            · decide
            refine da_c ?_ ?_
            · exact de_non
            refine da_c ?_ ?_
            · exact de_str
            refine da_c ?_ ?_
            · refine de_tup ?_ ?_
              rotate_left
              · decide
              exact da_c de_int da_nil
            exact da_nil
          · exact de_mod (by decide) (by walk_at "v") de_int
        exact da_nil
      · rfl
      · exact .inl rfl
    rw [e2, spoilt, if_pos h5]
    have hcl : (cutL (intsD ks) none (some (atS ns c))).length ≤ 7 := Nat.le_trans cutL_len (by omega)
    have hcr : (cutL (intsD ks) (some (atS ns c + 1)) none).length ≤ 7 := Nat.le_trans cutL_len (by omega)
    refine dss_end (ds_ret (de_catT (xs := cutL (intsD ks) none (some (atS ns c)) ++ [pickD (newS ns ks c) (c % 9)]) (ys := cutL (intsD ks) (some (atS ns c + 1)) none) (de_catT (de_slT (by walk_at "v") do_none (do_some (by walk_at "v"))) (de_tup (da_c (de_ixL (i := c % 9) (by walk_at "v") (by walk_at "v") (pickD_ix c9.1 h5.1)) da_nil) (by show 1 ≤ sizeLine; decide)) ?_) (de_slT (by walk_at "v") (do_some (de_add (by walk_at "v") de_int)) do_none) ?_)) trivial
    · show _ ≤ 2 ^ 24; simp only [List.length_singleton]; omega
    · show _ ≤ 2 ^ 24; rw [List.length_append, List.length_singleton]; omega
  refine dss_cons (ds_if (q := false) (DT.to (DW.dt (dw_and (dt_lt (by walk_at "v") de_int) fun _ => dw_and1 (dt_gt (de_len Sq.t rfl B.len (da_cons (by walk_at "v") da_nil)) de_int))) ?_) (fun z => nomatch z) fun _ => dss_nil) ?_
  · rw [← Bool.decide_and]; exact decide_eq_false (by simpa using h5)
  rw [e2, spoilt, if_neg h5]
  by_cases w5 : c % 9 = 5
  · refine dss_end (ds_if (q := true) (DT.to (dt_eqI (by walk_at "v") de_int) (decide_eq_true w5)) (fun _ => ?_) fun z => nomatch z) trivial
    rw [if_pos w5]
    refine dss_end (ds_ret (de_catT (by walk_at "v") (de_tup (da_c de_int da_nil) (by decide)) ?_)) trivial
    show _ ≤ 2 ^ 24; simp only [List.length_singleton]; omega
  refine dss_cons (ds_if (q := false) (DT.to (dt_eqI (by walk_at "v") de_int) (decide_eq_false w5)) (fun z => nomatch z) fun _ => dss_nil) ?_
  rw [if_neg w5]
  by_cases w6 : c % 9 = 6
  · refine dss_end (ds_if (q := true) (DT.to (dt_eqI (by walk_at "v") de_int) (decide_eq_true w6)) (fun _ => ?_) fun z => nomatch z) trivial
    rw [if_pos w6]
    exact dss_end (ds_ret (de_slT (by walk_at "v") (do_some de_int) do_none)) trivial
  refine dss_cons (ds_if (q := false) (DT.to (dt_eqI (by walk_at "v") de_int) (decide_eq_false w6)) (fun z => nomatch z) fun _ => dss_nil) ?_
  rw [if_neg w6]
  by_cases w7 : c % 9 = 7
  · refine dss_end (ds_if (q := true) (DT.to (dt_eqI (by walk_at "v") de_int) (decide_eq_true w7)) (fun _ => ?_) fun z => nomatch z) trivial
    rw [if_pos w7]
    exact dss_end (ds_ret (DF.de (df_list Sq.t rfl B.list (da_cons (by walk_at "v") da_nil)))) trivial
  refine dss_cons (ds_if (q := false) (DT.to (dt_eqI (by walk_at "v") de_int) (decide_eq_false w7)) (fun z => nomatch z) fun _ => dss_nil) ?_
  rw [if_neg w7]
  have c10 := mod_in (c / 9) (n := 10) (by decide)
  have hix : atI (othS ks) (c / 9 % 10) = some (pickD (othS ks) (c / 9 % 10)) := pickD_ix c10.1 c10.2
  generalize pickD (othS ks) (c / 9 % 10) = y at hix ⊢
  have fin : ∀ X ρ, (∀ p, DE X ρ (.Name "_law_x" p) (tupI ks)) → (∀ p, DE X ρ (.Name "_law_cell_here" p) (.int c)) → DE X ρ E0 y := by
    intro X ρ h1 h2
    rw [hE]
    exact @oth_ret _ _ _ _ _ h1 h2 hix
  clear hE hB
  exact dss_end (ds_ret (fin _ _ (fun p => by walk_at "v") (fun p => by walk_at "v"))) trivial
end
end K4
set_option Elab.async false
set_option linter.all false
set_option maxRecDepth 100000
set_option maxHeartbeats 0
namespace K4
open PySem PySem.Spec L2 CT
open PyProof.Rows hiding St
structure Ad where
  (C CE CN CL CT : Addr)
  (fW fP fA fI fHas fNou fSum fBO fNeed fAdd fBk fTim fOrd fTot fCell fWh fRd fEl fSp fDue fAsk fRef : Addr)
  (dW dP dA dI dHas dNou dSum dBO dNeed dAdd dBk dTim dOrd dTot dCell dWh dRd dEl dSp dDue dAsk dRef : FuncData)
/-- all that is read of the text -/
structure Txt (K : PySem.W.Frag) (mg : Str → Option Value) (t : Ad) : Prop where
  B : Bl mg
  G : Gb K mg t.fW t.fP
  T : Cl K t.C
  N : Xc K mg "NoElement" t.CL
  M : Mk K t.C t.fI
  mC : mg "Rounds" = some (.ref t.C)
  mA : mg "are_rounds" = some (.ref t.fA)
  mE : mg "CarryError" = some (.ref t.CE)
  mN : mg "NoRounds" = some (.ref t.CN)
  mT : mg "NoText" = some (.ref t.CT)
  mMin : mg "min" = none
  mMax : mg "max" = none
  mAbs : mg "abs" = none
  mVe : mg "ValueError" = none
  eE : XTop K t.CE
  hm : PySem.W.mroIn K t.CL (.ref t.CE) = some true
  k1 : PySem.W.kitOne K (.ref t.CL) (.ref t.CL) = some true
  k2 : PySem.W.kitOne K (.ref t.CL) (.type "ValueError") = some true
  k3 : PySem.W.kitOne K (.ref t.CL) (.ref t.CN) = some false
  k4 : PySem.W.kitOne K (.ref t.CL) (.ref t.CT) = some false
  ms : Ms K mg t.C t.fW t.fHas t.fNou t.fSum t.fBO t.fNeed t.dW t.dHas t.dNou t.dSum t.dBO t.dNeed
  FP : Fun K "product" "product" sProduct t.fP t.dP
  bP : Binds K t.dP ["numbers"] []
  FA : Fun K "are_rounds" "are_rounds" sAre t.fA t.dA
  bA : Binds K t.dA ["thing"] []
  FI : Fun K "__init__" "Rounds.__init__" sInit t.fI t.dI
  bI : Binds K t.dI ["self", "rounds"] []
  FAdd : Fun K "added" "Group.added" sAdded t.fAdd t.dAdd
  eAdd : Meth K t.C "added" t.fAdd
  bAdd : Binds K t.dAdd ["self", "x", "y"] []
  FBk : Fun K "back" "Group.back" sBack t.fBk t.dBk
  eBk : Meth K t.C "back" t.fBk
  bBk : Binds K t.dBk ["self", "x"] []
  FTim : Fun K "times" "Group.times" sTimes t.fTim t.dTim
  eTim : Meth K t.C "times" t.fTim
  bTim : Binds K t.dTim ["self", "n", "x"] []
  FOrd : Fun K "order" "Group.order" sOrder t.fOrd t.dOrd
  eOrd : Meth K t.C "order" t.fOrd
  bOrd : Binds K t.dOrd ["self", "x"] []
  FTot : Fun K "total" "Group.total" sTotal t.fTot t.dTot
  eTot : Meth K t.C "total" t.fTot
  bTot : Binds K t.dTot ["self", "some"] []
  mCell : mg "_law_cell" = some (.ref t.fCell)
  FCell : Fun K "_law_cell" "_law_cell" sCell t.fCell t.dCell
  bCell : Binds K t.dCell ["_law_script", "_law_k"] []
  mWh : mg "_law_whole" = some (.ref t.fWh)
  FWh : Fun K "_law_whole" "_law_whole" sWhole t.fWh t.dWh
  bWh : Binds K t.dWh ["_law_found"] []
  mRd : mg "_law_rounds" = some (.ref t.fRd)
  FRd : Fun K "_law_rounds" "_law_rounds" sRounds t.fRd t.dRd
  bRd : Binds K t.dRd ["_law_cell_here", "_law_most", "_law_greatest"] []
  mEl : mg "_law_element" = some (.ref t.fEl)
  FEl : Fun K "_law_element" "_law_element" sElement t.fEl t.dEl
  bEl : Binds K t.dEl ["_law_rounds_here", "_law_cell_here"] []
  mSp : mg "_law_spoilt" = some (.ref t.fSp)
  FSp : Fun K "_law_spoilt" "_law_spoilt" sSpoilt t.fSp t.dSp
  bSp : Binds K t.dSp ["_law_rounds_here", "_law_x", "_law_cell_here"] []
  mDue : mg "_law_due" = some (.ref t.fDue)
  FDue : Fun K "_law_due" "_law_due" sDue t.fDue t.dDue
  bDue : Binds K t.dDue ["_law_rounds_here", "_law_thing"] []
  mAsk : mg "_law_asked" = some (.ref t.fAsk)
  FAsk : Fun K "_law_asked" "_law_asked" sAsked t.fAsk t.dAsk
  bAsk : Binds K t.dAsk ["_law_group", "_law_way", "_law_x", "_law_thing"] []
  mRef : mg "_law_refused" = some (.ref t.fRef)
  FRef : Fun K "_law_refused" "_law_refused" sRefused t.fRef t.dRef
  bRef : Binds K t.dRef ["_law_group", "_law_way", "_law_x", "_law_thing"] []
local macro_rules | `(tactic| walk_at "v") => `(tactic| first
  | exact de_var (i := 0) rfl (by first | exact Or.inl rfl | exact Or.inr (Or.inl rfl)) rfl
  | exact de_var (i := 1) rfl (by first | exact Or.inl rfl | exact Or.inr (Or.inl rfl)) rfl
  | exact de_var (i := 2) rfl (by first | exact Or.inl rfl | exact Or.inr (Or.inl rfl)) rfl
  | exact de_var (i := 3) rfl (by first | exact Or.inl rfl | exact Or.inr (Or.inl rfl)) rfl
  | exact de_var (i := 4) rfl (by first | exact Or.inl rfl | exact Or.inr (Or.inl rfl)) rfl
  | exact de_var (i := 5) rfl (by first | exact Or.inl rfl | exact Or.inr (Or.inl rfl)) rfl
  | exact de_var (i := 6) rfl (by first | exact Or.inl rfl | exact Or.inr (Or.inl rfl)) rfl
  | exact de_var (i := 7) rfl (by first | exact Or.inl rfl | exact Or.inr (Or.inl rfl)) rfl
  | exact de_var (i := 8) rfl (by first | exact Or.inl rfl | exact Or.inr (Or.inl rfl)) rfl
  | exact de_var (i := 9) rfl (by first | exact Or.inl rfl | exact Or.inr (Or.inl rfl)) rfl
  | exact de_var (i := 10) rfl (by first | exact Or.inl rfl | exact Or.inr (Or.inl rfl)) rfl
  | exact de_var (i := 11) rfl (by first | exact Or.inl rfl | exact Or.inr (Or.inl rfl)) rfl
  | exact de_var (i := 12) rfl (by first | exact Or.inl rfl | exact Or.inr (Or.inl rfl)) rfl)
local macro_rules | `(tactic| walk_at "c") => `(tactic| first
  | exact de_cv (by assumption) (i := 0) rfl rfl
  | exact de_cv (by assumption) (i := 1) rfl rfl
  | exact de_cv (by assumption) (i := 2) rfl rfl
  | exact de_cv (by assumption) (i := 3) rfl rfl
  | exact de_cv (by assumption) (i := 4) rfl rfl
  | exact de_cv (by assumption) (i := 5) rfl rfl)
section
variable {P : Program} {w : World} {K : PySem.W.Frag} {mg : Str → Option Value} {base : Heap}
/-! ### _law_asked -/
abbrev AN : List Str := ["_law_group", "_law_way", "_law_x", "_law_thing"]
theorem scAsked : FnScope AN AN (defScope sAsked) := ⟨rfl, rfl, rfl, by decide +kernel, rfl, by decide +kernel, by decide +kernel⟩
def askV (ns : List Int) (way : Int) (x y : List Int) : D :=
  if way = 0 then tupI (addI ns x y) else if way = 1 then tupI (addI ns y x) else if way = 2 then tupI (mulI ns (-1) y) else if way = 3 then tupI (mulI ns 0 y) else if way = 4 then tupI (mulI ns (-3) y) else if way = 5 then .int (ordN ns y)
  else if way = 6 then tupI (totI ns [x, y, x]) else tupI (totI ns [y, x])
def Way (k : Int) : Prop := k = 0 ∨ k = 1 ∨ k = 2 ∨ k = 3 ∨ k = 4 ∨ k = 5 ∨ k = 6 ∨ k = 7
def pAsked (C CL : Addr) (ds : List D) (r : Res) : Prop := ∃ ns way x y, ds = [grp C ns, .int way, tupI x, y] ∧ Good ns ∧ Way way ∧ El ns x ∧ ThE y ∧
  ((∃ ks, y = tupI ks ∧ El ns ks ∧ r = .ok (askV ns way x ks)) ∨ (hasG ns y = false ∧ r = .xc (.exc CL [])))
/-- a way that is not this one -/
theorem no_way {X : Cx} {ρ : Rho} {a b : List Stmt} {e : Expr} {i j : Int} {p q pos : Pos} {jj} (hv : DE X ρ e (.int i)) (h : i ≠ j) (hb : b = []) : DS X ρ (.If (.Compare e [.Eq] [.Constant (.int j) jj p] q) a b pos) (.nx ρ) := by
  subst hb
  exact ds_if (q := false) (DT.to (dt_eqI hv de_int) (decide_eq_false h)) (fun z => nomatch z) fun _ => dss_nil
theorem ok_asked {t : Ad} (T : Txt K mg t) : FnOk P w K mg base (CXA P w) 5 t.fAsk t.dAsk AN (spR K (pAsked t.C t.CL)) := by
  refine fn_R T.FAsk scAsked (fun ds r ⟨ns, way, x, y, e, _⟩ => by rw [e]; rfl) (fun cdv A outer s H E ds d hr ⟨ns, way, x, y, e1, g, hw, hx, ht, hy⟩ => ⟨.rt d, rfl, ?_⟩) fun cdv A outer s H E ds d hr ⟨ns, way, x, y, e1, g, hw, hx, ht, hy⟩ => ?_
  · subst e1
    rcases hy with ⟨ks, rfl, hk, e2⟩ | ⟨_, e2⟩
    rotate_left
    · cases e2
    cases e2
    rcases hw with rfl | rfl | rfl | rfl | rfl | rfl | rfl | rfl
    · exact dss_end (ds_if (q := true) (DT.to (dt_eqI (by walk_at "v") de_int) (decide_eq_true rfl)) (fun _ => dss_end (ds_ret (de_meth (by walk_at "v") rfl T.T.cl T.eAdd (ok_added T.ms T.FAdd) hr T.bAdd (da_cons (by walk_at "v") (da_cons (by walk_at "v") da_nil)) ⟨ns, x, ks, rfl, g, hx, hk, rfl⟩)) trivial) fun z => nomatch z) trivial
    · exact dss_cons (no_way (by walk_at "v") (by decide) rfl) (dss_end (ds_if (q := true) (DT.to (dt_eqI (by walk_at "v") de_int) (decide_eq_true rfl)) (fun _ => dss_end (ds_ret (de_meth (by walk_at "v") rfl T.T.cl T.eAdd (ok_added T.ms T.FAdd) hr T.bAdd (da_cons (by walk_at "v") (da_cons (by walk_at "v") da_nil)) ⟨ns, ks, x, rfl, g, hk, hx, rfl⟩)) trivial) fun z => nomatch z) trivial)
    · exact dss_cons (no_way (by walk_at "v") (by decide) rfl) (dss_cons (no_way (by walk_at "v") (by decide) rfl) (dss_end (ds_if (q := true) (DT.to (dt_eqI (by walk_at "v") de_int) (decide_eq_true rfl)) (fun _ => dss_end (ds_ret (de_meth (by walk_at "v") rfl T.T.cl T.eBk (ok_back T.ms T.FBk) hr T.bBk (da_cons (by walk_at "v") da_nil) ⟨ns, ks, rfl, g, hk, rfl⟩)) trivial) fun z => nomatch z) trivial))
    · exact dss_cons (no_way (by walk_at "v") (by decide) rfl) (dss_cons (no_way (by walk_at "v") (by decide) rfl) (dss_cons (no_way (by walk_at "v") (by decide) rfl) (dss_end (ds_if (q := true) (DT.to (dt_eqI (by walk_at "v") de_int) (decide_eq_true rfl)) (fun _ => dss_end (ds_ret (de_meth (by walk_at "v") rfl T.T.cl T.eTim (ok_times T.ms T.mAbs T.FTim) hr T.bTim (da_cons de_int (da_cons (by walk_at "v") da_nil)) ⟨ns, 0, ks, rfl, g, hk, rfl⟩)) trivial) fun z => nomatch z) trivial)))
    · exact dss_cons (no_way (by walk_at "v") (by decide) rfl) (dss_cons (no_way (by walk_at "v") (by decide) rfl) (dss_cons (no_way (by walk_at "v") (by decide) rfl) (dss_cons (no_way (by walk_at "v") (by decide) rfl) (dss_end (ds_if (q := true) (DT.to (dt_eqI (by walk_at "v") de_int) (decide_eq_true rfl)) (fun _ => dss_end (ds_ret (de_meth (by walk_at "v") rfl T.T.cl T.eTim (ok_times T.ms T.mAbs T.FTim) hr T.bTim (da_cons (de_neg de_int) (da_cons (by walk_at "v") da_nil)) ⟨ns, -3, ks, rfl, g, hk, rfl⟩)) trivial) fun z => nomatch z) trivial))))
    · exact dss_cons (no_way (by walk_at "v") (by decide) rfl) (dss_cons (no_way (by walk_at "v") (by decide) rfl) (dss_cons (no_way (by walk_at "v") (by decide) rfl) (dss_cons (no_way (by walk_at "v") (by decide) rfl) (dss_cons (no_way (by walk_at "v") (by decide) rfl) (dss_end (ds_if (q := true) (DT.to (dt_eqI (by walk_at "v") de_int) (decide_eq_true rfl)) (fun _ => dss_end (ds_ret (de_meth (by walk_at "v") rfl T.T.cl T.eOrd (ok_order T.ms T.FOrd) hr T.bOrd (da_cons (by walk_at "v") da_nil) ⟨ns, ks, rfl, g, hk, rfl⟩)) trivial) fun z => nomatch z) trivial)))))
    · exact dss_cons (no_way (by walk_at "v") (by decide) rfl) (dss_cons (no_way (by walk_at "v") (by decide) rfl) (dss_cons (no_way (by walk_at "v") (by decide) rfl) (dss_cons (no_way (by walk_at "v") (by decide) rfl) (dss_cons (no_way (by walk_at "v") (by decide) rfl) (dss_cons (no_way (by walk_at "v") (by decide) rfl) (dss_end (ds_ret (de_meth (by walk_at "v") rfl T.T.cl T.eTot (ok_total T.ms T.FTot) hr T.bTot (da_cons (de_slL (l := some (6 - 6)) (u := none) (xs := [tupI x, tupI ks, tupI x]) (de_lst (da_cons (by walk_at "v") (da_cons (by walk_at "v") (da_cons (by walk_at "v") da_nil))) (by show 3 ≤ sizeLine; decide)) (do_some (de_sub (by walk_at "v") de_int)) do_none) da_nil) ⟨ns, [x, ks, x], rfl, g, (fun u hu => by simp only [List.mem_cons, List.not_mem_nil, or_false] at hu; rcases hu with rfl | rfl | rfl <;> assumption), rfl⟩)) trivial))))))
    · exact dss_cons (no_way (by walk_at "v") (by decide) rfl) (dss_cons (no_way (by walk_at "v") (by decide) rfl) (dss_cons (no_way (by walk_at "v") (by decide) rfl) (dss_cons (no_way (by walk_at "v") (by decide) rfl) (dss_cons (no_way (by walk_at "v") (by decide) rfl) (dss_cons (no_way (by walk_at "v") (by decide) rfl) (dss_end (ds_ret (de_meth (by walk_at "v") rfl T.T.cl T.eTot (ok_total T.ms T.FTot) hr T.bTot (da_cons (de_slL (l := some (7 - 6)) (u := none) (xs := [tupI x, tupI ks, tupI x]) (de_lst (da_cons (by walk_at "v") (da_cons (by walk_at "v") (da_cons (by walk_at "v") da_nil))) (by show 3 ≤ sizeLine; decide)) (do_some (de_sub (by walk_at "v") de_int)) do_none) da_nil) ⟨ns, [ks, x], rfl, g, (fun u hu => by simp only [List.mem_cons, List.not_mem_nil, or_false] at hu; rcases hu with rfl | rfl <;> assumption), rfl⟩)) trivial))))))
  · subst e1
    rcases hy with ⟨ks, rfl, hk, e2⟩ | ⟨hb, e2⟩
    · cases e2
    cases e2
    refine ⟨[.val (grp t.C ns), .val (.int way), .val (tupI x), .val y], ?_⟩
    rcases hw with rfl | rfl | rfl | rfl | rfl | rfl | rfl | rfl
    · exact dsxs_head (dsx_if (q := true) (DT.to (dt_eqI (by walk_at "v") de_int) (decide_eq_true rfl)) (fun _ => dsxs_head (dsx_ret (dex_meth (by walk_at "v") rfl T.T.cl T.eAdd (ok_addX T.ms T.N T.FAdd) hr T.bAdd (da_cons (by walk_at "v") (da_cons (by walk_at "v") da_nil)) ⟨ns, tupI x, y, rfl, g, rfl, .inr ⟨⟨x, rfl, hx⟩, ht, hb⟩⟩))) fun z => nomatch z)
    · exact dsxs_cons (no_way (by walk_at "v") (by decide) rfl) (dsxs_head (dsx_if (q := true) (DT.to (dt_eqI (by walk_at "v") de_int) (decide_eq_true rfl)) (fun _ => dsxs_head (dsx_ret (dex_meth (by walk_at "v") rfl T.T.cl T.eAdd (ok_addX T.ms T.N T.FAdd) hr T.bAdd (da_cons (by walk_at "v") (da_cons (by walk_at "v") da_nil)) ⟨ns, y, tupI x, rfl, g, rfl, .inl ⟨ht, hb⟩⟩))) fun z => nomatch z))
    · exact dsxs_cons (no_way (by walk_at "v") (by decide) rfl) (dsxs_cons (no_way (by walk_at "v") (by decide) rfl) (dsxs_head (dsx_if (q := true) (DT.to (dt_eqI (by walk_at "v") de_int) (decide_eq_true rfl)) (fun _ => dsxs_head (dsx_ret (dex_meth (by walk_at "v") rfl T.T.cl T.eBk (ok_backX T.ms T.N T.FBk) hr T.bBk (da_cons (by walk_at "v") da_nil) ⟨ns, y, rfl, g, ht, hb, rfl⟩))) fun z => nomatch z)))
    · exact dsxs_cons (no_way (by walk_at "v") (by decide) rfl) (dsxs_cons (no_way (by walk_at "v") (by decide) rfl) (dsxs_cons (no_way (by walk_at "v") (by decide) rfl) (dsxs_head (dsx_if (q := true) (DT.to (dt_eqI (by walk_at "v") de_int) (decide_eq_true rfl)) (fun _ => dsxs_head (dsx_ret (dex_meth (by walk_at "v") rfl T.T.cl T.eTim (ok_timesX T.ms T.N T.FTim) hr T.bTim (da_cons de_int (da_cons (by walk_at "v") da_nil)) ⟨ns, 0, y, rfl, g, ht, hb, rfl⟩))) fun z => nomatch z))))
    · exact dsxs_cons (no_way (by walk_at "v") (by decide) rfl) (dsxs_cons (no_way (by walk_at "v") (by decide) rfl) (dsxs_cons (no_way (by walk_at "v") (by decide) rfl) (dsxs_cons (no_way (by walk_at "v") (by decide) rfl) (dsxs_head (dsx_if (q := true) (DT.to (dt_eqI (by walk_at "v") de_int) (decide_eq_true rfl)) (fun _ => dsxs_head (dsx_ret (dex_meth (by walk_at "v") rfl T.T.cl T.eTim (ok_timesX T.ms T.N T.FTim) hr T.bTim (da_cons (de_neg de_int) (da_cons (by walk_at "v") da_nil)) ⟨ns, -3, y, rfl, g, ht, hb, rfl⟩))) fun z => nomatch z)))))
    · exact dsxs_cons (no_way (by walk_at "v") (by decide) rfl) (dsxs_cons (no_way (by walk_at "v") (by decide) rfl) (dsxs_cons (no_way (by walk_at "v") (by decide) rfl) (dsxs_cons (no_way (by walk_at "v") (by decide) rfl) (dsxs_cons (no_way (by walk_at "v") (by decide) rfl) (dsxs_head (dsx_if (q := true) (DT.to (dt_eqI (by walk_at "v") de_int) (decide_eq_true rfl)) (fun _ => dsxs_head (dsx_ret (dex_meth (by walk_at "v") rfl T.T.cl T.eOrd (ok_orderX T.ms T.N T.FOrd) hr T.bOrd (da_cons (by walk_at "v") da_nil) ⟨ns, y, rfl, g, ht, hb, rfl⟩))) fun z => nomatch z))))))
    · exact dsxs_cons (no_way (by walk_at "v") (by decide) rfl) (dsxs_cons (no_way (by walk_at "v") (by decide) rfl) (dsxs_cons (no_way (by walk_at "v") (by decide) rfl) (dsxs_cons (no_way (by walk_at "v") (by decide) rfl) (dsxs_cons (no_way (by walk_at "v") (by decide) rfl) (dsxs_cons (no_way (by walk_at "v") (by decide) rfl) (dsxs_head (dsx_ret (dex_meth (by walk_at "v") rfl T.T.cl T.eTot (ok_totalX T.ms T.N T.FTot) hr T.bTot (da_cons (de_slL (l := some (6 - 6)) (u := none) (xs := [tupI x, y, tupI x]) (de_lst (da_cons (by walk_at "v") (da_cons (by walk_at "v") (da_cons (by walk_at "v") da_nil))) (by show 3 ≤ sizeLine; decide)) (do_some (de_sub (by walk_at "v") de_int)) do_none) da_nil) ⟨ns, [x], y, [tupI x], rfl, g, (fun u hu => by rw [List.mem_singleton.mp hu]; exact hx), ht, hb, rfl⟩))))))))
    · exact dsxs_cons (no_way (by walk_at "v") (by decide) rfl) (dsxs_cons (no_way (by walk_at "v") (by decide) rfl) (dsxs_cons (no_way (by walk_at "v") (by decide) rfl) (dsxs_cons (no_way (by walk_at "v") (by decide) rfl) (dsxs_cons (no_way (by walk_at "v") (by decide) rfl) (dsxs_cons (no_way (by walk_at "v") (by decide) rfl) (dsxs_head (dsx_ret (dex_meth (by walk_at "v") rfl T.T.cl T.eTot (ok_totalX T.ms T.N T.FTot) hr T.bTot (da_cons (de_slL (l := some (7 - 6)) (u := none) (xs := [tupI x, y, tupI x]) (de_lst (da_cons (by walk_at "v") (da_cons (by walk_at "v") (da_cons (by walk_at "v") da_nil))) (by show 3 ≤ sizeLine; decide)) (do_some (de_sub (by walk_at "v") de_int)) do_none) da_nil) ⟨ns, [], y, [tupI x], rfl, g, (fun u hu => nomatch hu), ht, hb, rfl⟩))))))))
/-! ### _law_refused -/
abbrev RN : List Str := ["_law_group", "_law_way", "_law_x", "_law_thing", "_law_kinds", "e"]
theorem scRef : FnScope RN AN (defScope sRefused) := ⟨rfl, rfl, rfl, by decide +kernel, rfl, by decide +kernel, by decide +kernel⟩
def pRef (C : Addr) (ds : List D) (d : D) : Prop := ∃ ns way x y, ds = [grp C ns, .int way, tupI x, y] ∧ Good ns ∧ Way way ∧ El ns x ∧ ThE y ∧ d = .bl (!hasG ns y)
def fourB : List D := [.bl true, .bl true, .bl false, .bl false]
theorem ok_ref {t : Ad} (T : Txt K mg t) : FnOk P w K mg base CX0 6 t.fRef t.dRef AN (spD K (pRef t.C)) := by
  refine fn_D T.FRef scRef (fun ds d ⟨ns, way, x, y, e, _⟩ => by rw [e]; rfl) fun cdv A outer s H E ds d hr ⟨ns, way, x, y, e1, g, hw, hx, ht, e2⟩ => ⟨.rt d, rfl, ?_⟩
  subst e1
  refine dss_cons (ds_set (i := 4) scRef.nd rfl (Or.inl rfl) (de_lst da_nil (by decide))) ?_
  by_cases hb : hasG ns y = true
  · obtain ⟨ks, rfl, hk⟩ := hasG_el hb
    refine dss_cons (ds_tryOk (dss_cons (ds_expr (de_call (FnOk.okD (ok_asked T)) hr rfl T.mAsk T.FAsk.kp T.bAsk (da_cons (by walk_at "v") (da_cons (by walk_at "v") (da_cons (by walk_at "v") (da_cons (by walk_at "v") da_nil)))) ⟨ns, way, x, tupI ks, rfl, g, hw, hx, ht, .inl ⟨ks, rfl, hk, rfl⟩⟩)) dss_nil)) ?_
    refine dss_end (ds_ret (DE.to (de_eqD (da := .lst []) (db := .lst fourB) (Room.units hr) rfl rfl (by decide) (by walk_at "v") (de_lst (da_cons de_bl (da_cons de_bl (da_cons de_bl (da_cons de_bl da_nil)))) (by decide))) ?_)) trivial
    rw [e2, hb]; rfl
  · have hb := Bool.eq_false_iff.mpr hb
    refine dss_cons (ds_tryAs (i := 5) (C := t.CL) (fs := []) (o := .nx [.val (grp t.C ns), .val (.int way), .val (tupI x), .val y, .val (.lst fourB), .val (.exc t.CL [])]) rfl rfl (dsxs_head (dsx_expr (dex_call (ok_asked T) hr rfl T.mAsk T.FAsk.kp T.bAsk (da_cons (by walk_at "v") (da_cons (by walk_at "v") (da_cons (by walk_at "v") (da_cons (by walk_at "v") da_nil)))) ⟨ns, way, x, y, rfl, g, hw, hx, ht, .inr ⟨hb, rfl⟩⟩))) rfl T.mE T.eE T.hm scRef.nd rfl rfl fun a => ?_) ?_
    · refine dss_cons (ds_set (i := 4) scRef.nd rfl (Or.inl rfl) (de_lst (ds := fourB) (da_cons ?_ (da_cons ?_ (da_cons ?_ (da_cons ?_ da_nil)))) (by decide))) dss_nil
      · exact de_isi rfl T.B.isinstance (.exc [] T.N.is) (.cl t.CL) T.k1 (da_cons (by walk_at "v") (da_cons (de_cl rfl T.N.gl) da_nil))
      · exact de_isi rfl T.B.isinstance (.exc [] T.N.is) (.ty "ValueError") T.k2 (da_cons (by walk_at "v") (da_cons (de_ty rfl T.mVe (by first | rfl | decide +kernel)) da_nil))
      · exact de_isi rfl T.B.isinstance (.exc [] T.N.is) (.cl t.CN) T.k3 (da_cons (by walk_at "v") (da_cons (de_cl rfl T.mN) da_nil))
      · exact de_isi rfl T.B.isinstance (.exc [] T.N.is) (.cl t.CT) T.k4 (da_cons (by walk_at "v") (da_cons (de_cl rfl T.mT) da_nil))
    · refine dss_end (ds_ret (DE.to (de_eqD (da := .lst fourB) (db := .lst fourB) (Room.units hr) rfl rfl (by decide) (by walk_at "v") (de_lst (da_cons de_bl (da_cons de_bl (da_cons de_bl (da_cons de_bl da_nil)))) (by decide))) (by rw [eqD_self (d := .lst fourB) rfl, e2, hb]; rfl))) trivial
/-! ### the law -/
theorem c_cell {t : Ad} {X : Cx} {ρ : Rho} (T : Txt X.K X.mg t) {e1 e2 : Expr} {p q : Pos} {ns : List Int} {k : Int} (hr : Room 1 X.A) (hg : Gl X "_law_cell") (h1 : DE X ρ e1 (.lst (intsD ns))) (h2 : DE X ρ e2 (.int k)) (n1 : noStar e1 = true := by rfl) (n2 : noStar e2 = true := by rfl) (hpl : (backTo q (starEach [e2] X.env)).any (·.1) = false := by rfl) :
    DE X ρ (.Call (.Name "_law_cell" p) [e1, e2] [] q) (.int (cell ns k)) :=
  de_call (ok_cell T.FCell T.B) hr hg T.mCell T.FCell.kp T.bCell (da_c h1 (da_c h2 da_nil n2) n1) ⟨ns, k, rfl, rfl⟩ (by decide) (se_of n1) hpl
abbrev LN : List Str := ["_law_script", "_law_rounds_here", "_law_group", "_law_k", "_law_x", "_law_thing", "_law_due_here", "_law_found", "_law_way"]
theorem scLaw : FnScope LN ["_law_script"] (defScope sLaw) := ⟨rfl, rfl, rfl, by decide +kernel, rfl, by decide +kernel, by decide +kernel⟩
def pLaw (ds : List D) (d : D) : Prop := ∃ ns : List Int, ds = [.lst (intsD ns)] ∧ ns.length ≤ 63 ∧ d = .bl true
theorem ways (k : Int) (h : k ∈ kNats 8) : Way k := by
  obtain ⟨j, hj, rfl⟩ := List.mem_map.mp h
  have := List.mem_range.mp hj
  unfold Way
  have : j < 8 := this
  omega
theorem ok_law {t : Ad} (T : Txt K mg t) {f : Addr} {fd : FuncData} (F : Fun K "law" "law" sLaw f fd) : FnOk P w K mg base CX0 7 f fd ["_law_script"] (spD K pLaw) := by
  refine fn_D F scLaw (fun ds d ⟨ns, e, _⟩ => by rw [e]; rfl) fun cdv A outer s H E ds d hr ⟨ns, e1, h63, e2⟩ => ⟨.rt d, rfl, ?_⟩
  subst e1 e2
  have nd := scLaw.nd
  have g : Good (many 144 (cell ns 0) 144) := many_good (by decide) (by decide) (by decide)
  refine dss_cons (ds_set (i := 1) (d := tupI (many 144 (cell ns 0) 144)) nd rfl (Or.inl rfl) (de_call (ok_rounds T.FRd T.B T.mMin) (hr.mono (by decide)) rfl T.mRd T.FRd.kp T.bRd (da_cons (c_cell T (hr.mono (by decide)) (by rfl) (by walk_at "v") de_int) (da_cons de_int (da_cons de_int da_nil))) ⟨_, _, _, rfl, by decide, by decide, by decide, rfl⟩)) ?_
  generalize many 144 (cell ns 0) 144 = r at g ⊢
  have h7 := g.len
  refine dss_cons (ds_set (i := 2) (d := grp t.C r) nd rfl (Or.inl rfl) (de_make T.M (ok_init T.FI T.B T.G T.T T.mA T.FA T.bA T.ms.FW T.ms.bW T.FP T.bP) (hr.mono (by decide)) rfl T.mC T.bI (da_cons (by walk_at "v") da_nil) ⟨_, r, rfl, Sq.t, g, rfl⟩)) ?_
  refine dss_cons (ds_forW PassesOwn.never rfl (g := D.int) (fun _ => [.val (.lst (intsD ns)), .val (tupI r), .val (grp t.C r), .any, .any, .any, .any, .any, .any]) (kFrom 1 6) (di_range2 rfl T.B.range (da_cons de_int (da_cons de_int da_nil)) ⟨by decide, by decide, by decide, by decide⟩) (.same (.same (.same (.any (.any (.any (.any (.any (.any .nil))))))))) fun done k rest e => ?_) ?_
  · refine ⟨_, _, [.val (.lst (intsD ns)), .val (tupI r), .val (grp t.C r), .val (.int k), .any, .any, .any, .any, .any], dg_name (k := 3) nd rfl (Or.inl rfl), tg_set, ?_, .same (.same (.same (.any (.same (.same (.same (.same (.same .nil))))))))⟩
    have hx : El r (elI r (cell ns (2 * k))) := elI_el g.g2
    refine dss_cons (ds_set (i := 4) nd rfl (Or.inl rfl) (de_call (ok_element T.FEl T.B) (hr.mono (by decide)) rfl T.mEl T.FEl.kp T.bEl (da_c (by walk_at "v") (da_c (c_cell T (hr.mono (by decide)) (by rfl) (by walk_at "v") (de_mul (cmL (by decide) (by decide)) de_int (by walk_at "v"))) da_nil)) ⟨r, _, rfl, g, rfl⟩)) ?_
    generalize elI r (cell ns (2 * k)) = x at hx ⊢
    have hxl := hx.len
    have ht : ThE (spoilt r x (cell ns (2 * k + 1))) := spoilt_the (by omega)
    refine dss_cons (ds_set (i := 5) nd rfl (Or.inl rfl) (de_call (ok_spoilt T.FSp T.B T.mMax) (hr.mono (by decide)) rfl T.mSp T.FSp.kp T.bSp (da_c (by walk_at "v") (da_c (by walk_at "v") (da_c (c_cell T (hr.mono (by decide)) (by rfl) (by walk_at "v") (de_add (de_mul (cmL (by decide) (by decide)) de_int (by walk_at "v")) de_int)) da_nil))) ⟨r, x, _, rfl, h7, hxl, rfl⟩)) ?_
    generalize spoilt r x (cell ns (2 * k + 1)) = y at ht ⊢
    refine dss_cons (ds_set (i := 6) (d := .bl (hasG r y)) nd rfl (Or.inl rfl) (de_call (ok_due T.FDue T.B T.mWh T.FWh T.bWh) (hr.mono (by decide)) rfl T.mDue T.FDue.kp T.bDue (da_c (by walk_at "v") (da_c (by walk_at "v") da_nil)) ⟨r, y, rfl, g, ht, rfl⟩)) ?_
    refine dss_cons (ds_set (i := 7) (d := .bl (hasG r y)) nd rfl (Or.inl rfl) (de_meth (by walk_at "v") rfl T.T.cl T.ms.eHas (ok_hasG T.ms.FHas T.B T.T T.ms.mW T.ms.FW T.ms.bW) (hr.mono (by decide)) T.ms.bHas (da_cons (by walk_at "v") da_nil) ⟨r, y, rfl, g, ht, rfl⟩)) ?_
    refine dss_cons (ds_if (q := false) (DW.dt (dw_or (p := false) (q := false) (dt_not (p := true) (dt_val ?_)) fun _ => dw_or (p := false) (q := false) ?_ fun _ => dw_or1 ?_)) (fun z => nomatch z) fun _ => dss_nil) ?_
    · exact de_isi rfl T.B.isinstance (.bl _) (.ty "bool") rfl (da_cons (by walk_at "v") (da_cons (de_ty rfl T.B.bool boot_bool') da_nil))
    · exact DT.to (dt_neD (da := .bl (hasG r y)) (db := .bl (hasG r y)) (Room.units hr) rfl rfl (by show min 0 0 ≤ 64; decide) (by walk_at "v") (by walk_at "v")) (by rw [eqD_self (d := .bl (hasG r y)) rfl]; rfl)
    · exact DT.to (dt_isnotB (q := hasG r (tupI x)) (r := true) (de_meth (by walk_at "v") rfl T.T.cl T.ms.eHas (ok_hasG T.ms.FHas T.B T.T T.ms.mW T.ms.FW T.ms.bW) (hr.mono (by decide)) T.ms.bHas (da_cons (by walk_at "v") da_nil) ⟨r, tupI x, rfl, g, the_el (by omega), rfl⟩) de_bl) (by rw [el_hasG hx]; rfl)
    refine dss_cons (ds_forW PassesOwn.never rfl (g := D.int) (fun _ => [.val (.lst (intsD ns)), .val (tupI r), .val (grp t.C r), .val (.int k), .val (tupI x), .val y, .val (.bl (hasG r y)), .any, .any]) (kNats 8) (di_rangeK rfl T.B.range (da_cons de_int da_nil) (by decide) (by decide)) (.same (.same (.same (.same (.same (.same (.same (.any (.any .nil))))))))) fun done2 j rest2 e2 => ?_) ?_
    · have hj := ways j (by rw [e2]; simp)
      refine ⟨_, _, _, dg_name (k := 8) nd rfl (Or.inl rfl), tg_set, dss_cons (ds_if (q := false) (DT.to (dt_eqD (da := .bl (!hasG r y)) (db := .bl (hasG r y)) (Room.units hr) rfl rfl (by show min 0 0 ≤ 64; decide) (de_call (ok_ref T) (hr.mono (by decide)) rfl T.mRef T.FRef.kp T.bRef (da_cons (by walk_at "v") (da_cons (by walk_at "v") (da_cons (by walk_at "v") (da_cons (by walk_at "v") da_nil)))) ⟨r, j, x, y, rfl, g, hj, hx, ht, rfl⟩) (by walk_at "v")) ?_) (fun z => nomatch z) fun _ => dss_nil) dss_nil, ?_⟩
      · cases hasG r y <;> rfl
      · exact .same (.same (.same (.same (.same (.same (.same (.same (.any .nil))))))))
    · exact dss_post dss_nil (.same (.same (.same (.same (.any (.any (.any (.same (.same .nil)))))))))
  · exact dss_end (ds_ret de_bl) trivial
end
end K4
set_option Elab.async false
set_option linter.all false
set_option maxRecDepth 100000
set_option maxHeartbeats 4000000
namespace K4
open PySem PySem.Spec L2 CT
open PyProof.Rows hiding St
theorem rds_ints {K : PySem.W.Frag} {H : Hp} {S : CT.Ad} : ∀ ns : List Int, RdsL K H S (ns.map .int) (ns.map V.int)
  | [] => .nil
  | n :: ns => .cons (.int n) (rds_ints ns)
theorem law_sp {K : PySem.W.Frag} {H : Hp} {a : Addr} {ns : List Int} (hl : ns.length ≤ 63) (h : SqL K H a (ns.map V.int)) : spD K pLaw [.ref a] H (fun v _ => v = .bl true) fun _ _ _ => False := by
  refine ⟨no, [.lst (intsD ns)], .bl true, fun _ z => z.elim, .cons ?_ .nil, ⟨ns, rfl, hl, rfl⟩, fun v H' _ r => r.blV⟩
  rcases h with h | h
  · exact .lst h (fun z => z) (rds_ints ns)
  · exact .lstK h (rds_ints ns)
theorem xtop_of {K : PySem.W.Frag} {C : Addr} (h : xcOk K C = true) (ty : PySem.W.typeIn K (.ref C) = some (.type "type")) : XTop K C := by
  have c := (xisi_of h).cl
  obtain ⟨cd, hc, _⟩ := PySem.W.any_some c.ov
  exact ⟨⟨cd, hc⟩, ty, c.mro (by decide)⟩
theorem all_mk {l : PySem.W.OpenLaw} {w : World} {K : PySem.W.Frag} {h : Heap} {mg : Str → Option Value} {fa C CE CN CL CT fW fP fA fI fHas fNou fSum fBO fNeed fAdd fBk fTim fOrd fTot fCell fWh fRd fEl fSp fDue fAsk fRef fLaw : Addr} {t1 t2 : Tok} (X : K.In h) (G : h.Ns mainGlobals mg) (hfa : mg "law" = some (.ref fa))
    {odW anW odP anP odA anA odI anI odHas anHas odNou anNou odSum anSum odBO anBO odNeed anNeed odAdd anAdd odBk anBk odTim anTim odOrd anOrd odTot anTot odCell anCell odWh anWh odRd anRd odEl anEl odSp anSp odDue anDue odAsk anAsk odRef anRef odLaw anLaw : Option Addr} {slW slP slA slI slHas slNou slSum slBO slNeed slAdd slBk slTim slOrd slTot slCell slWh slRd slEl slSp slDue slAsk slRef slLaw : Array (Option Value)} {ocW kVW dcW pmW cdW ctW ocP kVP dcP pmP cdP ctP ocA kVA dcA pmA cdA ctA ocI kVI dcI pmI cdI ctI ocHas kVHas dcHas pmHas cdHas ctHas ocNou kVNou dcNou pmNou cdNou ctNou ocSum kVSum dcSum pmSum cdSum ctSum ocBO kVBO dcBO pmBO cdBO ctBO ocNeed kVNeed dcNeed pmNeed cdNeed ctNeed ocAdd kVAdd dcAdd pmAdd cdAdd ctAdd ocBk kVBk dcBk pmBk cdBk ctBk ocTim kVTim dcTim pmTim cdTim ctTim ocOrd kVOrd dcOrd pmOrd cdOrd ctOrd ocTot kVTot dcTot pmTot cdTot ctTot ocCell kVCell dcCell pmCell cdCell ctCell ocWh kVWh dcWh pmWh cdWh ctWh ocRd kVRd dcRd pmRd cdRd ctRd ocEl kVEl dcEl pmEl cdEl ctEl ocSp kVSp dcSp pmSp cdSp ctSp ocDue kVDue dcDue pmDue cdDue ctDue ocAsk kVAsk dcAsk pmAsk cdAsk ctAsk ocRef kVRef dcRef pmRef cdRef ctRef ocLaw kVLaw dcLaw pmLaw cdLaw ctLaw : Value}
    (aC : PySem.W.nsIn K mainGlobals "Rounds" = some (some (.ref C)))
    (aCE : PySem.W.nsIn K mainGlobals "CarryError" = some (some (.ref CE)))
    (aCN : PySem.W.nsIn K mainGlobals "NoRounds" = some (some (.ref CN)))
    (aCL : PySem.W.nsIn K mainGlobals "NoElement" = some (some (.ref CL)))
    (aCT : PySem.W.nsIn K mainGlobals "NoText" = some (some (.ref CT)))
    (a_W : PySem.W.nsIn K mainGlobals "is_whole" = some (some (.ref fW)))
    (l_W : K.lookup fW = some ⟨ocW, odW, .func (PySem.W.fnOf "is_whole" "is_whole" (defArgs sIsWhole) (defBody sIsWhole) (defScope sIsWhole) .none kVW dcW pmW anW cdW ctW), slW⟩)
    (c_W : PySem.W.codeIn K cdW "is_whole" = true)
    (k_W : PySem.W.keepIn K (.ref fW) = true)
    (a_P : PySem.W.nsIn K mainGlobals "product" = some (some (.ref fP)))
    (l_P : K.lookup fP = some ⟨ocP, odP, .func (PySem.W.fnOf "product" "product" (defArgs sProduct) (defBody sProduct) (defScope sProduct) .none kVP dcP pmP anP cdP ctP), slP⟩)
    (c_P : PySem.W.codeIn K cdP "product" = true)
    (k_P : PySem.W.keepIn K (.ref fP) = true)
    (a_A : PySem.W.nsIn K mainGlobals "are_rounds" = some (some (.ref fA)))
    (l_A : K.lookup fA = some ⟨ocA, odA, .func (PySem.W.fnOf "are_rounds" "are_rounds" (defArgs sAre) (defBody sAre) (defScope sAre) .none kVA dcA pmA anA cdA ctA), slA⟩)
    (c_A : PySem.W.codeIn K cdA "are_rounds" = true)
    (k_A : PySem.W.keepIn K (.ref fA) = true)
    (a_I : PySem.W.findIn K (.ref C) "__init__" = some (some (.ref fI)))
    (i_I : PySem.W.isFn K (.ref fI) = true)
    (l_I : K.lookup fI = some ⟨ocI, odI, .func (PySem.W.fnOf "__init__" "Rounds.__init__" (defArgs sInit) (defBody sInit) (defScope sInit) .none kVI dcI pmI anI cdI ctI), slI⟩)
    (c_I : PySem.W.codeIn K cdI "Rounds.__init__" = true)
    (k_I : PySem.W.keepIn K (.ref fI) = true)
    (a_Has : PySem.W.findIn K (.ref C) "has" = some (some (.ref fHas)))
    (i_Has : PySem.W.isFn K (.ref fHas) = true)
    (l_Has : K.lookup fHas = some ⟨ocHas, odHas, .func (PySem.W.fnOf "has" "Rounds.has" (defArgs sHas) (defBody sHas) (defScope sHas) .none kVHas dcHas pmHas anHas cdHas ctHas), slHas⟩)
    (c_Has : PySem.W.codeIn K cdHas "Rounds.has" = true)
    (k_Has : PySem.W.keepIn K (.ref fHas) = true)
    (a_Nou : PySem.W.findIn K (.ref C) "nought" = some (some (.ref fNou)))
    (i_Nou : PySem.W.isFn K (.ref fNou) = true)
    (l_Nou : K.lookup fNou = some ⟨ocNou, odNou, .func (PySem.W.fnOf "nought" "Rounds.nought" (defArgs sNought) (defBody sNought) (defScope sNought) .none kVNou dcNou pmNou anNou cdNou ctNou), slNou⟩)
    (c_Nou : PySem.W.codeIn K cdNou "Rounds.nought" = true)
    (k_Nou : PySem.W.keepIn K (.ref fNou) = true)
    (a_Sum : PySem.W.findIn K (.ref C) "sum_of" = some (some (.ref fSum)))
    (i_Sum : PySem.W.isFn K (.ref fSum) = true)
    (l_Sum : K.lookup fSum = some ⟨ocSum, odSum, .func (PySem.W.fnOf "sum_of" "Rounds.sum_of" (defArgs sSum) (defBody sSum) (defScope sSum) .none kVSum dcSum pmSum anSum cdSum ctSum), slSum⟩)
    (c_Sum : PySem.W.codeIn K cdSum "Rounds.sum_of" = true)
    (k_Sum : PySem.W.keepIn K (.ref fSum) = true)
    (a_BO : PySem.W.findIn K (.ref C) "back_of" = some (some (.ref fBO)))
    (i_BO : PySem.W.isFn K (.ref fBO) = true)
    (l_BO : K.lookup fBO = some ⟨ocBO, odBO, .func (PySem.W.fnOf "back_of" "Rounds.back_of" (defArgs sBackOf) (defBody sBackOf) (defScope sBackOf) .none kVBO dcBO pmBO anBO cdBO ctBO), slBO⟩)
    (c_BO : PySem.W.codeIn K cdBO "Rounds.back_of" = true)
    (k_BO : PySem.W.keepIn K (.ref fBO) = true)
    (a_Need : PySem.W.findIn K (.ref C) "need" = some (some (.ref fNeed)))
    (i_Need : PySem.W.isFn K (.ref fNeed) = true)
    (l_Need : K.lookup fNeed = some ⟨ocNeed, odNeed, .func (PySem.W.fnOf "need" "Group.need" (defArgs sNeed) (defBody sNeed) (defScope sNeed) .none kVNeed dcNeed pmNeed anNeed cdNeed ctNeed), slNeed⟩)
    (c_Need : PySem.W.codeIn K cdNeed "Group.need" = true)
    (k_Need : PySem.W.keepIn K (.ref fNeed) = true)
    (a_Add : PySem.W.findIn K (.ref C) "added" = some (some (.ref fAdd)))
    (i_Add : PySem.W.isFn K (.ref fAdd) = true)
    (l_Add : K.lookup fAdd = some ⟨ocAdd, odAdd, .func (PySem.W.fnOf "added" "Group.added" (defArgs sAdded) (defBody sAdded) (defScope sAdded) .none kVAdd dcAdd pmAdd anAdd cdAdd ctAdd), slAdd⟩)
    (c_Add : PySem.W.codeIn K cdAdd "Group.added" = true)
    (k_Add : PySem.W.keepIn K (.ref fAdd) = true)
    (a_Bk : PySem.W.findIn K (.ref C) "back" = some (some (.ref fBk)))
    (i_Bk : PySem.W.isFn K (.ref fBk) = true)
    (l_Bk : K.lookup fBk = some ⟨ocBk, odBk, .func (PySem.W.fnOf "back" "Group.back" (defArgs sBack) (defBody sBack) (defScope sBack) .none kVBk dcBk pmBk anBk cdBk ctBk), slBk⟩)
    (c_Bk : PySem.W.codeIn K cdBk "Group.back" = true)
    (k_Bk : PySem.W.keepIn K (.ref fBk) = true)
    (a_Tim : PySem.W.findIn K (.ref C) "times" = some (some (.ref fTim)))
    (i_Tim : PySem.W.isFn K (.ref fTim) = true)
    (l_Tim : K.lookup fTim = some ⟨ocTim, odTim, .func (PySem.W.fnOf "times" "Group.times" (defArgs sTimes) (defBody sTimes) (defScope sTimes) .none kVTim dcTim pmTim anTim cdTim ctTim), slTim⟩)
    (c_Tim : PySem.W.codeIn K cdTim "Group.times" = true)
    (k_Tim : PySem.W.keepIn K (.ref fTim) = true)
    (a_Ord : PySem.W.findIn K (.ref C) "order" = some (some (.ref fOrd)))
    (i_Ord : PySem.W.isFn K (.ref fOrd) = true)
    (l_Ord : K.lookup fOrd = some ⟨ocOrd, odOrd, .func (PySem.W.fnOf "order" "Group.order" (defArgs sOrder) (defBody sOrder) (defScope sOrder) .none kVOrd dcOrd pmOrd anOrd cdOrd ctOrd), slOrd⟩)
    (c_Ord : PySem.W.codeIn K cdOrd "Group.order" = true)
    (k_Ord : PySem.W.keepIn K (.ref fOrd) = true)
    (a_Tot : PySem.W.findIn K (.ref C) "total" = some (some (.ref fTot)))
    (i_Tot : PySem.W.isFn K (.ref fTot) = true)
    (l_Tot : K.lookup fTot = some ⟨ocTot, odTot, .func (PySem.W.fnOf "total" "Group.total" (defArgs sTotal) (defBody sTotal) (defScope sTotal) .none kVTot dcTot pmTot anTot cdTot ctTot), slTot⟩)
    (c_Tot : PySem.W.codeIn K cdTot "Group.total" = true)
    (k_Tot : PySem.W.keepIn K (.ref fTot) = true)
    (a_Cell : PySem.W.nsIn K mainGlobals "_law_cell" = some (some (.ref fCell)))
    (l_Cell : K.lookup fCell = some ⟨ocCell, odCell, .func (PySem.W.fnOf "_law_cell" "_law_cell" (defArgs sCell) (defBody sCell) (defScope sCell) .none kVCell dcCell pmCell anCell cdCell ctCell), slCell⟩)
    (c_Cell : PySem.W.codeIn K cdCell "_law_cell" = true)
    (k_Cell : PySem.W.keepIn K (.ref fCell) = true)
    (a_Wh : PySem.W.nsIn K mainGlobals "_law_whole" = some (some (.ref fWh)))
    (l_Wh : K.lookup fWh = some ⟨ocWh, odWh, .func (PySem.W.fnOf "_law_whole" "_law_whole" (defArgs sWhole) (defBody sWhole) (defScope sWhole) .none kVWh dcWh pmWh anWh cdWh ctWh), slWh⟩)
    (c_Wh : PySem.W.codeIn K cdWh "_law_whole" = true)
    (k_Wh : PySem.W.keepIn K (.ref fWh) = true)
    (a_Rd : PySem.W.nsIn K mainGlobals "_law_rounds" = some (some (.ref fRd)))
    (l_Rd : K.lookup fRd = some ⟨ocRd, odRd, .func (PySem.W.fnOf "_law_rounds" "_law_rounds" (defArgs sRounds) (defBody sRounds) (defScope sRounds) .none kVRd dcRd pmRd anRd cdRd ctRd), slRd⟩)
    (c_Rd : PySem.W.codeIn K cdRd "_law_rounds" = true)
    (k_Rd : PySem.W.keepIn K (.ref fRd) = true)
    (a_El : PySem.W.nsIn K mainGlobals "_law_element" = some (some (.ref fEl)))
    (l_El : K.lookup fEl = some ⟨ocEl, odEl, .func (PySem.W.fnOf "_law_element" "_law_element" (defArgs sElement) (defBody sElement) (defScope sElement) .none kVEl dcEl pmEl anEl cdEl ctEl), slEl⟩)
    (c_El : PySem.W.codeIn K cdEl "_law_element" = true)
    (k_El : PySem.W.keepIn K (.ref fEl) = true)
    (a_Sp : PySem.W.nsIn K mainGlobals "_law_spoilt" = some (some (.ref fSp)))
    (l_Sp : K.lookup fSp = some ⟨ocSp, odSp, .func (PySem.W.fnOf "_law_spoilt" "_law_spoilt" (defArgs sSpoilt) (defBody sSpoilt) (defScope sSpoilt) .none kVSp dcSp pmSp anSp cdSp ctSp), slSp⟩)
    (c_Sp : PySem.W.codeIn K cdSp "_law_spoilt" = true)
    (k_Sp : PySem.W.keepIn K (.ref fSp) = true)
    (a_Due : PySem.W.nsIn K mainGlobals "_law_due" = some (some (.ref fDue)))
    (l_Due : K.lookup fDue = some ⟨ocDue, odDue, .func (PySem.W.fnOf "_law_due" "_law_due" (defArgs sDue) (defBody sDue) (defScope sDue) .none kVDue dcDue pmDue anDue cdDue ctDue), slDue⟩)
    (c_Due : PySem.W.codeIn K cdDue "_law_due" = true)
    (k_Due : PySem.W.keepIn K (.ref fDue) = true)
    (a_Ask : PySem.W.nsIn K mainGlobals "_law_asked" = some (some (.ref fAsk)))
    (l_Ask : K.lookup fAsk = some ⟨ocAsk, odAsk, .func (PySem.W.fnOf "_law_asked" "_law_asked" (defArgs sAsked) (defBody sAsked) (defScope sAsked) .none kVAsk dcAsk pmAsk anAsk cdAsk ctAsk), slAsk⟩)
    (c_Ask : PySem.W.codeIn K cdAsk "_law_asked" = true)
    (k_Ask : PySem.W.keepIn K (.ref fAsk) = true)
    (a_Ref : PySem.W.nsIn K mainGlobals "_law_refused" = some (some (.ref fRef)))
    (l_Ref : K.lookup fRef = some ⟨ocRef, odRef, .func (PySem.W.fnOf "_law_refused" "_law_refused" (defArgs sRefused) (defBody sRefused) (defScope sRefused) .none kVRef dcRef pmRef anRef cdRef ctRef), slRef⟩)
    (c_Ref : PySem.W.codeIn K cdRef "_law_refused" = true)
    (k_Ref : PySem.W.keepIn K (.ref fRef) = true)
    (a_Law : PySem.W.nsIn K mainGlobals "law" = some (some (.ref fLaw)))
    (l_Law : K.lookup fLaw = some ⟨ocLaw, odLaw, .func (PySem.W.fnOf "law" "law" (defArgs sLaw) (defBody sLaw) (defScope sLaw) .none kVLaw dcLaw pmLaw anLaw cdLaw ctLaw), slLaw⟩)
    (c_Law : PySem.W.codeIn K cdLaw "law" = true)
    (k_Law : PySem.W.keepIn K (.ref fLaw) = true)
    (pg : PySem.W.plainGet K C Str.empty = true)
    (hd : PySem.W.hasDictIn K C = true)
    (po : PySem.W.plainOver K C = true)
    (sa : PySem.W.findIn K (.ref C) "__setattr__" = some (some (.builtin "object.__setattr__")))
    (mk : PySem.W.makesIn K C = true)
    (kc : PySem.W.keepIn K (.ref C) = true)
    (nR : PySem.W.findIn K (.ref C) "rounds" = some none)
    (v1 : PySem.W.nsIn K mainGlobals "LEAST_ROUND" = some (some (.int 2 t1)))
    (v2 : PySem.W.nsIn K mainGlobals "MOST_MEMBERS" = some (some (.int 144 t2)))
    (xN0 : PySem.W.excIn K CL bmV "ValueError.__new__" = true)
    (xNk : PySem.W.keepIn K (.ref CL) = true)
    (xN : xcOk K CL = true)
    (xNt : PySem.W.typeIn K (.ref CL) = some (.type "type"))
    (xE : xcOk K CE = true)
    (xEt : PySem.W.typeIn K (.ref CE) = some (.type "type"))
    (xm : PySem.W.mroIn K CL (.ref CE) = some true)
    (q1 : PySem.W.kitOne K (.ref CL) (.ref CL) = some true)
    (q2 : PySem.W.kitOne K (.ref CL) (.type "ValueError") = some true)
    (q3 : PySem.W.kitOne K (.ref CL) (.ref CN) = some false)
    (q4 : PySem.W.kitOne K (.ref CL) (.ref CT) = some false)
    (zisinstance : PySem.W.nsIn K mainGlobals "isinstance" = some none)
    (zint : PySem.W.nsIn K mainGlobals "int" = some none)
    (zbool : PySem.W.nsIn K mainGlobals "bool" = some none)
    (zlist : PySem.W.nsIn K mainGlobals "list" = some none)
    (ztuple : PySem.W.nsIn K mainGlobals "tuple" = some none)
    (zall : PySem.W.nsIn K mainGlobals "all" = some none)
    (zlen : PySem.W.nsIn K mainGlobals "len" = some none)
    (zrange : PySem.W.nsIn K mainGlobals "range" = some none)
    (zzip : PySem.W.nsIn K mainGlobals "zip" = some none)
    (zsum : PySem.W.nsIn K mainGlobals "sum" = some none)
    (zmin : PySem.W.nsIn K mainGlobals "min" = some none)
    (zmax : PySem.W.nsIn K mainGlobals "max" = some none)
    (zabs : PySem.W.nsIn K mainGlobals "abs" = some none)
    (zValueError : PySem.W.nsIn K mainGlobals "ValueError" = some none) :
    ∃ fd : FuncData, (∀ (s : Shared) (v : Value), BindsTo s fd ⟨[v], []⟩ [("_law_script", v)]) ∧ ∀ base : Heap, K.In base → base.Ns mainGlobals mg → FnOk l.prog w K mg base CX0 7 fa fd ["_law_script"] (spD K pLaw) := by
  have e := hfa.symm.trans (PySem.W.mg_of X G a_Law)
  cases e
  have B : Bl mg := ⟨PySem.W.mg_none_of X G zisinstance, PySem.W.mg_none_of X G zint, PySem.W.mg_none_of X G zbool, PySem.W.mg_none_of X G zlist, PySem.W.mg_none_of X G ztuple, PySem.W.mg_none_of X G zall, PySem.W.mg_none_of X G zlen, PySem.W.mg_none_of X G zrange, PySem.W.mg_none_of X G zzip, PySem.W.mg_none_of X G zsum⟩
  have FW := fun_mk (st := sIsWhole) l_W c_W k_W
  have FP := fun_mk (st := sProduct) l_P c_P k_P
  have FA := fun_mk (st := sAre) l_A c_A k_A
  have FI := fun_mk (st := sInit) l_I c_I k_I
  have FHas := fun_mk (st := sHas) l_Has c_Has k_Has
  have FNou := fun_mk (st := sNought) l_Nou c_Nou k_Nou
  have FSum := fun_mk (st := sSum) l_Sum c_Sum k_Sum
  have FBO := fun_mk (st := sBackOf) l_BO c_BO k_BO
  have FNeed := fun_mk (st := sNeed) l_Need c_Need k_Need
  have FAdd := fun_mk (st := sAdded) l_Add c_Add k_Add
  have FBk := fun_mk (st := sBack) l_Bk c_Bk k_Bk
  have FTim := fun_mk (st := sTimes) l_Tim c_Tim k_Tim
  have FOrd := fun_mk (st := sOrder) l_Ord c_Ord k_Ord
  have FTot := fun_mk (st := sTotal) l_Tot c_Tot k_Tot
  have FCell := fun_mk (st := sCell) l_Cell c_Cell k_Cell
  have FWh := fun_mk (st := sWhole) l_Wh c_Wh k_Wh
  have FRd := fun_mk (st := sRounds) l_Rd c_Rd k_Rd
  have FEl := fun_mk (st := sElement) l_El c_El k_El
  have FSp := fun_mk (st := sSpoilt) l_Sp c_Sp k_Sp
  have FDue := fun_mk (st := sDue) l_Due c_Due k_Due
  have FAsk := fun_mk (st := sAsked) l_Ask c_Ask k_Ask
  have FRef := fun_mk (st := sRefused) l_Ref c_Ref k_Ref
  have FLaw := fun_mk (st := sLaw) l_Law c_Law k_Law
  have TC : Cl K C := ⟨⟨pg, hd, po, sa⟩, nR⟩
  have MS := (⟨B, TC, PySem.W.mg_of X G a_W, FW, FHas, FNou, FSum, FBO, FNeed, ⟨a_Has, i_Has, k_Has⟩, ⟨a_Nou, i_Nou, k_Nou⟩, ⟨a_Sum, i_Sum, k_Sum⟩, ⟨a_BO, i_BO, k_BO⟩, ⟨a_Need, i_Need, k_Need⟩⟩ : Ms K mg C fW fHas fNou fSum fBO fNeed _ _ _ _ _ _)
  have T : Txt K mg ⟨C, CE, CN, CL, CT, fW, fP, fA, fI, fHas, fNou, fSum, fBO, fNeed, fAdd, fBk, fTim, fOrd, fTot, fCell, fWh, fRd, fEl, fSp, fDue, fAsk, fRef, _, _, _, _, _, _, _, _, _, _, _, _, _, _, _, _, _, _, _, _, _, _⟩ := ⟨B, ⟨⟨t1, PySem.W.mg_of X G v1⟩, ⟨t2, PySem.W.mg_of X G v2⟩, PySem.W.mg_of X G a_W, PySem.W.mg_of X G a_P⟩, TC, ⟨xN0, xNk, PySem.W.mg_of X G aCL, xisi_of xN, xNt⟩, ⟨mk, a_I, i_I, kc⟩, PySem.W.mg_of X G aC, PySem.W.mg_of X G a_A, PySem.W.mg_of X G aCE, PySem.W.mg_of X G aCN, PySem.W.mg_of X G aCT, PySem.W.mg_none_of X G zmin, PySem.W.mg_none_of X G zmax, PySem.W.mg_none_of X G zabs, PySem.W.mg_none_of X G zValueError, xtop_of xE xEt, xm, q1, q2, q3, q4, MS, FP, (FP.binds fun _ _ _ _ _ _ us hl => match us, hl with | [_], _ => rfl), FA, (FA.binds fun _ _ _ _ _ _ us hl => match us, hl with | [_], _ => rfl), FI, (FI.binds fun _ _ _ _ _ _ us hl => match us, hl with | [_, _], _ => rfl), FAdd, ⟨a_Add, i_Add, k_Add⟩, (FAdd.binds fun _ _ _ _ _ _ us hl => match us, hl with | [_, _, _], _ => rfl), FBk, ⟨a_Bk, i_Bk, k_Bk⟩, (FBk.binds fun _ _ _ _ _ _ us hl => match us, hl with | [_, _], _ => rfl), FTim, ⟨a_Tim, i_Tim, k_Tim⟩, (FTim.binds fun _ _ _ _ _ _ us hl => match us, hl with | [_, _, _], _ => rfl), FOrd, ⟨a_Ord, i_Ord, k_Ord⟩, (FOrd.binds fun _ _ _ _ _ _ us hl => match us, hl with | [_, _], _ => rfl), FTot, ⟨a_Tot, i_Tot, k_Tot⟩, (FTot.binds fun _ _ _ _ _ _ us hl => match us, hl with | [_, _], _ => rfl), PySem.W.mg_of X G a_Cell, FCell, (FCell.binds fun _ _ _ _ _ _ us hl => match us, hl with | [_, _], _ => rfl), PySem.W.mg_of X G a_Wh, FWh, (FWh.binds fun _ _ _ _ _ _ us hl => match us, hl with | [_], _ => rfl), PySem.W.mg_of X G a_Rd, FRd, (FRd.binds fun _ _ _ _ _ _ us hl => match us, hl with | [_, _, _], _ => rfl), PySem.W.mg_of X G a_El, FEl, (FEl.binds fun _ _ _ _ _ _ us hl => match us, hl with | [_, _], _ => rfl), PySem.W.mg_of X G a_Sp, FSp, (FSp.binds fun _ _ _ _ _ _ us hl => match us, hl with | [_, _, _], _ => rfl), PySem.W.mg_of X G a_Due, FDue, (FDue.binds fun _ _ _ _ _ _ us hl => match us, hl with | [_, _], _ => rfl), PySem.W.mg_of X G a_Ask, FAsk, (FAsk.binds fun _ _ _ _ _ _ us hl => match us, hl with | [_, _, _, _], _ => rfl), PySem.W.mg_of X G a_Ref, FRef, (FRef.binds fun _ _ _ _ _ _ us hl => match us, hl with | [_, _, _, _], _ => rfl)⟩
  exact ⟨_, fun s v => .of_eq rfl, fun base _ _ => ok_law T FLaw⟩
theorem walk {l : PySem.W.OpenLaw} {q : Program} {loose : List Str} {XP : (Str → Option Value) → Heap → Prop} {YP : World → Heap → Prop} {d : DefRec} {K : Params → PySem.W.Frag} (hn : l.most = some 63) (hdf : d.params.defaults = [])
    (hY : ∀ (w : World) (h : Heap), YP w h → (K w.params).In h)
    (F : ∀ (w : World) (mg : Str → Option Value) (fa : Addr) (h : Heap), (K w.params).In h → h.Ns mainGlobals mg → mg d.name = some (.ref fa) →
      ∃ fd : FuncData, (∀ (s : Shared) (u : Value), BindsTo s fd ⟨[u], []⟩ [("_law_script", u)]) ∧ ∀ base : Heap, (K w.params).In base → base.Ns mainGlobals mg → FnOk l.prog w (K w.params) mg base CX0 7 fa fd ["_law_script"] (spD (K w.params) pLaw)) :
    PySem.W.WalkO q loose XP YP l.row.toRowW d [] (fun f vs => PySem.call f vs) :=
  L2.walk_of (n := 63) (k := 7) (x := "_law_script") (CX := fun _ => CX0) (sp := fun w => spD (K w.params) pLaw) hn (by decide) hdf ⟨rfl, by decide, by decide⟩ hY F (fun _ _ a ns hl _ hS => law_sp hl hS) fun _ _ _ _ _ z => z
end K4
open PySem PySem.W PyProof.Rows
set_option maxRecDepth 100000 in
set_option maxHeartbeats 0 in
theorem PySem.Challenge.cw_carrytower_k04_no_element_holds : PySem.Challenge.rw_carrytower_k04_no_element.Holds := by
  w_on; o_law; k_head; (case hw => w_witness2)
  k_fill
  refine K4.walk (l := PySem.Challenge.rw_carrytower_k04_no_element) rfl rfl (fun w h Y => PySem.W.kIn_of Y) ?F
  case F =>
    intro w mg fa h KX G hmg
    refine' K4.all_mk KX G hmg ?aC ?aCE ?aCN ?aCL ?aCT ?a_W ?l_W ?c_W ?k_W ?a_P ?l_P ?c_P ?k_P ?a_A ?l_A ?c_A ?k_A ?a_I ?i_I ?l_I ?c_I ?k_I ?a_Has ?i_Has ?l_Has ?c_Has ?k_Has ?a_Nou ?i_Nou ?l_Nou ?c_Nou ?k_Nou ?a_Sum ?i_Sum ?l_Sum ?c_Sum ?k_Sum ?a_BO ?i_BO ?l_BO ?c_BO ?k_BO ?a_Need ?i_Need ?l_Need ?c_Need ?k_Need ?a_Add ?i_Add ?l_Add ?c_Add ?k_Add ?a_Bk ?i_Bk ?l_Bk ?c_Bk ?k_Bk ?a_Tim ?i_Tim ?l_Tim ?c_Tim ?k_Tim ?a_Ord ?i_Ord ?l_Ord ?c_Ord ?k_Ord ?a_Tot ?i_Tot ?l_Tot ?c_Tot ?k_Tot ?a_Cell ?l_Cell ?c_Cell ?k_Cell ?a_Wh ?l_Wh ?c_Wh ?k_Wh ?a_Rd ?l_Rd ?c_Rd ?k_Rd ?a_El ?l_El ?c_El ?k_El ?a_Sp ?l_Sp ?c_Sp ?k_Sp ?a_Due ?l_Due ?c_Due ?k_Due ?a_Ask ?l_Ask ?c_Ask ?k_Ask ?a_Ref ?l_Ref ?c_Ref ?k_Ref ?a_Law ?l_Law ?c_Law ?k_Law ?pg ?hd ?po ?sa ?mk ?kc ?nR ?v1 ?v2 ?xN0 ?xNk ?xN ?xNt ?xE ?xEt ?xm ?q1 ?q2 ?q3 ?q4 ?zisinstance ?zint ?zbool ?zlist ?ztuple ?zall ?zlen ?zrange ?zzip ?zsum ?zmin ?zmax ?zabs ?zValueError
    (case aC => k_is)
    (case aCE => k_is)
    (case aCN => k_is)
    (case aCL => k_is)
    (case aCT => k_is)
    (case a_W => k_is)
    (case l_W => k_is)
    (case c_W => k_is)
    (case k_W => k_is)
    (case a_P => k_is)
    (case l_P => k_is)
    (case c_P => k_is)
    (case k_P => k_is)
    (case a_A => k_is)
    (case l_A => k_is)
    (case c_A => k_is)
    (case k_A => k_is)
    (case a_I => k_is)
    (case i_I => k_is)
    (case l_I => k_is)
    (case c_I => k_is)
    (case k_I => k_is)
    (case a_Has => k_is)
    (case i_Has => k_is)
    (case l_Has => k_is)
    (case c_Has => k_is)
    (case k_Has => k_is)
    (case a_Nou => k_is)
    (case i_Nou => k_is)
    (case l_Nou => k_is)
    (case c_Nou => k_is)
    (case k_Nou => k_is)
    (case a_Sum => k_is)
    (case i_Sum => k_is)
    (case l_Sum => k_is)
    (case c_Sum => k_is)
    (case k_Sum => k_is)
    (case a_BO => k_is)
    (case i_BO => k_is)
    (case l_BO => k_is)
    (case c_BO => k_is)
    (case k_BO => k_is)
    (case a_Need => k_is)
    (case i_Need => k_is)
    (case l_Need => k_is)
    (case c_Need => k_is)
    (case k_Need => k_is)
    (case a_Add => k_is)
    (case i_Add => k_is)
    (case l_Add => k_is)
    (case c_Add => k_is)
    (case k_Add => k_is)
    (case a_Bk => k_is)
    (case i_Bk => k_is)
    (case l_Bk => k_is)
    (case c_Bk => k_is)
    (case k_Bk => k_is)
    (case a_Tim => k_is)
    (case i_Tim => k_is)
    (case l_Tim => k_is)
    (case c_Tim => k_is)
    (case k_Tim => k_is)
    (case a_Ord => k_is)
    (case i_Ord => k_is)
    (case l_Ord => k_is)
    (case c_Ord => k_is)
    (case k_Ord => k_is)
    (case a_Tot => k_is)
    (case i_Tot => k_is)
    (case l_Tot => k_is)
    (case c_Tot => k_is)
    (case k_Tot => k_is)
    (case a_Cell => k_is)
    (case l_Cell => k_is)
    (case c_Cell => k_is)
    (case k_Cell => k_is)
    (case a_Wh => k_is)
    (case l_Wh => k_is)
    (case c_Wh => k_is)
    (case k_Wh => k_is)
    (case a_Rd => k_is)
    (case l_Rd => k_is)
    (case c_Rd => k_is)
    (case k_Rd => k_is)
    (case a_El => k_is)
    (case l_El => k_is)
    (case c_El => k_is)
    (case k_El => k_is)
    (case a_Sp => k_is)
    (case l_Sp => k_is)
    (case c_Sp => k_is)
    (case k_Sp => k_is)
    (case a_Due => k_is)
    (case l_Due => k_is)
    (case c_Due => k_is)
    (case k_Due => k_is)
    (case a_Ask => k_is)
    (case l_Ask => k_is)
    (case c_Ask => k_is)
    (case k_Ask => k_is)
    (case a_Ref => k_is)
    (case l_Ref => k_is)
    (case c_Ref => k_is)
    (case k_Ref => k_is)
    (case a_Law => k_is)
    (case l_Law => k_is)
    (case c_Law => k_is)
    (case k_Law => k_is)
    (case pg => k_is)
    (case hd => k_is)
    (case po => k_is)
    (case sa => k_is)
    (case mk => k_is)
    (case kc => k_is)
    (case nR => k_is)
    (case v1 => k_is)
    (case v2 => k_is)
    (case xN0 => kernel_rfl)
    (case xNk => kernel_rfl)
    (case xN => kernel_rfl)
    (case xNt => kernel_rfl)
    (case xE => kernel_rfl)
    (case xEt => kernel_rfl)
    (case xm => kernel_rfl)
    (case q1 => kernel_rfl)
    (case q2 => kernel_rfl)
    (case q3 => kernel_rfl)
    (case q4 => kernel_rfl)
    (case zisinstance => k_is)
    (case zint => k_is)
    (case zbool => k_is)
    (case zlist => k_is)
    (case ztuple => k_is)
    (case zall => k_is)
    (case zlen => k_is)
    (case zrange => k_is)
    (case zzip => k_is)
    (case zsum => k_is)
    (case zmin => k_is)
    (case zmax => k_is)
    (case zabs => k_is)
    (case zValueError => k_is)

