import PyProof.Rows.All
import Wide.All
import OpenK.AllK
import Wide.FinOn
import Lean
import PyProof.EqAt
import PyProof.EqKinds
import PyProof.TupleCall
import PyProof.CompUse
import PyProof.Cells
import PyProof.ZipIter
import PyProof.TupleIter
import PyProof.ListMulRoad
import PyProof.AutoListH
import PyProof.FactsAll.tuple_2
import PyProof.CompFree
import PyProof.PlainList
import KE.KIsAll
import OpenK.KOwn
import PyProof.ExcInit
import PyProof.ExcArgsOwn
import PyProof.ExcAttrAll.ValueError
import PyProof.NeData
import PyProof.Rows.SumAny
import PyProof.EnumMake
import PyProof.EnumFor
import PyProof.EnumStmt
import PyProof.Rows.SeqMore
import PySem.Challenge.RW_carrytower_k07_refusals_made
set_option Elab.async false
set_option linter.all false
set_option maxRecDepth 100000
/-! THE HAND LAYER, for ints, bools, texts, own classes, LISTS and tuples (index, slices, in, append, pop ..), calls, loops. Paste it whole ahead of your own text; what your proof does not reach may be deleted. -/
namespace L2
open PySem PySem.Spec PyProof.Rows

/-- a key: an int or a str -/
abbrev Key := Sum Int Str
def keyIs : Key → Value → Bool
  | .inl k, v => Value.isInt k v
  | .inr x, v => Value.isStrOf x v
def keyH (w : World) : Key → Int
  | .inl k => hashInt k
  | .inr x => hashStr w x
theorem keyIs_shape : ∀ {k : Key} {v : Value}, keyIs k v = true → (∃ i t, k = Sum.inl i ∧ v = Value.int i t) ∨ (∃ x t, k = Sum.inr x ∧ v = Value.str x t)
  | .inl i, v, h => by
    obtain ⟨t, e⟩ := Value.isInt_shape (k := i) (v := v) h
    exact .inl ⟨i, t, rfl, e⟩
  | .inr x, v, h => by
    obtain ⟨t, e⟩ := Value.isStrOf_shape (x := x) (v := v) h
    exact .inr ⟨x, t, rfl, e⟩
theorem keyIs_int (i : Int) (t : Tok) : keyIs (.inl i) (.int i t) = true := by simp [keyIs, Value.isInt]
theorem keyIs_str (x : Str) (t : Tok) : keyIs (.inr x) (.str x t) = true := by simp [keyIs, Value.isStrOf]
theorem key_ll (a b : Int) : decide ((Sum.inl a : Key) = Sum.inl b) = (a == b) := by
  by_cases e : a = b
  · subst e; simp
  · have h : ¬ (Sum.inl a : Key) = Sum.inl b := fun q => e (Sum.inl.inj q)
    rw [decide_eq_false h]
    exact (beq_eq_false_iff_ne.mpr e).symm
theorem key_rr (a b : Str) : decide ((Sum.inr a : Key) = Sum.inr b) = decide (a = b) := by
  by_cases e : a = b
  · subst e; simp
  · have h : ¬ (Sum.inr a : Key) = Sum.inr b := fun q => e (Sum.inr.inj q)
    rw [decide_eq_false h, decide_eq_false e]
theorem key_lr (a : Int) (b : Str) : decide ((Sum.inl a : Key) = Sum.inr b) = false := decide_eq_false (fun q => nomatch q)
theorem key_rl (a : Str) (b : Int) : decide ((Sum.inr a : Key) = Sum.inl b) = false := decide_eq_false (fun q => nomatch q)

def mixKind (prog : Program) (w : World) : PySem.KeyKind prog w Key where
  is := keyIs
  hash := keyH w
  inj := fun v a b ha hb => by
    rcases keyIs_shape ha with ⟨i, t, rfl, rfl⟩ | ⟨x, t, rfl, rfl⟩
    · rcases keyIs_shape hb with ⟨j, u, rfl, e⟩ | ⟨y, u, rfl, e⟩
      · injection e with e1 _; rw [e1]
      · exact nomatch e
    · rcases keyIs_shape hb with ⟨j, u, rfl, e⟩ | ⟨y, u, rfl, e⟩
      · exact nomatch e
      · injection e with e1 _; rw [e1]
  byValue := fun k v h => by
    rcases keyIs_shape h with ⟨i, t, rfl, rfl⟩ | ⟨x, t, rfl, rfl⟩ <;> rfl
  pyHash := fun hv h => by
    rcases keyIs_shape hv with ⟨i, t, rfl, rfl⟩ | ⟨x, t, rfl, rfl⟩
    · exact wpAny_pyHash_int h
    · exact wpAny_pyHash_str h
  eqBool := fun hu hv h => by
    rcases keyIs_shape hu with ⟨i, t, rfl, rfl⟩ | ⟨x, t, rfl, rfl⟩
    · rcases keyIs_shape hv with ⟨j, u, rfl, rfl⟩ | ⟨y, u, rfl, rfl⟩
      · rw [key_ll] at h; exact wpAny_eqBool_int h
      · rw [key_lr] at h; exact SeqAt.EqAt.int_str i t y u _ _ _ _ h
    · rcases keyIs_shape hv with ⟨j, u, rfl, rfl⟩ | ⟨y, u, rfl, rfl⟩
      · rw [key_rl] at h; exact SeqAt.EqAt.str_int x t j u _ _ _ _ h
      · rw [key_rr] at h; exact wpAny_eqBool_str h
  «strs» := fun k x t v h => by
    rcases keyIs_shape h with ⟨i, u, rfl, e⟩ | ⟨y, u, rfl, e⟩
    · exact nomatch e
    · injection e with e1 _
      subst e1
      cases v <;> rfl

theorem mixKind_is (prog : Program) (w : World) (k : Key) (v : Value) : (mixKind prog w).is k v = keyIs k v := rfl
theorem mixKind_int (prog : Program) (w : World) (i : Int) (t : Tok) : (mixKind prog w).is (.inl i) (.int i t) = true := keyIs_int i t
theorem mixKind_str (prog : Program) (w : World) (x : Str) (t : Tok) : (mixKind prog w).is (.inr x) (.str x t) = true := keyIs_str x t
end L2

namespace L2
open PySem PySem.Spec PyProof.Rows

/-- a value, without the heap -/
inductive V where
  | non | bl (b : Bool) | int (i : Int) | str (x : Str) | byt (b : Array UInt8) | flt (b : UInt64) | ref (a : Addr) | ty (n : String)
  deriving DecidableEq

def RelV : V → Value → Prop
  | .non, u => u = Value.none
  | .bl b, u => u = Value.bool b
  | .int i, u => ∃ t, u = Value.int i t
  | .str x, u => ∃ t, u = Value.str x t
  | .byt b, u => ∃ t, u = Value.bytes b t
  | .flt b, u => ∃ t, u = Value.float b t
  | .ref a, u => u = Value.ref a
  | .ty n, u => u = Value.type n

abbrev Vals : List V → List Value → Prop := Paired RelV
theorem Vals.length {xs : List V} {us : List Value} (r : Vals xs us) : xs.length = us.length := Paired.length r
theorem Vals.get : ∀ {xs : List V} {us : List Value} {i : Nat} {x : V}, Vals xs us → xs[i]? = some x → ∃ u, us[i]? = some u ∧ RelV x u
  | _, _, _, _, .nil, e => by simp at e
  | _, _, 0, _, .cons r _, e => by simp at e; subst e; exact ⟨_, rfl, r⟩
  | _, _, i + 1, x, .cons _ t, e => by
    obtain ⟨u, h1, h2⟩ := Vals.get (i := i) (x := x) t (by simpa using e)
    exact ⟨u, by simpa using h1, h2⟩
theorem Vals.set {x : V} {u : Value} (r : RelV x u) : ∀ {xs : List V} {us : List Value} (i : Nat), Vals xs us → Vals (xs.set i x) (us.set i u)
  | _, _, _, .nil => .nil
  | _, _, 0, .cons _ t => .cons r t
  | _, _, i + 1, .cons q t => .cons q (Vals.set r i t)
theorem Vals.append : ∀ {xs ys : List V} {us ws : List Value}, Vals xs us → Vals ys ws → Vals (xs ++ ys) (us ++ ws)
  | _, _, _, _, .nil, s => s
  | _, _, _, _, .cons r t, s => .cons r (Vals.append t s)
theorem Vals.take : ∀ {xs : List V} {us : List Value} (n : Nat), Vals xs us → Vals (xs.take n) (us.take n)
  | _, _, 0, _ => .nil
  | _, _, _ + 1, .nil => .nil
  | _, _, n + 1, .cons r t => .cons r (Vals.take n t)
theorem Vals.drop : ∀ {xs : List V} {us : List Value} (n : Nat), Vals xs us → Vals (xs.drop n) (us.drop n)
  | _, _, 0, r => r
  | _, _, _ + 1, .nil => .nil
  | _, _, n + 1, .cons _ t => Vals.drop n t
theorem Vals.none_of : ∀ {xs : List V} {us : List Value} {i : Nat}, Vals xs us → xs[i]? = none → us[i]? = none := fun {xs us i} r e => by
  have h1 := r.length
  have h2 : xs.length ≤ i := List.getElem?_eq_none_iff.mp e
  exact List.getElem?_eq_none_iff.mpr (by omega)

def RelO : Option V → Option Value → Prop
  | some v, some u => RelV v u
  | none, none => True
  | _, _ => False
def KV {κ : Type} : List (κ × V) → List (κ × Value) → Prop := Paired fun (p : κ × V) (q : κ × Value) => p.1 = q.1 ∧ RelV p.2 q.2

/-- a key of a dict (00_mix): an int or a text -/
def kV : Key → V
  | .inl i => .int i
  | .inr x => .str x

/-- what stands at a tracked address -/
inductive HO where
  /-- a list -/
  | lst (xs : List V)
  /-- a tuple (never changes) -/
  | tup (xs : List V)
  /-- a dict whose keys are ints and texts; one whose keys are tuples of ints and texts (the empty one is both) -/
  | dK (kvs : List (Key × V)) | dT (kvs : List (List Key × V))
  /-- a set of ints: its members, its size -/
  | set (S : Int → Bool) (n : Nat)
  /-- an instance of the class at C, its dict at dx, its attributes -/
  | ins (C dx : Addr) (fs : List (Str × V))
  /-- the dict of the instance at x -/
  | own (x : Addr)
  /-- the dict of an exception -/
  | xd (fs : List (Str × V))
  /-- a bound method, f of x -/
  | met (f x : Addr)
  /-- a range object lo, lo + 1, .. below hi -/
  | rng (lo hi : Int)
  /-- a thing that is known to the object (the script; a dict while a loop walks it): read, never written while it is so -/
  | frz (o : Obj) (u : HO)
  /-- a code object's table -/
  | tbl (ps : Array Value)
  /-- any other thing, by what is true of its one object (a def of one's own: SetO a S n := HO.ext fun h => ..) -/
  | ext (φ : Heap → Prop)

abbrev Hp := Addr → Option HO
def upd (H : Hp) (a : Addr) (o : HO) : Hp := fun b => if b = a then some o else H b
theorem upd_same {H : Hp} {a : Addr} {o : HO} : upd H a o a = some o := by unfold upd; rw [if_pos rfl]
theorem upd_ne {H : Hp} {a b : Addr} {o : HO} (h : b ≠ a) : upd H a o b = H b := by unfold upd; rw [if_neg h]
theorem upd_upd {H : Hp} {a : Addr} {o u : HO} : upd (upd H a o) a u = upd H a u := by
  funext b; unfold upd; split <;> rfl
/-- two objects of different content stand apart -/
theorem ne_of {H : Hp} {a b : Addr} {o u : HO} (h : H a = some o) (h' : H b = some u) (d : o ≠ u) : a ≠ b := by
  intro e; subst e; rw [h] at h'; exact d (Option.some.inj h')
theorem ne_of_none {H : Hp} {a b : Addr} {o : HO} (h : H a = some o) (h' : H b = none) : a ≠ b := by
  intro e; subst e; rw [h] at h'; cases h'

section
variable (P : Program) (w : World)
def ObjOk (H : Hp) (h : Heap) (a : Addr) : HO → Prop
  | .lst xs => xs.length ≤ sizeLine ∧ ∃ (its : List Value) (n : Nat), Vals xs its ∧ h.get? a = some { cls := .type "list", data := .seq its.toArray n }
  | .tup xs => xs.length ≤ sizeLine ∧ ∃ its : List Value, Vals xs its ∧ IsTup h a its.toArray
  | .dK kvs => kvs.length ≤ sizeLine ∧ (a == sysModules) = false ∧ ∃ vs, KV kvs vs ∧ h.DictOf (mixKind P w) a vs
  | .dT kvs => kvs.length ≤ sizeLine ∧ (a == sysModules) = false ∧ ∃ xs : List (List Key × Addr × Value),
      Paired (fun (p : List Key × V) (q : List Key × Addr × Value) => p.1 = q.1 ∧ H q.2.1 = some (.tup (p.1.map kV)) ∧ RelV p.2 q.2.2) kvs xs ∧
      ∃ o es ep, h.get? a = some o ∧ o.ExactDict ∧ o.data = .dict es ep ∧ es.toList = xs.map (entryOfKey (tupleKind (mixKind P w))) ∧ (xs.map (·.1)).Nodup
  | .set S n => h.SetOf (intKind P w) a S n
  | .ins C dx fs => H dx = some (.own a) ∧ fs.length ≤ 1000 ∧ dx ≠ a ∧ h.get? a = some (PySem.W.instObj C dx) ∧
      ∃ mA, h.Ns1 dx mA ∧ (∀ f, RelO (fs.lookup f) (mA f)) ∧ PySem.Within mA (fs.map (·.1))
  | .own _ => ∃ o, h.get? a = some o
  | .xd fs => ∃ mA, h.Ns1 a mA ∧ ∀ f, RelO (fs.lookup f) (mA f)
  | .rng lo hi => ∃ t u v, h.get? a = some { cls := .type "range", data := .fields #[.int lo t, .int hi u, .int 1 v] }
  | .frz o u => h.get? a = some o ∧ ObjOk H h a u
  | .tbl ps => h.get? a = some { cls := .none, data := .fields ps }
  | .met f x => h.get? a = some (PySem.W.methodObj (.ref f) (.ref x))
  | .ext φ => φ h ∧ (∃ o, h.get? a = some o) ∧ ∀ h1 h2 : Heap, φ h1 → (∀ o, h1.get? a = some o → h2.get? a = some o) → φ h2
/-- the abstract heap is held -/
def HOk (H : Hp) (h : Heap) : Prop := ∀ a o, H a = some o → ObjOk P w H h a o
end

section
variable {P : Program} {w : World} {H H' : Hp} {h h' : Heap} {a : Addr} {o : HO}
theorem ObjOk.lt (x : ObjOk P w H h a o) : a < h.objs.size := by
  cases o with
  | lst xs => obtain ⟨_, _, _, _, e⟩ := x; exact Heap.lt_size e
  | tup xs => obtain ⟨_, _, _, p⟩ := x; exact p.lt
  | dK kvs => obtain ⟨_, _, _, _, o, _, _, e, _⟩ := x; exact Heap.lt_size e
  | dT kvs => obtain ⟨_, _, _, _, o, _, _, e, _⟩ := x; exact Heap.lt_size e
  | set S n => obtain ⟨o, _, _, _, e, _⟩ := x; exact Heap.lt_size e
  | ins C dx fs => obtain ⟨_, _, _, e, _⟩ := x; exact Heap.lt_size e
  | own y => obtain ⟨_, e⟩ := x; exact Heap.lt_size e
  | xd fs => obtain ⟨_, ⟨_, _, _, e, _⟩, _⟩ := x; exact Heap.lt_size e
  | rng lo hi => obtain ⟨_, _, _, e⟩ := x; exact Heap.lt_size e
  | frz ob u => obtain ⟨e, _⟩ := x; exact Heap.lt_size e
  | tbl ps => exact Heap.lt_size (show h.get? a = some _ from x)
  | met f y => exact Heap.lt_size (show h.get? a = some _ from x)
  | ext φ => obtain ⟨_, ⟨_, e⟩, _⟩ := x; exact Heap.lt_size e
theorem Paired.mapP {α β : Type} {F G : α → β → Prop} : ∀ {l₁ : List α} {l₂ : List β}, Paired F l₁ l₂ → (∀ a b, F a b → G a b) → Paired G l₁ l₂
  | _, _, .nil, _ => .nil
  | _, _, .cons r t, f => .cons (f _ _ r) (Paired.mapP t f)
theorem Paired.imp' {α β : Type} {F G : α → β → Prop} (f : ∀ a b, F a b → G a b) {l₁ : List α} {l₂ : List β} (r : Paired F l₁ l₂) : Paired G l₁ l₂ := Paired.mapP r f
/-- what an object's description leans on: its own object, its own dict, the tuples -/
theorem ObjOk.stay (x : ObjOk P w H h a o) (k : ∀ b u, (b = a ∨ H b = some (.own a)) → h.get? b = some u → h'.get? b = some u)
    (ho : ∀ b, H b = some (.own a) → H' b = some (.own a)) (ht : ∀ b xs, H b = some (.tup xs) → H' b = some (.tup xs)) : ObjOk P w H' h' a o := by
  induction o with
  | lst xs => obtain ⟨z, its, n, r, e⟩ := x; exact ⟨z, its, n, r, k _ _ (.inl rfl) e⟩
  | tup xs => obtain ⟨z, its, r, ob, e, c⟩ := x; exact ⟨z, its, r, ob, k _ _ (.inl rfl) e, c⟩
  | dK kvs => obtain ⟨z, y, vs, r, ob, es, ep, e, c⟩ := x; exact ⟨z, y, vs, r, ob, es, ep, k _ _ (.inl rfl) e, c⟩
  | dT kvs =>
    obtain ⟨z, y, xs, r, ob, es, ep, e, c⟩ := x
    exact ⟨z, y, xs, Paired.mapP r fun p q z => ⟨z.1, ht _ _ z.2.1, z.2.2⟩, ob, es, ep, k _ _ (.inl rfl) e, c⟩
  | set S n => obtain ⟨ob, es, ep, t, e, c⟩ := x; exact ⟨ob, es, ep, t, k _ _ (.inl rfl) e, c⟩
  | ins C dx fs =>
    obtain ⟨d, z, ne, e, mA, ⟨od, es, ep, e2, c⟩, r⟩ := x
    exact ⟨ho _ d, z, ne, k _ _ (.inl rfl) e, mA, ⟨od, es, ep, k _ _ (.inr d) e2, c⟩, r⟩
  | own y => obtain ⟨ob, e⟩ := x; exact ⟨ob, k _ _ (.inl rfl) e⟩
  | xd fs => obtain ⟨mA, ⟨od, es, ep, e, c⟩, r⟩ := x; exact ⟨mA, ⟨od, es, ep, k _ _ (.inl rfl) e, c⟩, r⟩
  | rng lo hi => obtain ⟨t, u, v, e⟩ := x; exact ⟨t, u, v, k _ _ (.inl rfl) e⟩
  | frz ob u ih => obtain ⟨e, q⟩ := x; exact ⟨k _ _ (.inl rfl) e, ih q⟩
  | tbl ps =>
    have e : h.get? a = some { cls := .none, data := .fields ps } := x
    show h'.get? a = some { cls := .none, data := .fields ps }
    exact k a _ (.inl rfl) e
  | met f y =>
    have e : h.get? a = some (PySem.W.methodObj (.ref f) (.ref y)) := x
    show h'.get? a = some (PySem.W.methodObj (.ref f) (.ref y))
    exact k a _ (.inl rfl) e
  | ext φ => obtain ⟨p, ⟨o, e⟩, st⟩ := x; exact ⟨st _ _ p fun o q => k _ _ (.inl rfl) q, ⟨o, k _ _ (.inl rfl) e⟩, st⟩
theorem HOk.lt (x : HOk P w H h) (e : H a = some o) : a < h.objs.size := (x a o e).lt
theorem HOk.fresh (x : HOk P w H h) (e : h.objs.size ≤ a) : H a = none := by
  cases q : H a with
  | none => rfl
  | some u => exact absurd (Nat.lt_of_lt_of_le (x.lt q) e) (Nat.lt_irrefl _)
/-- every object of the heap is kept -/
theorem HOk.kept (x : HOk P w H h) (k : ∀ b u, h.get? b = some u → h'.get? b = some u) : HOk P w H h' := fun a o e =>
  (x a o e).stay (fun b u _ q => k b u q) (fun _ q => q) fun _ _ q => q
/-- a new object is laid and tracked -/
theorem HOk.laid (x : HOk P w H h) (k : ∀ b u, h.get? b = some u → h'.get? b = some u) (hp : h.objs.size ≤ a) (new : ObjOk P w (upd H a o) h' a o) : HOk P w (upd H a o) h' := fun b u e => by
  have hn := x.fresh hp
  by_cases hb : b = a
  · subst hb; rw [upd_same] at e; cases e; exact new
  · rw [upd_ne hb] at e
    exact (x b u e).stay (fun c v _ q => k c v q) (fun c q => by rw [upd_ne (ne_of_none q hn)]; exact q) fun c xs q => by rw [upd_ne (ne_of_none q hn)]; exact q
end

/-- what may be read as u: it is u, or a known u -/
def Rd (H : Hp) (a : Addr) (u : HO) : Prop := H a = some u ∨ ∃ o, H a = some (.frz o u)
theorem Rd.of {H : Hp} {a : Addr} {u : HO} (h : H a = some u) : Rd H a u := .inl h
theorem Rd.ok {P : Program} {w : World} {H : Hp} {h : Heap} {a : Addr} {u : HO} (r : Rd H a u) (x : HOk P w H h) : ObjOk P w H h a u := by
  rcases r with r | ⟨o, r⟩
  · exact x a u r
  · obtain ⟨_, q⟩ := x a _ r
    exact q
/-- what may be written -/
def Mut : Option HO → Prop
  | some (.lst _) => True
  | some (.dK _) => True
  | some (.dT _) => True
  | some (.set _ _) => True
  | some (.ins _ _ _) => True
  | some (.ext _) => True
  | _ => False
section
variable {P : Program} {w : World} {H : Hp} {h h' : Heap} {x e : Addr} {o' : HO}
/-- the object at e is changed: x itself, or the dict of the instance x -/
theorem HOk.write (ok : HOk P w H h) (mu : Mut (H x)) (he : e = x ∨ H e = some (.own x)) (k : ∀ b u, b ≠ e → h.get? b = some u → h'.get? b = some u) (heo : ∃ u, h'.get? e = some u)
    (new : ObjOk P w (upd H x o') h' x o') : HOk P w (upd H x o') h' := fun b u q => by
  have nown : ∀ c y, H c = some (.own y) → c ≠ x := fun c y r z => by subst z; rw [r] at mu; exact mu
  have ntup : ∀ c xs, H c = some (.tup xs) → c ≠ x := fun c xs r z => by subst z; rw [r] at mu; exact mu
  by_cases hb : b = x
  · subst hb; rw [upd_same] at q; cases q; exact new
  · rw [upd_ne hb] at q
    by_cases hbe : b = e
    · have q' : H b = some (.own x) := by
        rcases he with z | z
        · exact absurd (hbe.trans z) hb
        · rw [hbe]; exact z
      rw [q] at q'; cases q'
      obtain ⟨v, hv⟩ := heo
      exact ⟨v, by rw [hbe]; exact hv⟩
    · refine (ok b u q).stay (fun c v hc r => k c v ?_ r) (fun c r => by rw [upd_ne (nown c b r)]; exact r) fun c xs r => by rw [upd_ne (ntup c xs r)]; exact r
      rcases hc with rfl | hc
      · exact hbe
      · rintro rfl
        rcases he with z | z
        · exact nown c b hc z
        · rw [hc] at z; cases z; exact hb rfl
end

/-! ### kept unless tracked; of the frames at fs (the callers') the slots may change (an exception that passes writes there); of the records at ex (iterators) nothing is said -/
structure Un (fs ex : List Addr) (H H' : Hp) (h h' : Heap) : Prop where
  keep : ∀ b o, h.get? b = some o → H b = none → b ∉ fs → b ∉ ex → h'.get? b = some o
  slot : ∀ b o, h.get? b = some o → H b = none → b ∈ fs → b ∉ ex → ∃ sl, h'.get? b = some { o with slots := sl }
  free : ∀ b o, h.get? b = some o → H b = none → b ∉ ex → H' b = none
  there : ∀ b o, h.get? b = some o → b ∉ ex → ∃ o', h'.get? b = some o'
  tups : ∀ b xs, H b = some (.tup xs) → H' b = some (.tup xs)
  frzs : ∀ b o u, H b = some (.frz o u) → H' b = some (.frz o u)
  tbls : ∀ b ps, H b = some (.tbl ps) → ∃ more, H' b = some (.tbl (ps ++ more))
section
variable {fs fs' ex ex' : List Addr} {H H1 H2 : Hp} {h h1 h2 h' : Heap} {a x e : Addr} {o : HO}
theorem Un.any (u : Un fs ex H H1 h h1) {b : Addr} {ob : Obj} (q : h.get? b = some ob) (n : H b = none) (hx : b ∉ ex) : ∃ sl, h1.get? b = some { ob with slots := sl } := by
  by_cases hb : b ∈ fs
  · exact u.slot b ob q n hb hx
  · exact ⟨ob.slots, u.keep b ob q n hb hx⟩
theorem Un.trans (a : Un fs ex H H1 h h1) (b : Un fs ex H1 H2 h1 h2) : Un fs ex H H2 h h2 where
  keep := fun c ob q n hc hx => b.keep c ob (a.keep c ob q n hc hx) (a.free c ob q n hx) hc hx
  slot := fun c ob q n hc hx => by
    obtain ⟨sl, e1⟩ := a.slot c ob q n hc hx
    obtain ⟨sl', e2⟩ := b.slot c _ e1 (a.free c ob q n hx) hc hx
    exact ⟨sl', e2⟩
  free := fun c ob q n hx => by
    obtain ⟨o', e1⟩ := a.there c ob q hx
    exact b.free c o' e1 (a.free c ob q n hx) hx
  there := fun c ob q hx => by
    obtain ⟨o', e1⟩ := a.there c ob q hx
    exact b.there c o' e1 hx
  tups := fun c xs q => b.tups c xs (a.tups c xs q)
  frzs := fun c ob xs q => b.frzs c ob xs (a.frzs c ob xs q)
  tbls := fun c ps q => by
    obtain ⟨m1, e1⟩ := a.tbls c ps q
    obtain ⟨m2, e2⟩ := b.tbls c _ e1
    exact ⟨m1 ++ m2, by rw [e2, Array.append_assoc]⟩
theorem Un.kept (k : ∀ b u, h.get? b = some u → h'.get? b = some u) : Un fs ex H H h h' :=
  ⟨fun b ob q _ _ _ => k b ob q, fun b ob q _ _ _ => ⟨ob.slots, k b ob q⟩, fun _ _ _ n _ => n, fun b ob q _ => ⟨ob, k b ob q⟩, fun _ _ q => q, fun _ _ _ q => q, fun _ ps q => ⟨#[], by rw [q]; simp⟩⟩
theorem Un.refl : Un fs ex H H h h := Un.kept fun _ _ q => q
theorem Un.laid (k : ∀ b u, h.get? b = some u → h'.get? b = some u) (hp : h.objs.size ≤ a) (hn : H a = none) : Un fs ex H (upd H a o) h h' where
  keep := fun b u q _ _ _ => k b u q
  slot := fun b u q _ _ _ => ⟨u.slots, k b u q⟩
  free := fun b u q n _ => by rw [upd_ne (Nat.ne_of_lt (Nat.lt_of_lt_of_le (Heap.lt_size q) hp))]; exact n
  there := fun b u q _ => ⟨u, k b u q⟩
  tups := fun b xs q => by rw [upd_ne (ne_of_none q hn)]; exact q
  frzs := fun b u xs q => by rw [upd_ne (ne_of_none q hn)]; exact q
  tbls := fun b ps q => ⟨#[], by rw [upd_ne (ne_of_none q hn), q]; simp⟩
theorem Un.write (mu : Mut (H x)) (he : e = x ∨ H e = some (.own x)) (k : ∀ b u, b ≠ e → h.get? b = some u → h'.get? b = some u) (heo : ∃ u, h'.get? e = some u) : Un fs ex H (upd H x o) h h' := by
  have hx : ∀ b, H b = none → b ≠ x := fun b n z => by subst z; rw [n] at mu; exact mu
  have hb : ∀ b, H b = none → b ≠ e := fun b n z => by
    subst z
    rcases he with r | r
    · exact hx b n r
    · rw [n] at r; cases r
  have hm : ∀ b u, H b = some u → ¬ Mut (some u) → b ≠ x := fun b u q nm z => by subst z; rw [q] at mu; exact nm mu
  refine ⟨fun b u q n _ _ => k b u (hb b n) q, fun b u q n _ _ => ⟨u.slots, k b u (hb b n) q⟩, fun b u q n _ => by rw [upd_ne (hx b n)]; exact n, fun b u q _ => ?_,
    fun b xs q => by rw [upd_ne (hm b _ q fun z => z)]; exact q, fun b u xs q => by rw [upd_ne (hm b _ q fun z => z)]; exact q, fun b ps q => ⟨#[], by rw [upd_ne (hm b _ q fun z => z), q]; simp⟩⟩
  by_cases hbe : b = e
  · subst hbe; exact heo
  · exact ⟨u, k b u hbe q⟩
theorem Un.mono (u : Un fs ex H H1 h h1) (hs : ∀ b ∈ fs, b ∈ fs') (hx : ∀ b ∈ ex, b ∈ ex') : Un fs' ex' H H1 h h1 :=
  ⟨fun b ob q n hb he => u.keep b ob q n (fun z => hb (hs b z)) fun z => he (hx b z), fun _ _ q n _ he => u.any q n fun z => he (hx _ z), fun b ob q n he => u.free b ob q n fun z => he (hx b z), fun b ob q he => u.there b ob q fun z => he (hx b z), u.tups, u.frzs, u.tbls⟩
end

/-! ### the heap without what is tracked -/
def trk (h : Heap) (H : Hp) : List Addr := (List.range h.objs.size).filter fun a => (H a).isSome
def hidT (h : Heap) (H : Hp) : Heap := PySem.W.hideAll h (trk h H)
theorem hidT_size (h : Heap) (H : Hp) : (hidT h H).objs.size = h.objs.size := PySem.W.hideAll_size _ _
theorem hidT_get {h : Heap} {H : Hp} {b : Addr} {o : Obj} (e : h.get? b = some o) (n : H b = none) : (hidT h H).get? b = some o :=
  PySem.W.hideAll_get _ e fun hm => by
    have q : (H b).isSome = true := (List.mem_filter.mp hm).2
    rw [n] at q; simp at q
theorem of_hidT {h : Heap} {H : Hp} {b : Addr} {o : Obj} (e : (hidT h H).get? b = some o) : h.get? b = some o ∧ H b = none := by
  have e' : h.get? b = some o := PySem.W.of_hideAll (trk h H) e
  refine ⟨e', ?_⟩
  cases q : H b with
  | none => rfl
  | some x =>
    have hm : b ∈ trk h H := List.mem_filter.mpr ⟨List.mem_range.mpr (Heap.lt_size e'), by simp [q]⟩
    have z : (hidT h H).get? b = none := PySem.W.hideAll_none (trk h H) hm
    rw [z] at e; cases e

/-! ### OpenK's ledger, filled with every new object but one -/
def allNews (g h : Heap) (L : Addr) : List (Addr × Obj) := (List.range h.objs.size).filterMap fun a => if a = L ∨ (g.get? a).isSome = true then none else (h.get? a).map fun o => (a, o)
theorem mem_allNews {g h : Heap} {L a : Addr} {o : Obj} (h1 : a ≠ L) (h2 : g.get? a = none) (h3 : h.get? a = some o) : (a, o) ∈ allNews g h L :=
  List.mem_filterMap.mpr ⟨a, List.mem_range.mpr (Heap.lt_size h3), by simp [h1, h2, h3]⟩
theorem of_mem_allNews {g h : Heap} {L : Addr} {p : Addr × Obj} (hp : p ∈ allNews g h L) : p.1 ≠ L ∧ g.get? p.1 = none ∧ h.get? p.1 = some p.2 := by
  obtain ⟨b, _, e⟩ := List.mem_filterMap.mp hp
  split at e
  · cases e
  · rename_i hn
    cases q : h.get? b with
    | none => rw [q] at e; simp at e
    | some u =>
      rw [q] at e
      simp only [Option.map_some, Option.some.injEq] at e
      subst e
      refine ⟨fun z => hn (.inl z), ?_, q⟩
      show g.get? b = none
      cases r : g.get? b with
      | none => rfl
      | some v => exact (hn (.inr (by simp [r]))).elim
def rest (g h : Heap) (L d : Addr) : List (Addr × Obj) := (allNews g h L).filter fun p => decide (p.1 ≠ d)
theorem rest_ne {g h : Heap} {L d : Addr} : ∀ p ∈ rest g h L d, p.1 ≠ d := fun p hp => of_decide_eq_true (List.mem_filter.mp hp).2
theorem mem_rest {g h : Heap} {L d a : Addr} {o : Obj} (h1 : a ≠ L) (h2 : g.get? a = none) (h3 : h.get? a = some o) (h4 : a ≠ d) : (a, o) ∈ rest g h L d :=
  List.mem_filter.mpr ⟨mem_allNews h1 h2 h3, decide_eq_true h4⟩
theorem news_all {g h : Heap} {L : Addr} : News g L h (allNews g h L) := fun p hp => let ⟨a, b, c⟩ := of_mem_allNews hp; ⟨c, a, b⟩
theorem news_at {g h : Heap} {L d : Addr} {o : Obj} (h1 : d ≠ L) (h2 : g.get? d = none) (h3 : h.get? d = some o) : News g L h ((d, o) :: rest g h L d) := fun p hp => by
  rcases List.mem_cons.mp hp with rfl | hp
  · exact ⟨h3, h1, h2⟩
  · exact news_all p (List.mem_filter.mp hp).1
/-- behind a rule that changed d alone: all else but the frame is kept -/
theorem kept_of_news {g h h' : Heap} {L d : Addr} {m : Str → Option Value} (k : ∀ b o, g.get? b = some o → h.get? b = some o) (F : Fr g L h' m) (N : News g L h' (rest g h L d)) :
    ∀ b o, b ≠ L → b ≠ d → h.get? b = some o → h'.get? b = some o := fun b o h1 h2 e => by
  cases q : g.get? b with
  | some u =>
    have := k b u q
    rw [e] at this; cases this
    exact F.keep b _ q
  | none => exact (N (b, o) (mem_rest h1 q e h2)).1
end L2

namespace L2
open PySem PySem.Spec PyProof.Rows

/-- the module's facts, over the base: the heap at the law's entry without what is tracked there -/
structure Mod (K : PySem.W.Frag) (mg : Str → Option Value) (base : Heap) : Prop where
  kin : K.In base
  glob : base.Ns mainGlobals mg
  blt : ∃ mb, base.Ns builtinsNs mb ∧ ∀ x : Str, x ≠ "__name__" → mb x = bootBuiltins x
  nolimit : base.NoLimit

/-- the context: a def's body (or a comprehension's block) running. base: fixed through the whole law; s₀, H₀: the entry; outer: the frames whose slots others may change (a def's callers); stack: all frames that run;
   ex: iterators that were made ahead of the entry and are walked here (a comprehension's); fn: the names whose cells were made at the entry (a def: all; a comprehension's block: its own); calm: not within an except suite; pn: pins that every state bears; xe: what is wanted of an exception that leaves the code -/
structure Cx where
  prog : Program
  w : World
  K : PySem.W.Frag
  mg : Str → Option Value
  base : Heap
  A : Around
  N : List Str
  s₀ : Shared
  H₀ : Hp
  env : Env
  outer : List Env
  stack : List Env
  ex : List Addr
  fn : Str → Bool
  calm : Bool
  pn : List (Addr × Obj)
  xe : Value → Shared → Prop
/-- the callers' frames -/
def frs (l : List Env) : List Addr := l.filterMap (·.frame)
abbrev Cx.fs (X : Cx) : List Addr := frs X.outer

def Vis (sc : Scope) (x : Str) : Prop := sc.names.lookup x = some .local ∨ sc.names.lookup x = some .cell ∨ sc.names.lookup x = some .free
def Loc (sc : Scope) (x : Str) : Prop := sc.names.lookup x = some .local ∨ sc.names.lookup x = some .cell
def Look (env : Env) (h : Heap) (m : Str → Option Value) (x : Str) (u : Value) : Prop :=
  (env.kindOf x = some .local ∧ m x = some u) ∨ ((env.kindOf x = some .cell ∨ env.kindOf x = some .free) ∧ ∃ c, env.cells.lookup x = some c ∧ h.IsCell c (some u))

structure Cx.Ok (X : Cx) : Prop where
  mod : Mod X.K X.mg X.base
  kind : X.env.scope.kind = .function
  glob : X.env.globals = mainGlobals
  blt : X.env.builtins = builtinsNs
  above : X.s₀.heap.objs.size ≤ X.env.locals
  inj : ∀ x y c, X.env.cells.lookup x = some c → X.env.cells.lookup y = some c → x = y
  has : ∀ x, (X.env.kindOf x = some .cell ∨ X.env.kindOf x = some .free) → ∃ c, X.env.cells.lookup x = some c
  cab : ∀ x c, X.fn x = true → X.env.cells.lookup x = some c → X.s₀.heap.objs.size ≤ c
  hd : X.calm = true → X.A.handled = none
  frames : X.A.frames = some X.stack
  stk : X.stack = X.outer ∨ (X.stack = X.env :: X.outer ∧ X.env.frame = some X.env.locals)
  exf : ∀ b ∈ X.ex, b ≠ X.env.locals ∧ ∀ x c, X.env.cells.lookup x = some c → c ≠ b
  bs : ∀ b o, X.base.get? b = some o → X.s₀.heap.get? b = some o ∧ X.H₀ b = none
  bsz : X.base.objs.size ≤ X.s₀.heap.objs.size
  noex : ∀ b o, X.base.get? b = some o → b ∉ X.ex
  exfs : ∀ b ∈ X.ex, b ∉ X.fs
  funs : X.s₀.heap.FunFrames X.base X.outer
  frf : ∀ b ∈ X.fs, X.H₀ b = none

structure Inv (X : Cx) (pins : List (Addr × Obj)) (σ : List (Option V)) (H : Hp) (s : Shared) : Prop where
  ok : X.Ok
  os : s.os = X.s₀.os
  bare : AllBare s.gens
  base : Un X.fs X.ex X.H₀ H X.s₀.heap s.heap
  loc : ∃ m, s.heap.Ns X.env.locals m ∧ ∀ (i : Nat) (x : Str) (v : V), X.N[i]? = some x → σ[i]? = some (some v) → Vis X.env.scope x → ∃ u, RelV v u ∧ Look X.env s.heap m x u
  cell : ∀ x c, X.env.cells.lookup x = some c → ∃ v, s.heap.IsCell c v
  free : H X.env.locals = none
  freeC : ∀ x c, X.env.cells.lookup x = some c → H c = none
  pin : ∀ p ∈ X.pn ++ pins, s.heap.get? p.1 = some p.2 ∧ H p.1 = none ∧ p.1 ≠ X.env.locals ∧ p.1 ∉ X.fs ∧ ∀ v, p.2.data ≠ .cell v
  hok : HOk X.prog X.w H s.heap
  len : σ.length = X.N.length

section
variable {X : Cx} {pins : List (Addr × Obj)} {σ : List (Option V)} {H H' : Hp} {s : Shared} {h' : Heap}

theorem Cx.Ok.nofr (ok : X.Ok) {b : Addr} {o : Obj} (e : X.base.get? b = some o) : b ∉ X.fs := fun hb => by
  have := (ok.funs.mem hb).1
  rw [e] at this; cases this
theorem Inv.bs (I : Inv X pins σ H s) : ∀ b o, X.base.get? b = some o → s.heap.get? b = some o ∧ H b = none := fun b o e =>
  ⟨I.base.keep b o (I.ok.bs b o e).1 (I.ok.bs b o e).2 (I.ok.nofr e) (I.ok.noex b o e), I.base.free b o (I.ok.bs b o e).1 (I.ok.bs b o e).2 (I.ok.noex b o e)⟩
theorem Inv.bk (I : Inv X pins σ H s) : ∀ b o, X.base.get? b = some o → s.heap.get? b = some o := fun b o e => (I.bs b o e).1
theorem Inv.mod (I : Inv X pins σ H s) : Mod X.K X.mg X.base := I.ok.mod
theorem Inv.kIn (I : Inv X pins σ H s) : X.K.In s.heap := I.ok.mod.kin.keeps I.bk
theorem Inv.nolimit (I : Inv X pins σ H s) : s.heap.NoLimit := I.ok.mod.nolimit.keeps I.bk
/-- the frame over the base: for OpenK's rules (K.In X.base is I.mod.kin) -/
theorem Inv.fr (I : Inv X pins σ H s) : ∃ m, Fr X.base X.env.locals s.heap m :=
  let ⟨m, hn, _⟩ := I.loc
  ⟨m, hn, I.bk, Nat.le_trans I.ok.bsz I.ok.above⟩
theorem Inv.lt (I : Inv X pins σ H s) : X.env.locals < s.heap.objs.size := let ⟨_, hn, _⟩ := I.loc; hn.lt
theorem Inv.sz (I : Inv X pins σ H s) : X.s₀.heap.objs.size ≤ s.heap.objs.size := Nat.le_trans I.ok.above (Nat.le_of_lt I.lt)
theorem Inv.nofs (I : Inv X pins σ H s) {a : Addr} (h : s.heap.objs.size ≤ a) : a ∉ X.fs := fun hb => by
  obtain ⟨_, o, ho, _⟩ := I.ok.funs.mem hb
  exact absurd (Nat.lt_of_lt_of_le (Heap.lt_size ho) (Nat.le_trans I.sz h)) (Nat.lt_irrefl _)
theorem Inv.cne (I : Inv X pins σ H s) : ∀ x c, X.env.cells.lookup x = some c → c ≠ X.env.locals := fun x c e z => by
  obtain ⟨v, o, ho, hd⟩ := I.cell x c e
  obtain ⟨m, ⟨o', es, ep, ho', hd', _⟩, _⟩ := I.loc
  rw [z, ho'] at ho; cases ho; rw [hd'] at hd; cases hd
theorem Inv.funs (I : Inv X pins σ H s) : s.heap.FunFrames X.base X.outer := by
  have all : ∀ (l : List Env), (∀ b ∈ frs l, b ∈ X.fs) → X.s₀.heap.FunFrames X.base l → s.heap.FunFrames X.base l := by
    intro l
    induction l with
    | nil => intro _ _; trivial
    | cons env r ih =>
      intro hs hl
      obtain ⟨hk, ⟨L, o, hf, hn, ho, hd⟩, hr⟩ := hl
      have hL : L ∈ X.fs := hs L (by unfold frs; rw [List.filterMap_cons, hf]; exact List.mem_cons_self)
      obtain ⟨sl, e⟩ := I.base.slot L o ho (I.ok.frf L hL) hL fun z => I.ok.exfs L z hL
      exact ⟨hk, ⟨L, _, hf, hn, e, hd⟩, ih (fun b hb => hs b (by unfold frs; rw [List.filterMap_cons, hf]; exact List.mem_cons_of_mem _ hb)) hr⟩
  exact all X.outer (fun _ hb => hb) I.ok.funs

/-- the frames that run, for a call -/
theorem Inv.stack (I : Inv X pins σ H s) : s.heap.FunFrames X.base X.stack := by
  rcases I.ok.stk with e | ⟨e, hf⟩
  · rw [e]; exact I.funs
  · rw [e]
    obtain ⟨m, hn, _⟩ := I.loc
    refine .cons (by rw [I.ok.kind]; decide) hf hn ?_ I.funs
    exact Heap.get?_none_of_le (Nat.le_trans I.ok.bsz I.ok.above)
theorem Inv.stkSub (I : Inv X pins σ H s) : ∀ b ∈ frs X.stack, b ∈ X.env.locals :: X.fs := fun b hb => by
  rcases I.ok.stk with e | ⟨e, hf⟩
  · rw [e] at hb; exact List.mem_cons_of_mem _ hb
  · rw [e] at hb
    unfold frs at hb
    rw [List.filterMap_cons, hf] at hb
    exact hb
theorem Inv.stkFree (I : Inv X pins σ H s) : ∀ b ∈ frs X.stack, H b = none := fun b hb => by
  rcases List.mem_cons.mp (I.stkSub b hb) with e | hb
  · rw [e]; exact I.free
  · obtain ⟨_, o, ho, _⟩ := I.ok.funs.mem hb
    exact I.base.free b o ho (I.ok.frf b hb) fun z => I.ok.exfs b z hb

/-- THE STEP: the untracked objects but the frame and the records at ch are kept (the callers' frames up to slots), the frame's map is kept, the new abstract heap is held -/
theorem Inv.step {g' : Array GenState} {t' : Nat} {d' : Drawn} {ch : List Addr} (I : Inv X pins σ H s)
    (hch : ∀ b ∈ ch, (b ∈ X.ex ∨ X.s₀.heap.objs.size ≤ b) ∧ b ≠ X.env.locals ∧ (∀ x c, X.env.cells.lookup x = some c → c ≠ b) ∧ ∀ p ∈ X.pn ++ pins, p.1 ≠ b)
    (keep : ∀ b o, b ≠ X.env.locals → b ∉ X.fs → b ∉ ch → s.heap.get? b = some o → H b = none → h'.get? b = some o)
    (slot : ∀ b o, b ≠ X.env.locals → b ∈ X.fs → b ∉ ch → s.heap.get? b = some o → H b = none → ∃ sl, h'.get? b = some { o with slots := sl }) (free : ∀ b o, b ∉ ch → s.heap.get? b = some o → H b = none → H' b = none)
    (there : ∀ b o, b ∉ ch → s.heap.get? b = some o → ∃ o', h'.get? b = some o')
    (tups : ∀ b xs, H b = some (.tup xs) → H' b = some (.tup xs)) (frzs : ∀ b o u, H b = some (.frz o u) → H' b = some (.frz o u)) (tbls : ∀ b ps, H b = some (.tbl ps) → ∃ more, H' b = some (.tbl (ps ++ more)))
    (ns : ∀ m, s.heap.Ns X.env.locals m → h'.Ns X.env.locals m) (hok : HOk X.prog X.w H' h') (hg : AllBare g') :
    Inv X pins σ H' { s with heap := h', gens := g', drawn := d', toks := t' } := by
  have neL : ∀ b o, X.s₀.heap.get? b = some o → b ≠ X.env.locals := fun b o e => Nat.ne_of_lt (Nat.lt_of_lt_of_le (Heap.lt_size e) I.ok.above)
  have neC : ∀ b o, X.s₀.heap.get? b = some o → b ∉ X.ex → b ∉ ch := fun b o e hx hb => by
    rcases (hch b hb).1 with z | z
    · exact hx z
    · exact absurd (Nat.lt_of_lt_of_le (Heap.lt_size e) z) (Nat.lt_irrefl _)
  have cellK : ∀ x c, X.env.cells.lookup x = some c → ∀ v, s.heap.IsCell c v → h'.IsCell c v := fun x c e v ⟨o, ho, hd⟩ => by
    have nch : c ∉ ch := fun z => (hch c z).2.2.1 x c e rfl
    by_cases hc : c ∈ X.fs
    · obtain ⟨sl, q⟩ := slot c o (I.cne x c e) hc nch ho (I.freeC x c e)
      exact ⟨_, q, hd⟩
    · exact ⟨o, keep c o (I.cne x c e) hc nch ho (I.freeC x c e), hd⟩
  refine ⟨I.ok, I.os, hg, ⟨fun b o e n hb hx => ?_, fun b o e n hb hx => ?_, fun b o e n hx => ?_, fun b o e hx => ?_, fun b xs e => tups b xs (I.base.tups b xs e), fun b o xs e => frzs b o xs (I.base.frzs b o xs e), fun b ps e => ?_⟩, ?_, fun x c e => ?_, ?_, fun x c e => ?_, fun p hp => ?_, hok, I.len⟩
  · exact keep b o (neL b o e) hb (neC b o e hx) (I.base.keep b o e n hb hx) (I.base.free b o e n hx)
  · obtain ⟨sl, e1⟩ := I.base.slot b o e n hb hx
    obtain ⟨sl', e2⟩ := slot b _ (neL b o e) hb (neC b o e hx) e1 (I.base.free b o e n hx)
    exact ⟨sl', e2⟩
  · obtain ⟨o', e1⟩ := I.base.there b o e hx
    exact free b o' (neC b o e hx) e1 (I.base.free b o e n hx)
  · obtain ⟨o', e1⟩ := I.base.there b o e hx
    exact there b o' (neC b o e hx) e1
  · obtain ⟨m1, e1⟩ := I.base.tbls b ps e
    obtain ⟨m2, e2⟩ := tbls b _ e1
    exact ⟨m1 ++ m2, by rw [e2, Array.append_assoc]⟩
  · obtain ⟨m, hn, hl⟩ := I.loc
    refine ⟨m, ns m hn, fun i x v e1 e2 e3 => ?_⟩
    obtain ⟨u, r, l⟩ := hl i x v e1 e2 e3
    refine ⟨u, r, ?_⟩
    rcases l with l | ⟨k, c, e, z⟩
    · exact .inl l
    · exact .inr ⟨k, c, e, cellK x c e _ z⟩
  · obtain ⟨v, z⟩ := I.cell x c e
    exact ⟨v, cellK x c e v z⟩
  · obtain ⟨m, ⟨o, _, _, ho, _⟩, _⟩ := I.loc
    exact free _ o (fun z => (hch _ z).2.1 rfl) ho I.free
  · obtain ⟨v, o, ho, hd⟩ := I.cell x c e
    exact free c o (fun z => (hch c z).2.2.1 x c e rfl) ho (I.freeC x c e)
  · obtain ⟨e, n, ne, nf, d⟩ := I.pin p hp
    have nch : p.1 ∉ ch := fun z => (hch p.1 z).2.2.2 p hp rfl
    exact ⟨keep p.1 p.2 ne nf nch e n, free p.1 p.2 nch e n, ne, nf, d⟩
/-- .. where the frame's own object is kept too -/
theorem Inv.un {t' : Nat} (I : Inv X pins σ H s) (u : Un X.fs [] H H' s.heap h') (hok : HOk X.prog X.w H' h') : Inv X pins σ H' { s with heap := h', toks := t' } := by
  obtain ⟨m, ⟨o, es, ep, ho, r⟩, _⟩ := id I.loc
  obtain ⟨sl, hL⟩ := u.any ho I.free (by simp)
  exact I.step (g' := s.gens) (d' := s.drawn) (ch := []) (fun _ z => nomatch z) (fun b o _ hb _ e n => u.keep b o e n hb (by simp)) (fun b o _ hb _ e n => u.slot b o e n hb (by simp)) (fun b o _ e n => u.free b o e n (by simp)) (fun b o _ e => u.there b o e (by simp)) u.tups u.frzs u.tbls (fun m' hm => by
    obtain ⟨o', es', ep', ho', r'⟩ := hm
    rw [ho] at ho'; cases ho'
    exact ⟨_, es', ep', hL, r'⟩) hok I.bare
/-- behind a call (or a comprehension's block): the slots of this frame may have changed too, the records at ch may have turned -/
theorem Inv.call {g' : Array GenState} {t' : Nat} {d' : Drawn} {ch : List Addr} (I : Inv X pins σ H s) (u : Un (frs X.stack) ch H H' s.heap h') (hok : HOk X.prog X.w H' h') (hg : AllBare g')
    (hch : ∀ b ∈ ch, (b ∈ X.ex ∨ X.s₀.heap.objs.size ≤ b) ∧ b ≠ X.env.locals ∧ (∀ x c, X.env.cells.lookup x = some c → c ≠ b) ∧ ∀ p ∈ X.pn ++ pins, p.1 ≠ b) :
    Inv X pins σ H' { s with heap := h', gens := g', drawn := d', toks := t' } := by
  obtain ⟨m, ⟨o, es, ep, ho, r⟩, _⟩ := id I.loc
  obtain ⟨sl, hL⟩ := u.any ho I.free fun z => (hch _ z).2.1 rfl
  exact I.step (ch := ch) hch (fun b o hL hb hc e n => u.keep b o e n (fun z => (List.mem_cons.mp (I.stkSub b z)).elim hL hb) hc) (fun b o _ _ hc e n => u.any e n hc) (fun b o hc e n => u.free b o e n hc) (fun b o hc e => u.there b o e hc) u.tups u.frzs u.tbls (fun m' hm => by
    obtain ⟨o', es', ep', ho', r'⟩ := hm
    rw [ho] at ho'; cases ho'
    exact ⟨_, es', ep', hL, r'⟩) hok hg
/-- an untracked record of ours (an iterator) has turned -/
theorem Inv.turned {t' : Nat} {it : Addr} (I : Inv X pins σ H s) (k : ∀ b o, b ≠ it → s.heap.get? b = some o → h'.get? b = some o) (hn : H it = none) (hL : it ≠ X.env.locals)
    (h1 : it ∈ X.ex ∨ X.s₀.heap.objs.size ≤ it) (h2 : ∀ x c, X.env.cells.lookup x = some c → c ≠ it) (h3 : ∀ p ∈ X.pn ++ pins, p.1 ≠ it) : Inv X pins σ H { s with heap := h', toks := t' } := by
  have nit : ∀ b u, H b = some u → b ≠ it := fun b u e z => by rw [z, hn] at e; cases e
  refine I.step (g' := s.gens) (d' := s.drawn) (ch := [it]) (fun b hb => ?_) (fun b o _ _ hc e _ => k b o (fun z => hc (by simp [z])) e) (fun b o _ _ hc e _ => ⟨o.slots, k b o (fun z => hc (by simp [z])) e⟩) (fun _ _ _ _ n => n)
    (fun b o hc e => ⟨o, k b o (fun z => hc (by simp [z])) e⟩) (fun _ _ e => e) (fun _ _ _ e => e) (fun b ps e => ⟨#[], by rw [e]; simp⟩) (fun m hm => ?_) (fun b u e => ?_) I.bare
  · have e : b = it := by simpa using hb
    subst e
    exact ⟨h1, hL, h2, h3⟩
  · obtain ⟨o, es, ep, ho, r⟩ := hm
    exact ⟨o, es, ep, k _ o (Ne.symm hL) ho, r⟩
  · refine (I.hok b u e).stay (fun c v hc q => k c v ?_ q) (fun _ q => q) fun _ _ q => q
    rcases hc with z | z
    · rw [z]; exact nit b u e
    · exact nit c _ z
theorem Inv.tok (I : Inv X pins σ H s) (t : Nat) : Inv X pins σ H { s with toks := t } := I.un (h' := s.heap) (t' := t) Un.refl I.hok
/-- all objects kept -/
theorem Inv.kept {t' : Nat} (I : Inv X pins σ H s) (k : ∀ b u, s.heap.get? b = some u → h'.get? b = some u) : Inv X pins σ H { s with heap := h', toks := t' } := I.un (Un.kept k) (I.hok.kept k)
/-- a new object laid and tracked -/
theorem Inv.laid {a : Addr} {o : HO} {t' : Nat} (I : Inv X pins σ H s) (k : ∀ b u, s.heap.get? b = some u → h'.get? b = some u) (hp : s.heap.objs.size ≤ a) (new : ObjOk X.prog X.w (upd H a o) h' a o) :
    Inv X pins σ (upd H a o) { s with heap := h', toks := t' } := I.un (Un.laid k hp (I.hok.fresh hp)) (I.hok.laid k hp new)
/-- an object written -/
theorem Inv.write {x e : Addr} {o : HO} {t' : Nat} (I : Inv X pins σ H s) (mu : Mut (H x)) (he : e = x ∨ H e = some (.own x)) (k : ∀ b u, b ≠ e → s.heap.get? b = some u → h'.get? b = some u) (heo : ∃ u, h'.get? e = some u)
    (new : ObjOk X.prog X.w (upd H x o) h' x o) : Inv X pins σ (upd H x o) { s with heap := h', toks := t' } := I.un (Un.write mu he k heo) (I.hok.write mu he k heo new)
/-- forgetting slots, pins -/
theorem Inv.weak {σ' : List (Option V)} (I : Inv X pins σ H s) (hl : σ'.length = σ.length) (w : ∀ (i : Nat) v, σ'[i]? = some (some v) → σ[i]? = some (some v)) : Inv X pins σ' H s :=
  ⟨I.ok, I.os, I.bare, I.base, let ⟨m, hn, hl'⟩ := I.loc; ⟨m, hn, fun i x v e1 e2 e3 => hl' i x v e1 (w i v e2) e3⟩, I.cell, I.free, I.freeC, I.pin, I.hok, hl.trans I.len⟩
theorem Inv.pins_of {pins' : List (Addr × Obj)} (I : Inv X pins σ H s) (h : ∀ p ∈ pins', s.heap.get? p.1 = some p.2 ∧ H p.1 = none ∧ p.1 ≠ X.env.locals ∧ p.1 ∉ X.fs ∧ ∀ v, p.2.data ≠ .cell v) : Inv X pins' σ H s :=
  ⟨I.ok, I.os, I.bare, I.base, I.loc, I.cell, I.free, I.freeC, fun p hp => (List.mem_append.mp hp).elim (fun z => I.pin p (List.mem_append_left _ z)) (h p), I.hok, I.len⟩

theorem nodup_ix {N : List Str} (hN : N.Nodup) {i j : Nat} {x : Str} (a : N[i]? = some x) (b : N[j]? = some x) : i = j := by
  obtain ⟨h1, e1⟩ := List.getElem?_eq_some_iff.mp a
  obtain ⟨h2, e2⟩ := List.getElem?_eq_some_iff.mp b
  exact (List.getElem_inj hN).mp (e1.trans e2.symm)

/-- a name is stored; what changed -/
theorem store_ok2 {M : Model} {A : Around} {E : Value → Shared → Prop} {i : Nat} {x : Str} {v : V} {u : Value} {Q : Unit → Shared → Prop} (I : Inv X pins σ H s) (hN : X.N.Nodup) (hi : X.N[i]? = some x) (hx : Loc X.env.scope x) (r : RelV v u)
    (h : ∀ s', Inv X pins (σ.set i (some v)) H s' → (∃ a, Heap.SameBut a s.heap s'.heap ∧ (a = X.env.locals ∨ X.env.cells.lookup x = some a)) → Q () s') (hf : X.fn x = true ∨ X.env.scope.names.lookup x = some .local := by first | exact .inl rfl | exact .inr rfl | assumption) : wpAny M A (storeName X.env x u) Q E s := by
  obtain ⟨m, hn, hl⟩ := id I.loc
  have hcls : (X.env.scope.kind == .class || (X.env.scope.kind == .module && X.env.locals != X.env.globals)) = false := by rw [I.ok.kind]; rfl
  have hiσ : i < σ.length := by rw [I.len]; exact (List.getElem?_eq_some_iff.mp hi).1
  have cne := I.cne
  have tracked : ∀ {a : Addr} {h' : Heap}, (∃ o, s.heap.get? a = some o ∧ H a = none) → Heap.SameBut a s.heap h' → HOk X.prog X.w H h' := fun {a h'} ha hs b ob e => by
    obtain ⟨_, _, hfree⟩ := ha
    refine (I.hok b ob e).stay (fun c w' hc q => (hs.2 c ?_).trans q) (fun _ q => q) fun _ _ q => q
    rintro rfl
    rcases hc with rfl | hc
    · rw [hfree] at e; cases e
    · rw [hfree] at hc; cases hc
  rcases hx with hk | hk
  · refine wpAny_storeName_local hk hn (fun h' hn' hs => ?_) hcls
    obtain ⟨oL, _, _, hoL, _⟩ := id hn
    refine h _ ⟨I.ok, I.os, I.bare, ⟨fun b o e n hb hx => ?_, fun b o e n hb hx => ?_, I.base.free, fun b o e hx => ?_, I.base.tups, I.base.frzs, I.base.tbls⟩, ⟨_, hn', fun j y v' e1 e2 e3 => ?_⟩, fun y c e => ?_, I.free, I.freeC, fun p hp => ?_, tracked ⟨oL, hoL, I.free⟩ hs, by simpa using I.len⟩ ⟨_, hs, .inl rfl⟩
    · exact (hs.2 b (Nat.ne_of_lt (Nat.lt_of_lt_of_le (Heap.lt_size e) I.ok.above))).trans (I.base.keep b o e n hb hx)
    · obtain ⟨sl, e1⟩ := I.base.slot b o e n hb hx
      exact ⟨sl, (hs.2 b (Nat.ne_of_lt (Nat.lt_of_lt_of_le (Heap.lt_size e) I.ok.above))).trans e1⟩
    · obtain ⟨o', e1⟩ := I.base.there b o e hx
      exact ⟨o', (hs.2 b (Nat.ne_of_lt (Nat.lt_of_lt_of_le (Heap.lt_size e) I.ok.above))).trans e1⟩
    · by_cases hj : j = i
      · subst hj
        rw [hi] at e1; cases e1
        rw [List.getElem?_set_self hiσ] at e2
        cases e2
        exact ⟨u, r, .inl ⟨hk, by simp⟩⟩
      · rw [List.getElem?_set_ne (Ne.symm hj)] at e2
        obtain ⟨u', r', q⟩ := hl j y v' e1 e2 e3
        refine ⟨u', r', ?_⟩
        rcases q with ⟨k, e⟩ | ⟨k, c, e, z⟩
        · refine .inl ⟨k, ?_⟩
          have : y ≠ x := fun e => hj (nodup_ix hN e1 (e ▸ hi))
          simp [this, e]
        · exact .inr ⟨k, c, e, z.sameBut hs (cne y c e)⟩
    · obtain ⟨w', z⟩ := I.cell y c e
      exact ⟨w', z.sameBut hs (cne y c e)⟩
    · obtain ⟨e, n, ne, nf, d⟩ := I.pin p hp
      exact ⟨(hs.2 p.1 ne).trans e, n, ne, nf, d⟩
  · have hfn : X.fn x = true := by
      rcases hf with z | z
      · exact z
      · rw [z] at hk; cases hk
    obtain ⟨c, hc⟩ := I.ok.has x (.inl hk)
    obtain ⟨w', z⟩ := I.cell x c hc
    refine wpAny_storeName_cell I.ok.kind hk hc z (fun h' hc' hs => ?_)
    obtain ⟨oc, hoc, hocd⟩ := id z
    refine h { s with heap := h' } ⟨I.ok, I.os, I.bare, ⟨fun b o e n hb hx => ?_, fun b o e n hb hx => ?_, I.base.free, fun b o e hx => ?_, I.base.tups, I.base.frzs, I.base.tbls⟩, ⟨m, hn.sameBut hs (Ne.symm (cne x c hc)), fun j y v' e1 e2 e3 => ?_⟩, fun y c' e => ?_, I.free, I.freeC, fun p hp => ?_, tracked ⟨oc, hoc, I.freeC x c hc⟩ hs, by simpa using I.len⟩ ⟨c, hs, .inr hc⟩
    · exact (hs.2 b (Nat.ne_of_lt (Nat.lt_of_lt_of_le (Heap.lt_size e) (I.ok.cab x c hfn hc)))).trans (I.base.keep b o e n hb hx)
    · obtain ⟨sl, e1⟩ := I.base.slot b o e n hb hx
      exact ⟨sl, (hs.2 b (Nat.ne_of_lt (Nat.lt_of_lt_of_le (Heap.lt_size e) (I.ok.cab x c hfn hc)))).trans e1⟩
    · obtain ⟨o', e1⟩ := I.base.there b o e hx
      exact ⟨o', (hs.2 b (Nat.ne_of_lt (Nat.lt_of_lt_of_le (Heap.lt_size e) (I.ok.cab x c hfn hc)))).trans e1⟩
    · by_cases hj : j = i
      · subst hj
        rw [hi] at e1; cases e1
        rw [List.getElem?_set_self hiσ] at e2
        cases e2
        exact ⟨u, r, .inr ⟨.inl hk, c, hc, hc'⟩⟩
      · rw [List.getElem?_set_ne (Ne.symm hj)] at e2
        obtain ⟨u', r', q⟩ := hl j y v' e1 e2 e3
        refine ⟨u', r', ?_⟩
        rcases q with q | ⟨k, c', e, z'⟩
        · exact .inl q
        · refine .inr ⟨k, c', e, z'.sameBut hs ?_⟩
          rintro rfl
          exact hj (nodup_ix hN e1 (I.ok.inj _ _ _ e hc ▸ hi))
    · by_cases hcc : c' = c
      · subst hcc; exact ⟨_, hc'⟩
      · obtain ⟨w2, z2⟩ := I.cell y c' e
        exact ⟨w2, z2.sameBut hs hcc⟩
    · obtain ⟨e, n, ne, nf, d⟩ := I.pin p hp
      refine ⟨(hs.2 p.1 ?_).trans e, n, ne, nf, d⟩
      intro q
      rw [q, hoc] at e
      have q' : oc = p.2 := Option.some.inj e
      exact d w' (by rw [← q']; exact hocd)
theorem store_ok {M : Model} {A : Around} {E : Value → Shared → Prop} {i : Nat} {x : Str} {v : V} {u : Value} {Q : Unit → Shared → Prop} (I : Inv X pins σ H s) (hN : X.N.Nodup) (hi : X.N[i]? = some x) (hx : Loc X.env.scope x) (r : RelV v u)
    (h : ∀ s', Inv X pins (σ.set i (some v)) H s' → Q () s') (hf : X.fn x = true ∨ X.env.scope.names.lookup x = some .local := by first | exact .inl rfl | exact .inr rfl | assumption) : wpAny M A (storeName X.env x u) Q E s :=
  store_ok2 I hN hi hx r (fun s' I' _ => h s' I') hf
/-- behind a call or a block, the state as it is -/
theorem Inv.call' {s' : Shared} {ch : List Addr} (I : Inv X pins σ H s) (ho : s'.os = s.os) (u : Un (frs X.stack) ch H H' s.heap s'.heap) (hok : HOk X.prog X.w H' s'.heap) (hg : AllBare s'.gens)
    (hch : ∀ b ∈ ch, (b ∈ X.ex ∨ X.s₀.heap.objs.size ≤ b) ∧ b ≠ X.env.locals ∧ (∀ x c, X.env.cells.lookup x = some c → c ≠ b) ∧ ∀ p ∈ X.pn ++ pins, p.1 ≠ b) : Inv X pins σ H' s' := by
  obtain ⟨h', g', d', t', o'⟩ := s'
  have e : o' = s.os := ho
  subst e
  exact I.call (g' := g') (t' := t') (d' := d') u hok hg hch
end

/-! ### the judgements -/
/-- an exception: its class, its own dict's address (where it has one), the abstract heap behind it -/
abbrev XK := Value → Option Addr → Hp → Prop
abbrev St := List (Option V)
abbrev VK := V → Hp → Prop
/-- an expression's reading; a test's; an argument list's -/
abbrev TE := St → Hp → VK → Prop
abbrev TT := St → Hp → (Bool → Hp → Prop) → Prop
abbrev TA := St → Hp → (List V → Hp → Prop) → Prop
/-- what is wanted behind a statement -/
structure Ends where
  nx : St → Hp → Prop
  rt : VK
  bk : St → Hp → Prop := fun _ _ => False
  ct : St → Hp → Prop := fun _ _ => False
abbrev TS := Ends → St → Hp → Prop

def EP (X : Cx) (pins : List (Addr × Obj)) (σ : St) (Q : VK) (u : Value) (s' : Shared) : Prop := ∃ v H', Inv X pins σ H' s' ∧ RelV v u ∧ Q v H'
def TP (X : Cx) (pins : List (Addr × Obj)) (σ : St) (Q : Bool → Hp → Prop) (b : Bool) (s' : Shared) : Prop := ∃ H', Inv X pins σ H' s' ∧ Q b H'
def AP (X : Cx) (pins : List (Addr × Obj)) (σ : St) (Q : List V → Hp → Prop) (us : List Value) (s' : Shared) : Prop := ∃ vs H', Inv X pins σ H' s' ∧ Vals vs us ∧ Q vs H'
def SP (X : Cx) (pins : List (Addr × Obj)) (D : Ends) (f : Flow) (s' : Shared) : Prop :=
  match f with
  | .next => ∃ σ' H', Inv X pins σ' H' s' ∧ D.nx σ' H'
  | .brk => ∃ σ' H', Inv X pins σ' H' s' ∧ D.bk σ' H'
  | .cont => ∃ σ' H', Inv X pins σ' H' s' ∧ D.ct σ' H'
  | .ret u => ∃ v σ' H', Inv X pins σ' H' s' ∧ RelV v u ∧ D.rt v H'

def PE (X : Cx) (e : Expr) (t : TE) : Prop :=
  ∀ (pins : List (Addr × Obj)) (s : Shared) (σ : St) (H : Hp) (Q : VK), Inv X pins σ H s → t σ H Q → wpAny (model X.prog X.w) X.A (eval e X.env) (EP X pins σ Q) X.xe s
def PT (X : Cx) (e : Expr) (t : TT) : Prop :=
  ∀ (pins : List (Addr × Obj)) (s : Shared) (σ : St) (H : Hp) (Q : Bool → Hp → Prop), Inv X pins σ H s → t σ H Q → wpAny (model X.prog X.w) X.A (isTrue e X.env (eval e X.env)) (TP X pins σ Q) X.xe s
/-- a test whatever its 'whole' is (and, or) -/
def PW (X : Cx) (e : Expr) (t : TT) : Prop :=
  ∀ (whole : Sem Value) (pins : List (Addr × Obj)) (s : Shared) (σ : St) (H : Hp) (Q : Bool → Hp → Prop), Inv X pins σ H s → t σ H Q → wpAny (model X.prog X.w) X.A (isTrue e X.env whole) (TP X pins σ Q) X.xe s
theorem PW.pt {X : Cx} {e : Expr} {t : TT} (h : PW X e t) : PT X e t := h _
/-- an argument list (no star), from the left -/
def PA (X : Cx) (es : List Expr) (t : TA) : Prop :=
  ∀ (pos : Pos) (pins : List (Addr × Obj)) (s : Shared) (σ : St) (H : Hp) (Q : List V → Hp → Prop), Inv X pins σ H s → t σ H Q → wpAny (model X.prog X.w) X.A (spliced (backTo pos (starEach es X.env))) (AP X pins σ Q) X.xe s
def PS (X : Cx) (st : Stmt) (t : TS) : Prop :=
  ∀ (pins : List (Addr × Obj)) (s : Shared) (σ : St) (H : Hp) (D : Ends), Inv X pins σ H s → t D σ H → wpAny (model X.prog X.w) X.A (exec st X.env) (SP X pins D) X.xe s
def PSs (X : Cx) (st : List Stmt) (t : TS) : Prop :=
  ∀ (pins : List (Addr × Obj)) (s : Shared) (σ : St) (H : Hp) (D : Ends), Inv X pins σ H s → t D σ H → wpAny (model X.prog X.w) X.A (execs st X.env) (SP X pins D) X.xe s
/-- weaken the end -/
theorem thn {α : Type} {t : Sem α} {Q Q' : α → Shared → Prop} {M : Model} {A : Around} {E : Value → Shared → Prop} {s : Shared} (h : wpAny M A t Q E s) (hQ : ∀ a s, Q a s → Q' a s) : wpAny M A t Q' E s := wpAny_mono h hQ fun _ _ x => x
end L2

namespace L2
open PySem PySem.Spec PyProof.Rows
section
variable {X : Cx}

/-- two expressions in a row -/
theorem bin {a b : Expr} {ta tb : TE} (ha : PE X a ta) (hb : PE X b tb) {pins : List (Addr × Obj)} {s : Shared} {σ : St} {H : Hp} {R : V → V → Hp → Prop} (I : Inv X pins σ H s) (h : ta σ H fun x H1 => tb σ H1 fun y H2 => R x y H2)
    {α : Type} {Q : α → Shared → Prop} {f : Value → Value → Sem α}
    (hf : ∀ v u s2 x y H2, Inv X pins σ H2 s2 → RelV x v → RelV y u → R x y H2 → wpAny (model X.prog X.w) X.A (f v u) Q X.xe s2) :
    wpAny (model X.prog X.w) X.A (eval a X.env) (fun v s₁ => wpAny (model X.prog X.w) X.A (eval b X.env) (fun u s₂ => wpAny (model X.prog X.w) X.A (f v u) Q X.xe s₂) X.xe s₁) X.xe s := by
  refine thn (ha pins s σ H _ I h) fun v s1 ⟨x, H1, I1, r1, q1⟩ => ?_
  refine thn (hb pins s1 σ H1 _ I1 q1) fun u s2 ⟨y, H2, I2, r2, q2⟩ => ?_
  exact hf v u s2 x y H2 I2 r1 r2 q2

/-! ### names and constants -/
def tVar (i : Nat) : TE := fun σ H Q => ∃ v, σ[i]? = some (some v) ∧ Q v H
def tC (v : V) : TE := fun _ H Q => Q v H
theorem pe_var {i : Nat} {x : Str} {pos : Pos} (hN : X.N[i]? = some x) (hv : Vis X.env.scope x) (hd : (x == ("__debug__" : Str)) = false := by decide) (hcd : (x == ("__classdict__" : Str)) = false := by decide) : PE X (.Name x pos) (tVar i) := by
  intro pins s σ H Q I h
  obtain ⟨v, e, h⟩ := h
  obtain ⟨m, hn, hl⟩ := I.loc
  obtain ⟨u, r, l⟩ := hl i x v hN e hv
  have fin : EP X pins σ Q u s := ⟨v, H, I, r, h⟩
  rcases l with ⟨hk, hm⟩ | ⟨hk, c, hc, hcell⟩
  · exact wpAny_Name (wpAny_loadName_local I.ok.kind hk hn hm fin) hd
  · rcases hk with hk | hk
    · exact wpAny_Name (wpAny_loadName_cell I.ok.kind hk hc hcell fin) hd
    · exact wpAny_Name (wpAny_loadName_free I.ok.kind hk hc hcell fin hcd) hd
theorem pe_int {i j pos} : PE X (.Constant (.int i) j pos) (tC (.int i)) := fun _ _ _ H _ I h => wpAny_Constant_int ⟨.int i, H, I.tok _, ⟨_, rfl⟩, h⟩
theorem pe_bl {b j pos} : PE X (.Constant (.bool b) j pos) (tC (.bl b)) := fun _ _ _ H _ I h => Constant_bool ⟨.bl b, H, I, rfl, h⟩
theorem pe_non {j pos} : PE X (.Constant .none j pos) (tC .non) := fun _ _ _ H _ I h => Constant_none ⟨.non, H, I, rfl, h⟩
theorem pe_str {x j pos} : PE X (.Constant (.str x) j pos) (tC (.str x)) := fun _ _ _ H _ I h => Calls.Constant_str ⟨.str x, H, I.tok _, ⟨_, rfl⟩, h⟩

/-- a global name of the def -/
def Gl (X : Cx) (x : Str) : Prop := X.env.kindOf x = some .globalImplicit
theorem ld_glob {E : Value → Shared → Prop} {pins : List (Addr × Obj)} {s : Shared} {σ : St} {H : Hp} {x : Str} {u : Value} {pos : Pos} {Q : Value → Shared → Prop} (I : Inv X pins σ H s) (hg : Gl X x) (hm : X.mg x = some u) (h : Q u s)
    (hd : (x == ("__debug__" : Str)) = false := by decide) : wpAny (model X.prog X.w) X.A (eval (.Name x pos) X.env) Q E s :=
  Calls.Name_function_global I.ok.kind hg (Calls.loadGlobal_global (by rw [I.ok.glob]; exact I.mod.glob.keeps I.bk) hm h) hd
theorem ld_blt {E : Value → Shared → Prop} {pins : List (Addr × Obj)} {s : Shared} {σ : St} {H : Hp} {x : Str} {u : Value} {pos : Pos} {Q : Value → Shared → Prop} (I : Inv X pins σ H s) (hg : Gl X x) (hm : X.mg x = none) (hv : bootBuiltins x = some u) (h : Q u s)
    (hn : x ≠ "__name__" := by decide) (hd : (x == ("__debug__" : Str)) = false := by decide) : wpAny (model X.prog X.w) X.A (eval (.Name x pos) X.env) Q E s := by
  obtain ⟨mb, h1, h2⟩ := I.mod.blt
  exact Calls.Name_function_global I.ok.kind hg (Calls.loadGlobal_builtin (by rw [I.ok.glob]; exact I.mod.glob.keeps I.bk) hm (by rw [I.ok.blt]; exact h1.keeps I.bk) ((h2 x hn).trans hv) h) hd
/-- a module's constant, a class, a function, as a value -/
theorem pe_glob {x : Str} {v : V} {u : Value} {pos : Pos} (hg : Gl X x) (hm : X.mg x = some u) (r : RelV v u) (hd : (x == ("__debug__" : Str)) = false := by decide) : PE X (.Name x pos) (tC v) :=
  fun _ _ _ H _ I h => ld_glob I hg hm ⟨v, H, I, r, h⟩ hd
theorem pe_bltn {x : Str} {v : V} {u : Value} {pos : Pos} (hg : Gl X x) (hm : X.mg x = none) (hv : bootBuiltins x = some u) (r : RelV v u) (hn : x ≠ "__name__" := by decide) (hd : (x == ("__debug__" : Str)) = false := by decide) : PE X (.Name x pos) (tC v) :=
  fun _ _ _ H _ I h => ld_blt I hg hm hv ⟨v, H, I, r, h⟩ hn hd

/-! ### arithmetic -/
/-- two ints -/
def t2I (ta tb : TE) (k : Int → Int → Hp → Prop) : St → Hp → Prop := fun σ H => ta σ H fun x H1 => tb σ H1 fun y H2 => ∃ i j, x = .int i ∧ y = .int j ∧ k i j H2
def tAdd (ta tb : TE) : TE := fun σ H Q => t2I ta tb (fun i j H2 => Q (.int (i + j)) H2) σ H
def tSub (ta tb : TE) : TE := fun σ H Q => t2I ta tb (fun i j H2 => Q (.int (i - j)) H2) σ H
/-- the left factor below 2^64 -/
def tMul (ta tb : TE) : TE := fun σ H Q => t2I ta tb (fun i j H2 => (-(2 ^ 64) < i ∧ i < 2 ^ 64) ∧ Q (.int (i * j)) H2) σ H
variable {a b : Expr} {ta tb : TE} {pos : Pos}
theorem pe_add (ha : PE X a ta) (hb : PE X b tb) : PE X (.BinOp a .Add b pos) (tAdd ta tb) := by
  intro pins s σ H Q I h
  refine wpAny_BinOp (bin ha hb I h fun v u s2 x y H2 I2 rx ry q => ?_)
  obtain ⟨i, j, rfl, rfl, q⟩ := q
  obtain ⟨t, rfl⟩ := rx
  obtain ⟨t', rfl⟩ := ry
  exact add_int ⟨.int _, H2, I2.tok _, ⟨_, rfl⟩, q⟩
theorem pe_sub (ha : PE X a ta) (hb : PE X b tb) : PE X (.BinOp a .Sub b pos) (tSub ta tb) := by
  intro pins s σ H Q I h
  refine wpAny_BinOp (bin ha hb I h fun v u s2 x y H2 I2 rx ry q => ?_)
  obtain ⟨i, j, rfl, rfl, q⟩ := q
  obtain ⟨t, rfl⟩ := rx
  obtain ⟨t', rfl⟩ := ry
  exact sub_int ⟨.int _, H2, I2.tok _, ⟨_, rfl⟩, q⟩
theorem pe_mul (ha : PE X a ta) (hb : PE X b tb) : PE X (.BinOp a .Mult b pos) (tMul ta tb) := by
  intro pins s σ H Q I h
  refine wpAny_BinOp (bin ha hb I h fun v u s2 x y H2 I2 rx ry q => ?_)
  obtain ⟨i, j, rfl, rfl, ⟨q1, q2⟩, q⟩ := q
  obtain ⟨t, rfl⟩ := rx
  obtain ⟨t', rfl⟩ := ry
  exact mul_int ⟨.int _, H2, I2.tok _, ⟨_, rfl⟩, q⟩ (.of_left (intBits_le_64 q1 q2))

/-! ### comparisons -/
def PC (X : Cx) (op : CmpOp) (a b : Expr) (t : TE) : Prop :=
  ∀ (pins : List (Addr × Obj)) (s : Shared) (σ : St) (H : Hp) (Q : VK), Inv X pins σ H s → t σ H Q →
    wpAny (model X.prog X.w) X.A (eval a X.env) (fun v s₁ => wpAny (model X.prog X.w) X.A (eval b X.env) (fun u s₂ => wpAny (model X.prog X.w) X.A (compareOp op v u) (EP X pins σ Q) X.xe s₂) X.xe s₁) X.xe s
theorem nobehind (b : Expr) {op : CmpOp} (h : op ≠ .In) (h2 : op ≠ .NotIn) : behindInMarks op b = false := by
  have e1 : (op == CmpOp.In) = false := by cases op <;> first | rfl | exact absurd rfl h
  have e2 : (op == CmpOp.NotIn) = false := by cases op <;> first | rfl | exact absurd rfl h2
  cases b <;> simp [behindInMarks, e1, e2]
def tCmp (p : Int → Int → Bool) (ta tb : TE) : TE := fun σ H Q => t2I ta tb (fun i j H2 => Q (.bl (p i j)) H2) σ H
abbrev tLt : TE → TE → TE := tCmp fun i j => decide (i < j)
abbrev tLe : TE → TE → TE := tCmp fun i j => decide (i ≤ j)
abbrev tGt : TE → TE → TE := tCmp fun i j => decide (j < i)
abbrev tGe : TE → TE → TE := tCmp fun i j => decide (j ≤ i)
abbrev tEqI : TE → TE → TE := tCmp fun i j => decide (i = j)
abbrev tNeI : TE → TE → TE := tCmp fun i j => !decide (i = j)
/-- a comparison of two ints, by its rule -/
theorem pc_int {op : CmpOp} {p : Int → Int → Bool} (ha : PE X a ta) (hb : PE X b tb)
    (rule : ∀ (i j : Int) (t u : Tok) (Q : Value → Shared → Prop) (s : Shared), Q (.bool (p i j)) s → wpAny (model X.prog X.w) X.A (compareOp op (.int i t) (.int j u)) Q X.xe s) : PC X op a b (tCmp p ta tb) := by
  intro pins s σ H Q I h
  refine bin ha hb I h fun v u s2 x y H2 I2 rx ry q => ?_
  obtain ⟨i, j, rfl, rfl, q⟩ := q
  obtain ⟨t, rfl⟩ := rx
  obtain ⟨t', rfl⟩ := ry
  exact rule i j t t' _ s2 ⟨.bl _, H2, I2, rfl, q⟩
theorem pc_lt (ha : PE X a ta) (hb : PE X b tb) : PC X .Lt a b (tLt ta tb) := pc_int ha hb fun _ _ _ _ _ _ h => lt_int h
theorem pc_le (ha : PE X a ta) (hb : PE X b tb) : PC X .LtE a b (tLe ta tb) := pc_int ha hb fun _ _ _ _ _ _ h => le_int h
theorem pc_gt (ha : PE X a ta) (hb : PE X b tb) : PC X .Gt a b (tGt ta tb) := pc_int ha hb fun _ _ _ _ _ _ h => gt_int h
theorem pc_ge (ha : PE X a ta) (hb : PE X b tb) : PC X .GtE a b (tGe ta tb) := pc_int ha hb fun _ _ _ _ _ _ h => ge_int h
theorem pc_eqI (ha : PE X a ta) (hb : PE X b tb) : PC X .Eq a b (tEqI ta tb) := pc_int ha hb fun _ _ _ _ _ _ h => eq_int (by rw [Bool.beq_eq_decide_eq]; exact h)
theorem pc_neI (ha : PE X a ta) (hb : PE X b tb) : PC X .NotEq a b (tNeI ta tb) := pc_int ha hb fun _ _ _ _ _ _ h => ne_int (by rw [bne, Bool.beq_eq_decide_eq]; exact h)
/-- is None -/
def tIsN (ta : TE) : TE := fun σ H Q => ta σ H fun x H1 => Q (.bl (decide (x = .non))) H1
def tNotN (ta : TE) : TE := fun σ H Q => ta σ H fun x H1 => Q (.bl (!decide (x = .non))) H1
theorem RelV.none_iff {x : V} {v : Value} (r : RelV x v) : (v == Value.none) = decide (x = .non) := by
  cases x with
  | non => cases r; rfl
  | bl _ => cases r; rfl
  | int _ => obtain ⟨t, rfl⟩ := r; rfl
  | str _ => obtain ⟨t, rfl⟩ := r; rfl
  | byt _ => obtain ⟨t, rfl⟩ := r; rfl
  | flt _ => obtain ⟨t, rfl⟩ := r; rfl
  | ref _ => cases r; rfl
  | ty _ => cases r; rfl
theorem pc_isN {j pos'} (ha : PE X a ta) : PC X .Is a (.Constant .none j pos') (tIsN ta) := by
  intro pins s σ H Q I h
  refine thn (ha pins s σ H _ I h) fun v s1 ⟨x, H1, I1, r1, q1⟩ => ?_
  exact Constant_none (is_none_gen ⟨.bl _, H1, I1, by rw [r1.none_iff]; rfl, q1⟩)
theorem pc_notN {j pos'} (ha : PE X a ta) : PC X .IsNot a (.Constant .none j pos') (tNotN ta) := by
  intro pins s σ H Q I h
  refine thn (ha pins s σ H _ I h) fun v s1 ⟨x, H1, I1, r1, q1⟩ => ?_
  exact Constant_none (isnot_none_gen ⟨.bl _, H1, I1, by rw [r1.none_iff]; rfl, q1⟩)
/-- a comparison as a value, as a test -/
def tB (t : TE) : TT := fun σ H Q => t σ H fun x H1 => ∃ c, x = .bl c ∧ Q c H1
theorem pe_cmp {op : CmpOp} {t : TE} (h : PC X op a b t) (h1 : behindInMarks op b = false := by first | exact nobehind _ (by decide) (by decide) | rfl) : PE X (.Compare a [op] [b] pos) t := fun pins s σ H Q I hw => wpAny_Compare1 (h pins s σ H Q I hw) h1
theorem pt_cmp {op : CmpOp} {t : TE} (h : PC X op a b t) (h1 : behindInMarks op b = false := by first | exact nobehind _ (by decide) (by decide) | rfl) : PT X (.Compare a [op] [b] pos) (tB t) := by
  intro pins s σ H Q I hw
  refine wpAny_isTrue_Compare1 (thn (h pins s σ H _ I hw) fun v s1 h1 => thn h1 fun u s2 h2 => thn h2 fun c s3 ⟨x, H1, I1, r1, q1⟩ => ?_) h1
  obtain ⟨d, rfl, q⟩ := q1
  cases r1
  exact wpAny_truthy_bool ⟨H1, I1, q⟩
/-- an expression whose value is a bool, as a test -/
theorem pt_val {e : Expr} {t : TE} (h : PE X e t) (he : ∀ whole, isTrue e X.env whole = (do let v ← whole; standAt e.pos; holding [v] (truthy v)) := by intro _; rfl) : PT X e (tB t) := by
  intro pins s σ H Q I hw
  refine isTrue_plain (thn (h pins s σ H _ I hw) fun v s1 ⟨x, H1, I1, r1, q1⟩ => ?_) (he _)
  obtain ⟨d, rfl, q⟩ := q1
  cases r1
  exact wpAny_truthy_bool ⟨H1, I1, q⟩

/-! ### and, or, not -/
variable {tA tB' : TT} {rest : List Expr}
def tAnd (t u : TT) : TT := fun σ H Q => t σ H fun c H1 => if c = true then u σ H1 Q else Q false H1
def tOr (t u : TT) : TT := fun σ H Q => t σ H fun c H1 => if c = true then Q true H1 else u σ H1 Q
def tNot (t : TT) : TT := fun σ H Q => t σ H fun c H1 => Q (!c) H1
theorem pw_and1 (ha : PT X a tA) : PW X (.BoolOp .And [a] pos) tA := by
  intro wh pins s σ H Q I h
  refine isTrue_and (thn (ha pins s σ H Q I h) fun c s1 e => ?_)
  cases c with
  | true => exact isTrue_and_nil e
  | false => exact e
theorem pw_or1 (ha : PT X a tA) : PW X (.BoolOp .Or [a] pos) tA := by
  intro wh pins s σ H Q I h
  refine isTrue_or (thn (ha pins s σ H Q I h) fun c s1 e => ?_)
  cases c with
  | false => exact isTrue_or_nil e
  | true => exact e
theorem pw_and (ha : PT X a tA) (hb : PW X (.BoolOp .And (b :: rest) pos) tB') : PW X (.BoolOp .And (a :: b :: rest) pos) (tAnd tA tB') := by
  intro wh pins s σ H Q I h
  refine isTrue_and (thn (ha pins s σ H _ I h) fun c s1 ⟨H1, I1, q1⟩ => ?_)
  cases c with
  | true => exact hb wh pins s1 σ H1 Q I1 q1
  | false => exact ⟨H1, I1, q1⟩
theorem pw_or (ha : PT X a tA) (hb : PW X (.BoolOp .Or (b :: rest) pos) tB') : PW X (.BoolOp .Or (a :: b :: rest) pos) (tOr tA tB') := by
  intro wh pins s σ H Q I h
  refine isTrue_or (thn (ha pins s σ H _ I h) fun c s1 ⟨H1, I1, q1⟩ => ?_)
  cases c with
  | true => exact ⟨H1, I1, q1⟩
  | false => exact hb wh pins s1 σ H1 Q I1 q1
theorem pt_not (ha : PT X a tA) : PT X (.UnaryOp .Not a pos) (tNot tA) := by
  intro pins s σ H Q I h
  exact isTrue_not (ha pins s σ H (fun c H1 => Q (!c) H1) I h)
/-- .. as values (bools) -/
def tAndV (ta tb : TE) : TE := fun σ H Q => ta σ H fun x H1 => ∃ c, x = .bl c ∧ if c = true then tb σ H1 Q else Q (.bl false) H1
def tOrV (ta tb : TE) : TE := fun σ H Q => ta σ H fun x H1 => ∃ c, x = .bl c ∧ if c = true then Q (.bl true) H1 else tb σ H1 Q
def tNotV (ta : TE) : TE := fun σ H Q => ta σ H fun x H1 => ∃ c, x = .bl c ∧ Q (.bl (!c)) H1
theorem pe_one {op} {t : TE} (h : PE X a t) : PE X (.BoolOp op [a] pos) t := fun pins s σ H Q I hw => BoolOp_one (h pins s σ H Q I hw)
theorem pe_and (ha : PE X a ta) (hb : PE X (.BoolOp .And (b :: rest) pos) tb) : PE X (.BoolOp .And (a :: b :: rest) pos) (tAndV ta tb) := by
  intro pins s σ H Q I h
  refine BoolOp_and (thn (ha pins s σ H _ I h) fun v s1 ⟨x, H1, I1, r1, q1⟩ => ?_)
  obtain ⟨c, rfl, q1⟩ := q1
  cases r1
  refine wpAny_truthy_bool ?_
  cases c with
  | true => exact hb pins s1 σ H1 Q I1 q1
  | false => exact ⟨.bl false, H1, I1, rfl, q1⟩
theorem pe_or (ha : PE X a ta) (hb : PE X (.BoolOp .Or (b :: rest) pos) tb) : PE X (.BoolOp .Or (a :: b :: rest) pos) (tOrV ta tb) := by
  intro pins s σ H Q I h
  refine BoolOp_or (thn (ha pins s σ H _ I h) fun v s1 ⟨x, H1, I1, r1, q1⟩ => ?_)
  obtain ⟨c, rfl, q1⟩ := q1
  cases r1
  refine wpAny_truthy_bool ?_
  cases c with
  | false => exact hb pins s1 σ H1 Q I1 q1
  | true => exact ⟨.bl true, H1, I1, rfl, q1⟩
theorem pe_not (ha : PE X a ta) : PE X (.UnaryOp .Not a pos) (tNotV ta) := by
  intro pins s σ H Q I h
  refine UnaryOp_ (thn (ha pins s σ H _ I h) fun v s1 ⟨x, H1, I1, r1, q1⟩ => ?_)
  obtain ⟨c, rfl, q1⟩ := q1
  cases r1
  exact not_of (wpAny_truthy_bool ⟨.bl (!c), H1, I1, rfl, q1⟩)
/-- a if t else b -/
def tIf (t : TT) (ta tb : TE) : TE := fun σ H Q => t σ H fun c H1 => if c = true then ta σ H1 Q else tb σ H1 Q
theorem pe_ifExp {c : Expr} (hc : PT X c tA) (ha : PE X a ta) (hb : PE X b tb) : PE X (.IfExp c a b pos) (tIf tA ta tb) := by
  intro pins s σ H Q I h
  refine wpAny_IfExp (thn (hc pins s σ H _ I h) fun d s1 ⟨H1, I1, q1⟩ => ?_)
  cases d with
  | true => exact ha pins s1 σ H1 Q I1 q1
  | false => exact hb pins s1 σ H1 Q I1 q1
end
end L2

namespace L2
open PySem PySem.Spec PyProof.Rows

/-! ### a list, a tuple that is read: tracked, frozen, or an object of the module -/
def SqL (K : PySem.W.Frag) (H : Hp) (a : Addr) (xs : List V) : Prop :=
  Rd H a (.lst xs) ∨
    ∃ (o : Obj) (its : Array Value) (n : Nat), K.lookup a = some o ∧ o.cls = .type "list" ∧ o.dict = none ∧ o.data = .seq its n ∧ its.size ≤ sizeLine ∧ Vals xs its.toList
def SqT (K : PySem.W.Frag) (H : Hp) (a : Addr) (xs : List V) : Prop :=
  Rd H a (.tup xs) ∨
    ∃ (o : Obj) (its : Array Value) (n : Nat), K.lookup a = some o ∧ o.cls = .type "tuple" ∧ o.data = .seq its n ∧ its.size ≤ sizeLine ∧ Vals xs its.toList
def absV : Value → Option V
  | .none => some .non
  | .bool b => some (.bl b)
  | .int i _ => some (.int i)
  | .str x _ => some (.str x)
  | .bytes b _ => some (.byt b)
  | .float b _ => some (.flt b)
  | .ref a => some (.ref a)
  | .type n => some (.ty n)
  | _ => none
theorem RelV.abs {x : V} {u : Value} (r : RelV x u) : absV u = some x := by
  cases x with
  | non => cases r; rfl
  | bl _ => cases r; rfl
  | int _ => obtain ⟨t, rfl⟩ := r; rfl
  | str _ => obtain ⟨t, rfl⟩ := r; rfl
  | byt _ => obtain ⟨t, rfl⟩ := r; rfl
  | flt _ => obtain ⟨t, rfl⟩ := r; rfl
  | ref _ => cases r; rfl
  | ty _ => cases r; rfl
theorem RelV.inj {x y : V} {u : Value} (r : RelV x u) (q : RelV y u) : x = y := Option.some.inj (r.abs.symm.trans q.abs)
theorem Vals.inj : ∀ {xs ys : List V} {us : List Value}, Vals xs us → Vals ys us → xs = ys
  | _, _, _, .nil, .nil => rfl
  | _, _, _, .cons r t, .cons r' t' => by rw [r.inj r', Vals.inj t t']
section
variable {X : Cx} {pins : List (Addr × Obj)} {σ : St} {H : Hp} {s : Shared} {a : Addr} {xs ys : List V}
theorem SqL.of {K : PySem.W.Frag} (h : H a = some (.lst xs)) : SqL K H a xs := .inl (.inl h)
theorem SqT.of {K : PySem.W.Frag} (h : H a = some (.tup xs)) : SqT K H a xs := .inl (.inl h)
theorem Inv.list (I : Inv X pins σ H s) (h : SqL X.K H a xs) : ∃ its : List Value, Vals xs its ∧ PlainL s.heap a its.toArray ∧ xs.length ≤ sizeLine := by
  rcases h with h | ⟨o, its, n, hk, hc, hd, hs, hz, r⟩
  · obtain ⟨z, its, n, r, e⟩ := h.ok I.hok
    exact ⟨its, r, ⟨_, n, e, rfl, rfl, rfl⟩, z⟩
  · refine ⟨its.toList, r, ⟨o, n, I.kIn a o hk, hc, hd, by simpa using hs⟩, ?_⟩
    have e := r.length
    simp only [Array.length_toList] at e
    omega
theorem Inv.tuple (I : Inv X pins σ H s) (h : SqT X.K H a xs) : ∃ its : List Value, Vals xs its ∧ IsTup s.heap a its.toArray ∧ xs.length ≤ sizeLine := by
  rcases h with h | ⟨o, its, n, hk, hc, hs, hz, r⟩
  · obtain ⟨z, its, r, p⟩ := h.ok I.hok
    exact ⟨its, r, p, z⟩
  · refine ⟨its.toList, r, ⟨o, I.kIn a o hk, hc, n, by simpa using hs⟩, ?_⟩
    have e := r.length
    simp only [Array.length_toList] at e
    omega
theorem Inv.list_inj (I : Inv X pins σ H s) (h : SqL X.K H a xs) (h' : SqL X.K H a ys) : xs = ys := by
  obtain ⟨its, r, ⟨o, n, e, _, _, d⟩, _⟩ := I.list h
  obtain ⟨its', r', ⟨o', n', e', _, _, d'⟩, _⟩ := I.list h'
  rw [e] at e'; cases e'
  rw [d] at d'
  injection d' with d1 _
  have : its = its' := by simpa using congrArg Array.toList d1
  subst this
  exact r.inj r'
theorem Inv.tuple_inj (I : Inv X pins σ H s) (h : SqT X.K H a xs) (h' : SqT X.K H a ys) : xs = ys := by
  obtain ⟨its, r, ⟨o, e, _, n, d⟩, _⟩ := I.tuple h
  obtain ⟨its', r', ⟨o', e', _, n', d'⟩, _⟩ := I.tuple h'
  rw [e] at e'; cases e'
  rw [d] at d'
  injection d' with d1 _
  have : its = its' := by simpa using congrArg Array.toList d1
  subst this
  exact r.inj r'
end

/-! ### another wish about exceptions -/
abbrev Cx.wish (X : Cx) (E : Value → Shared → Prop) : Cx := { X with xe := E }
/-- no exception leaves -/
abbrev Cx.nox (X : Cx) : Cx := X.wish fun _ _ => False
theorem Cx.Ok.wish {X : Cx} (ok : X.Ok) (E : Value → Shared → Prop) : (X.wish E).Ok :=
  ⟨ok.mod, ok.kind, ok.glob, ok.blt, ok.above, ok.inj, ok.has, ok.cab, ok.hd, ok.frames, ok.stk, ok.exf, ok.bs, ok.bsz, ok.noex, ok.exfs, ok.funs, ok.frf⟩
theorem Cx.Ok.unwish {X : Cx} {E : Value → Shared → Prop} (ok : (X.wish E).Ok) : X.Ok :=
  ⟨ok.mod, ok.kind, ok.glob, ok.blt, ok.above, ok.inj, ok.has, ok.cab, ok.hd, ok.frames, ok.stk, ok.exf, ok.bs, ok.bsz, ok.noex, ok.exfs, ok.funs, ok.frf⟩
section
variable {X : Cx} {pins : List (Addr × Obj)} {σ : St} {H : Hp} {s : Shared} {E : Value → Shared → Prop}
theorem Inv.wish (I : Inv X pins σ H s) (E : Value → Shared → Prop) : Inv (X.wish E) pins σ H s := ⟨I.ok.wish E, I.os, I.bare, I.base, I.loc, I.cell, I.free, I.freeC, I.pin, I.hok, I.len⟩
theorem Inv.unwish (I : Inv (X.wish E) pins σ H s) : Inv X pins σ H s := ⟨I.ok.unwish, I.os, I.bare, I.base, I.loc, I.cell, I.free, I.freeC, I.pin, I.hok, I.len⟩
theorem SP.unwish {D : Ends} {f : Flow} {s' : Shared} (h : SP (X.wish E) pins D f s') : SP X pins D f s' := by
  cases f with
  | next => obtain ⟨σ', H', I, q⟩ := h; exact ⟨σ', H', I.unwish, q⟩
  | brk => obtain ⟨σ', H', I, q⟩ := h; exact ⟨σ', H', I.unwish, q⟩
  | cont => obtain ⟨σ', H', I, q⟩ := h; exact ⟨σ', H', I.unwish, q⟩
  | ret u => obtain ⟨v, σ', H', I, r, q⟩ := h; exact ⟨v, σ', H', I.unwish, r, q⟩
theorem PE.nox {e : Expr} {t : TE} (h : PE X.nox e t) : PE X e t := fun pins s σ H Q I hw =>
  wpAny_mono (h pins s σ H Q (I.wish _) hw) (fun _ _ ⟨v, H', I', r, q⟩ => ⟨v, H', I'.unwish, r, q⟩) fun _ _ z => False.elim z
theorem PT.nox {e : Expr} {t : TT} (h : PT X.nox e t) : PT X e t := fun pins s σ H Q I hw =>
  wpAny_mono (h pins s σ H Q (I.wish _) hw) (fun _ _ ⟨H', I', q⟩ => ⟨H', I'.unwish, q⟩) fun _ _ z => False.elim z
theorem PSs.nox {st : List Stmt} {t : TS} (h : PSs X.nox st t) : PSs X st t := fun pins s σ H D I hw =>
  wpAny_mono (h pins s σ H D (I.wish _) hw) (fun _ _ q => q.unwish) fun _ _ z => False.elim z
end

/-! ### blocks and small statements -/
section
variable {X : Cx} {st : Stmt} {rest : List Stmt} {t u : TS} {e : Expr} {te : TE} {pos : Pos}
def tNext : TS := fun D σ H => D.nx σ H
def tSeq (t u : TS) : TS := fun D σ H => t { D with nx := u D } σ H
theorem pss_nil : PSs X [] tNext := fun _ _ σ H _ I h => wpAny_execs_nil ⟨σ, H, I, h⟩
theorem pss_cons (h1 : PS X st t) (h2 : PSs X rest u) : PSs X (st :: rest) (tSeq t u) := by
  intro pins s σ H D I h
  refine wpAny_execs_cons (thn (h1 pins s σ H { D with nx := u D } I h) fun f s1 q => ?_)
  cases f with
  | next =>
    obtain ⟨σ', H', I', q⟩ := q
    exact h2 pins s1 σ' H' D I' q
  | ret v => exact q
  | brk => exact q
  | cont => exact q
theorem pss_one (h1 : PS X st t) : PSs X [st] t := by
  intro pins s σ H D I h
  refine wpAny_execs_cons (thn (h1 pins s σ H D I h) fun f s1 q => ?_)
  cases f with
  | next => exact wpAny_execs_nil q
  | ret v => exact q
  | brk => exact q
  | cont => exact q
def tBreak : TS := fun D σ H => D.bk σ H
def tCont : TS := fun D σ H => D.ct σ H
theorem ps_pass : PS X (.Pass pos) tNext := fun _ _ σ H _ I h => wpAny_Pass ⟨σ, H, I, h⟩
theorem ps_break : PS X (.Break pos) tBreak := fun _ _ σ H _ I h => wpAny_Break ⟨σ, H, I, h⟩
theorem ps_continue : PS X (.Continue pos) tCont := fun _ _ σ H _ I h => wpAny_Continue ⟨σ, H, I, h⟩
/-- in a def's body nothing is shown -/
theorem Inv.quiet {pins : List (Addr × Obj)} {σ : St} {H : Hp} {s : Shared} (I : Inv X pins σ H s) : interactive X.env = false := by simp [interactive, I.ok.kind]
/-- a docstring -/
theorem ps_doc {x j pos pos'} : PS X (.Expr (.Constant (.str x) j pos) pos') tNext := fun _ s σ H _ I h => wpAny_Expr (Calls.Constant_str (show SP X _ _ .next { s with toks := s.toks + 1 } from ⟨σ, H, I.tok _, h⟩)) I.quiet
/-- an expression whose value is dropped -/
def tDrop (te : TE) : TS := fun D σ H => te σ H fun _ H1 => D.nx σ H1
theorem ps_expr (he : PE X e te) (hs : swapsWith e none pos.line X.env = pure false := by rfl) : PS X (.Expr e pos) (tDrop te) := by
  intro pins s σ H D I h
  exact wpAny_Expr_any (thn (he pins s σ H _ I h) fun v s1 ⟨x, H1, I1, r1, q1⟩ => ⟨σ, H1, I1, q1⟩) I.quiet hs
def tRet (te : TE) : TS := fun D σ H => te σ H D.rt
theorem ps_ret (he : PE X e te) : PS X (.Return (some e) pos) (tRet te) := by
  intro pins s σ H D I h
  exact wpAny_Return_some (thn (he pins s σ H _ I h) fun v s1 ⟨x, H1, I1, r1, q1⟩ => ⟨x, σ, H1, I1, r1, q1⟩)
def tRetN : TS := fun D _ H => D.rt .non H
theorem ps_retN : PS X (.Return none pos) tRetN := fun _ _ σ H _ I h => wpAny_Return_none ⟨.non, σ, H, I, rfl, h⟩
def tIfS (c : TT) (t u : TS) : TS := fun D σ H => c σ H fun b H1 => if b = true then t D σ H1 else u D σ H1
theorem ps_if {c : Expr} {a b : List Stmt} {tc : TT} (hc : PT X c tc) (ha : PSs X a t) (hb : PSs X b u) : PS X (.If c a b pos) (tIfS tc t u) := by
  intro pins s σ H D I h
  refine wpAny_If (thn (hc pins s σ H _ I h) fun d s1 ⟨H1, I1, q1⟩ => ?_)
  cases d with
  | true => exact ha pins s1 σ H1 D I1 q1
  | false => exact hb pins s1 σ H1 D I1 q1
/-- code that the proof never comes to -/
def tNever : TS := fun _ _ _ => False
theorem ps_never : PS X st tNever := fun _ _ _ _ _ _ h => h.elim
theorem pss_never {sts : List Stmt} : PSs X sts tNever := fun _ _ _ _ _ _ h => h.elim
end

/-! ### targets -/
abbrev TG := V → St → Hp → (St → Hp → Prop) → Prop
abbrev TGs := List V → St → Hp → (St → Hp → Prop) → Prop
def PG (X : Cx) (target : Expr) (t : TG) : Prop :=
  ∀ (pins : List (Addr × Obj)) (s : Shared) (σ : St) (H : Hp) (v : V) (u : Value) (Q : St → Hp → Prop), Inv X pins σ H s → RelV v u → t v σ H Q →
    wpAny (model X.prog X.w) X.A (assign target X.env u) (fun _ s' => ∃ σ' H', Inv X pins σ' H' s' ∧ Q σ' H') X.xe s
/-- several targets, one after another -/
def PGs (X : Cx) (ts : List Expr) (t : TGs) : Prop :=
  ∀ (pins : List (Addr × Obj)) (s : Shared) (σ : St) (H : Hp) (vs : List V) (us : List Value) (Q : St → Hp → Prop), Inv X pins σ H s → Vals vs us → t vs σ H Q →
    wpAny (model X.prog X.w) X.A (assignInOrder ((assignEach ts X.env).map (·.2)) us) (fun _ s' => ∃ σ' H', Inv X pins σ' H' s' ∧ Q σ' H') X.xe s
/-- o[i] = v, by values -/
abbrev TSet := V → V → V → Hp → (Hp → Prop) → Prop
def PSet (X : Cx) (t : TSet) : Prop :=
  ∀ (pins : List (Addr × Obj)) (s : Shared) (σ : St) (H : Hp) (o i v : V) (ov iv u : Value) (Q : Hp → Prop), Inv X pins σ H s → RelV o ov → RelV i iv → RelV v u → t o i v H Q →
    wpAny (model X.prog X.w) X.A (setItem ov iv u) (fun _ s' => ∃ H', Inv X pins σ H' s' ∧ Q H') X.xe s
/-- a op= b, by values -/
abbrev TIp := V → V → Hp → VK → Prop
def PIp (X : Cx) (op : Operator) (t : TIp) : Prop :=
  ∀ (pins : List (Addr × Obj)) (s : Shared) (σ : St) (H : Hp) (x y : V) (v u : Value) (Q : VK), Inv X pins σ H s → RelV x v → RelV y u → t x y H Q →
    wpAny (model X.prog X.w) X.A (inplaceOp op v u) (EP X pins σ Q) X.xe s
section
variable {X : Cx} {pos : Pos}
def gName (i : Nat) : TG := fun v σ H Q => Q (σ.set i (some v)) H
theorem pg_name {i : Nat} {x : Str} (hN : X.N.Nodup) (hi : X.N[i]? = some x) (hx : Loc X.env.scope x) (hf : X.fn x = true ∨ X.env.scope.names.lookup x = some .local := by first | exact .inl rfl | exact .inr rfl | assumption) : PG X (.Name x pos) (gName i) := by
  intro pins s σ H v u Q I r h
  exact wpAny_assign_Name (store_ok I hN hi hx r (fun s' I' => ⟨_, H, I', h⟩) hf)
def gNil : TGs := fun vs σ H Q => vs = [] ∧ Q σ H
def gCons (t : TG) (u : TGs) : TGs := fun vs σ H Q => ∃ v r, vs = v :: r ∧ t v σ H fun σ' H' => u r σ' H' Q
theorem pgs_nil : PGs X [] gNil := by
  intro pins s σ H vs us Q I r h
  obtain ⟨e, h⟩ := h
  subst e
  cases r
  exact assignInOrder_nil ⟨σ, H, I, h⟩
theorem pgs_cons {e : Expr} {es : List Expr} {t : TG} {u : TGs} (h1 : PG X e t) (h2 : PGs X es u)
    (hs : (assignEach (e :: es) X.env).map (·.2) = assign e X.env :: (assignEach es X.env).map (·.2) := by rfl) : PGs X (e :: es) (gCons t u) := by
  intro pins s σ H vs us Q I r h
  obtain ⟨v, vr, e1, h⟩ := h
  subst e1
  cases r with
  | cons r rr =>
    rw [hs]
    refine assignInOrder_cons (thn (h1 pins s σ H _ _ _ I r h) fun _ s1 ⟨σ1, H1, I1, q1⟩ => ?_)
    exact h2 pins s1 σ1 H1 _ _ Q I1 rr q1
/-- (a, b, ..) = a tuple of that length -/
def gTup (K : PySem.W.Frag) (n : Nat) (t : TGs) : TG := fun v σ H Q => ∃ a xs, v = .ref a ∧ SqT K H a xs ∧ xs.length = n ∧ t xs σ H Q
theorem pg_tup {es : List Expr} {k : Nat} {t : TGs} {n : Nat} (hc : X.calm = true) (h : PGs X es t)
    (hn : (assignEach es X.env).length = n := by rfl) (hst : (assignEach es X.env).findIdx? (·.1) = none := by rfl) : PG X (.Tuple es k pos) (gTup X.K n t) := by
  intro pins s σ H v u Q I r hw
  obtain ⟨a, xs, e1, hq, hl, hw⟩ := hw
  subst e1
  cases r
  obtain ⟨its, rv, ht, hz⟩ := I.tuple hq
  refine assign_Tuple_tuple (I.ok.hd hc) ht (by simp [hn, ← hl, rv.length]) hst fun h' hx => ?_
  have I1 : Inv X pins σ H { s with heap := h' } := I.kept (t' := s.toks) fun b o e => hx b o (Nat.ne_of_lt (Heap.lt_size e)) e
  exact h pins _ σ H xs _ Q I1 (by simpa using rv) hw
/-- o[i] = .. -/
def gSub (to ti : TE) (t : TSet) : TG := fun v σ H Q => to σ H fun o H1 => ti σ H1 fun i H2 => t o i v H2 fun H3 => Q σ H3
theorem pg_sub {o i : Expr} {to ti : TE} {t : TSet} (ho : PE X o to) (hi : PE X i ti) (hs : PSet X t)
    (ha : ∀ v, assign (.Subscript o i pos) X.env v = (do
      let ov ← holding [v] (eval o X.env)
      let iv ← holding [v, ov] (eval i X.env)
      standAt pos
      holding [v, ov, iv] (setItem ov iv v)
      release [v, ov, iv] []) := by intro _; rfl) : PG X (.Subscript o i pos) (gSub to ti t) := by
  intro pins s σ H v u Q I r h
  rw [ha]
  refine wpAny_bind (wpAny_holding (thn (ho pins s σ H _ I h) fun ov s1 ⟨x, H1, I1, r1, q1⟩ => ?_))
  refine wpAny_bind (wpAny_holding (thn (hi pins s1 σ H1 _ I1 q1) fun iv s2 ⟨y, H2, I2, r2, q2⟩ => ?_))
  refine wpAny_bind (wpAny_standAt (wpAny_bind (wpAny_holding (thn (hs pins s2 σ H2 x y v ov iv u _ I2 r1 r2 r q2) fun _ s3 ⟨H3, I3, q3⟩ => ?_))))
  exact wpAny_release ⟨σ, H3, I3, q3⟩
/-- target = value -/
def tAsg (te : TE) (g : TG) : TS := fun D σ H => te σ H fun x H1 => g x σ H1 D.nx
theorem ps_asg {tg e : Expr} {te : TE} {g : TG} (he : PE X e te) (hg : PG X tg g) (hs : swapsWithSole [tg] e pos.line X.env = pure false := by rfl) (hw : swappedStores [tg] e X.env = pure none := by rfl)
    (h1 : (assignEach [tg] X.env).map (·.2) = [assign tg X.env] := by rfl) : PS X (.Assign [tg] e pos) (tAsg te g) := by
  intro pins s σ H D I h
  refine wpAny_Assign_stores (thn (he pins s σ H _ I h) fun v s1 ⟨x, H1, I1, r1, q1⟩ => ?_) hs hw
  rw [h1]
  exact thn (hg pins s1 σ H1 x v _ I1 r1 q1) fun _ s2 q => q
/-- name = value -/
theorem ps_set {i : Nat} {x : Str} {e : Expr} {te : TE} {pos' : Pos} (hN : X.N.Nodup) (hi : X.N[i]? = some x) (hx : Loc X.env.scope x) (he : PE X e te) (hs : swapsWith e (some (.Name x pos')) pos.line X.env = pure false := by rfl) (hf : X.fn x = true ∨ X.env.scope.names.lookup x = some .local := by first | exact .inl rfl | exact .inr rfl | assumption) :
    PS X (.Assign [.Name x pos'] e pos) (tAsg te (gName i)) := by
  intro pins s σ H D I h
  refine wpAny_Assign_Name (thn (he pins s σ H _ I h) fun v s1 ⟨y, H1, I1, r1, q1⟩ => ?_) hs
  exact store_ok I1 hN hi hx r1 (fun s2 I2 => ⟨_, H1, I2, q1⟩) hf
/-- a, b = x, y with plain local names: stored from the right; the pair itself is not tracked (the opening rows as in PyProof/Rows/TupAssign.lean:23) -/
def tPar (i j : Nat) (ta : TA) : TS := fun D σ H => ta σ H fun vs H1 => ∃ v w, vs = [v, w] ∧ D.nx ((σ.set i (some v)).set j (some w)) H1
theorem ps_par {i j : Nat} {x y : Str} {a b : Expr} {ta : TA} {px py pt : Pos} {kt k2 pt2} (hc : X.calm = true) (hN : X.N.Nodup) (hi : X.N[i]? = some x) (hj : X.N[j]? = some y) (hij : i ≠ j)
    (hx : X.env.scope.names.lookup x = some .local) (hy : X.env.scope.names.lookup y = some .local) (ha : PA X [a, b] ta)
    (hw : swappedStores [.Tuple [.Name x px, .Name y py] kt pt] (.Tuple [a, b] k2 pt2) X.env = pure (some [x, y]))
    (hs : swapsWithSole [.Tuple [.Name x px, .Name y py] kt pt] (.Tuple [a, b] k2 pt2) pos.line X.env = pure false := by rfl) :
    PS X (.Assign [.Tuple [.Name x px, .Name y py] kt pt] (.Tuple [a, b] k2 pt2) pos) (tPar i j ta) := by
  intro pins s σ H D I h
  rw [exec_Assign_arm]
  refine wpAny_bind (wpAny_standAt ?_)
  rw [hs]
  refine wpAny_bind (wpAny_pure ?_)
  rw [if_neg (by decide)]
  refine wpAny_bind (Tuple_ (thn (ha _ pins s σ H _ I h) fun us s1 ⟨vs, H1, I1, r1, q1⟩ => ?_))
  obtain ⟨v, w, e1, q1⟩ := q1
  subst e1
  obtain ⟨u1, u2, rfl, rv, rw'⟩ : ∃ u1 u2, us = [u1, u2] ∧ RelV v u1 ∧ RelV w u2 := by
    cases r1 with
    | cons p q =>
      cases q with
      | cons p' q' =>
        cases q'
        exact ⟨_, _, rfl, p, p'⟩
  refine wpAny_newObj_type ?_ (by show 2 ≤ sizeLine; decide)
  have I2 : Inv X pins σ H1 { s1 with heap := s1.heap.push { cls := .type "tuple", data := .seq [u1, u2].toArray } } := I1.kept (t' := s1.toks) fun b o e => Heap.get?_push_of_some _ e
  rw [hw]
  refine wpAny_bind (wpAny_pure ?_)
  show wpAny (model X.prog X.w) X.A (do rule "assign.swapped-stores"; let items ← unpackItems (.ref s1.heap.objs.size) 2 none; assignInOrder [fun v => bindName X.env y v, fun v => bindName X.env x v] items.reverse; pure Flow.next) _ _ _
  refine wpAny_bind (wpAny_rule (wpAny_bind (unpackItems_tuple (items := #[u1, u2]) (I.ok.hd hc) (IsTup.new s1.heap _) fun h' hx' => ?_)))
  have I3 := I2.kept (h' := h') (t' := s1.toks) fun b o e => hx' b o (Nat.ne_of_lt (Heap.lt_size e)) e
  show wpAny _ _ (assignInOrder [fun v => bindName X.env y v, fun v => bindName X.env x v] [u2, u1] >>= fun _ => pure Flow.next) _ _ _
  refine wpAny_bind (assignInOrder_cons (wpAny_bindName (store_ok I3 hN hj (.inl hy) rw' (fun s2 I4 => ?_) (.inr hy))))
  refine assignInOrder_cons (wpAny_bindName (store_ok I4 hN hi (.inl hx) rv (fun s3 I5 => assignInOrder_nil (wpAny_pure ?_)) (.inr hx)))
  rw [List.set_comm _ _ (Ne.symm hij)] at I5
  exact ⟨_, H1, I5, q1⟩
/-- name op= e -/
def tAug (i : Nat) (te : TE) (ti : TIp) : TS := fun D σ H => ∃ x, σ[i]? = some (some x) ∧ te σ H fun y H1 => ti x y H1 fun z H2 => D.nx (σ.set i (some z)) H2
theorem ps_aug {i : Nat} {x : Str} {e : Expr} {te : TE} {op : Operator} {ti : TIp} {pos' : Pos} (hN : X.N.Nodup) (hi : X.N[i]? = some x) (hx : Loc X.env.scope x) (he : PE X e te) (ho : PIp X op ti) (hf : X.fn x = true ∨ X.env.scope.names.lookup x = some .local := by first | exact .inl rfl | exact .inr rfl | assumption) :
    PS X (.AugAssign (.Name x pos') op e pos) (tAug i te ti) := by
  intro pins s σ H D I h
  obtain ⟨v, e1, h⟩ := h
  obtain ⟨m, hn, hl⟩ := I.loc
  have vis : Vis X.env.scope x := by rcases hx with k | k; exact .inl k; exact .inr (.inl k)
  obtain ⟨u, r, l⟩ := hl i x v hi e1 vis
  refine wpAny_AugAssign_Name ?_
  have go : wpAny (model X.prog X.w) X.A (eval e X.env) (fun w s₂ => wpAny (model X.prog X.w) X.A (inplaceOp op u w) (fun r s₃ => wpAny (model X.prog X.w) X.A (storeName X.env x r) (fun _ => SP X pins D .next) X.xe s₃) X.xe s₂) X.xe s := by
    refine thn (he pins s σ H _ I h) fun w s1 ⟨y, H1, I1, r1, q1⟩ => ?_
    refine thn (ho pins s1 σ H1 v y u w _ I1 r r1 q1) fun z s2 ⟨zv, H2, I2, r2, q2⟩ => ?_
    exact store_ok I2 hN hi hx r2 (fun s3 I3 => ⟨_, H2, I3, q2⟩) hf
  rcases l with ⟨hk, hm⟩ | ⟨hk, c, hc, hcell⟩
  · exact wpAny_loadName_local I.ok.kind hk hn hm go
  · rcases hk with hk | hk
    · exact wpAny_loadName_cell I.ok.kind hk hc hcell go
    · rcases hx with k | k
      · have : X.env.scope.names.lookup x = some .free := hk
        rw [k] at this; cases this
      · have : X.env.scope.names.lookup x = some .free := hk
        rw [k] at this; cases this
/-- o[i] op= e -/
def tAugS (to ti te : TE) (tget : V → V → Hp → VK → Prop) (tip : TIp) (tset : TSet) : TS := fun D σ H => to σ H fun o H1 => ti σ H1 fun i H2 => tget o i H2 fun x H3 => te σ H3 fun y H4 => tip x y H4 fun z H5 => tset o i z H5 fun H6 => D.nx σ H6
/-- o[i], by values -/
def PGet (X : Cx) (t : V → V → Hp → VK → Prop) : Prop :=
  ∀ (pins : List (Addr × Obj)) (s : Shared) (σ : St) (H : Hp) (o i : V) (ov iv : Value) (Q : VK), Inv X pins σ H s → RelV o ov → RelV i iv → t o i H Q →
    wpAny (model X.prog X.w) X.A (getItem ov iv) (EP X pins σ Q) X.xe s
theorem ps_augS {o i e : Expr} {to ti te : TE} {tget : V → V → Hp → VK → Prop} {tip : TIp} {tset : TSet} {op : Operator} {tpos : Pos} (ho : PE X o to) (hi : PE X i ti) (hg : PGet X tget) (he : PE X e te) (hp : PIp X op tip) (hs : PSet X tset)
    (ha : ∀ ov iv new, augStore i ov iv new = (do holding [new, ov, iv] (setItem ov iv new); release [new, ov, iv] []; pure .next) := by intros; rfl) : PS X (.AugAssign (.Subscript o i tpos) op e pos) (tAugS to ti te tget tip tset) := by
  intro pins s σ H D I h
  refine wpAny_AugAssign_SubscriptAny (thn (ho pins s σ H _ I h) fun ov s1 ⟨x1, H1, I1, r1, q1⟩ => ?_) ha
  refine thn (hi pins s1 σ H1 _ I1 q1) fun iv s2 ⟨x2, H2, I2, r2, q2⟩ => ?_
  refine thn (hg pins s2 σ H2 x1 x2 ov iv _ I2 r1 r2 q2) fun old s3 ⟨x3, H3, I3, r3, q3⟩ => ?_
  refine thn (he pins s3 σ H3 _ I3 q3) fun v s4 ⟨x4, H4, I4, r4, q4⟩ => ?_
  refine thn (hp pins s4 σ H4 x3 x4 old v _ I4 r3 r4 q4) fun new s5 ⟨x5, H5, I5, r5, q5⟩ => ?_
  exact thn (hs pins s5 σ H5 x1 x2 x5 ov iv new _ I5 r1 r2 r5 q5) fun _ s6 ⟨H6, I6, q6⟩ => ⟨σ, H6, I6, q6⟩
/-- ints -/
def ipI (f : Int → Int → Int) : TIp := fun x y H Q => ∃ i j, x = .int i ∧ y = .int j ∧ Q (.int (f i j)) H
theorem ip_add : PIp X .Add (ipI fun i j => i + j) := by
  intro pins s σ H x y v u Q I r1 r2 h
  obtain ⟨i, j, e1, e2, q⟩ := h
  subst e1; subst e2
  obtain ⟨t, rfl⟩ := r1
  obtain ⟨t', rfl⟩ := r2
  exact iadd_int ⟨.int _, H, I.tok _, ⟨_, rfl⟩, q⟩
theorem ip_sub : PIp X .Sub (ipI fun i j => i - j) := by
  intro pins s σ H x y v u Q I r1 r2 h
  obtain ⟨i, j, e1, e2, q⟩ := h
  subst e1; subst e2
  obtain ⟨t, rfl⟩ := r1
  obtain ⟨t', rfl⟩ := r2
  exact isub_int ⟨.int _, H, I.tok _, ⟨_, rfl⟩, q⟩
end

/-! ### while -/
section
variable {X : Cx} {pos : Pos}
/-- the invariant W with its measure -/
def tWhile (c : TT) (tb : TS) : TS := fun D σ H => ∃ W : Nat → St → Hp → Prop, (∃ m, W m σ H) ∧ ∀ m σ H, W m σ H →
  c σ H fun b H1 => if b = true then ∃ N : St → Hp → Prop, (∀ σ' H', N σ' H' → ∃ m', m' < m ∧ W m' σ' H') ∧ tb { D with nx := N, ct := N, bk := D.nx } σ H1 else D.nx σ H1
theorem ps_while {c : Expr} {body : List Stmt} {tc : TT} {tb : TS} (hp : PassesOwn (model X.prog X.w) X.A X.env X.xe) (hc : PT X c tc) (hb : PSs X body tb) : PS X (.While c body [] pos) (tWhile tc tb) := by
  intro pins s σ H D I h
  obtain ⟨W, ⟨m0, w0⟩, turn⟩ := h
  refine wpAny_While (codeAny_whileLoop (fun n s' => ∃ σ' H', Inv X pins σ' H' s' ∧ W n σ' H') ?_ m0 ⟨σ, H, I, w0⟩)
  rintro n s1 ⟨σ1, H1, I1, w1⟩
  refine wpAny_passesOwn hp (thn (hc pins s1 σ1 H1 _ I1 (turn n σ1 H1 w1)) fun b s2 ⟨H2, I2, q2⟩ => ?_)
  cases b with
  | true =>
    obtain ⟨N, hN, q2⟩ := q2
    rw [if_pos rfl]
    refine wpAny_passesOwn hp (thn (hb pins s2 σ1 H2 _ I2 q2) fun f s3 q3 => ?_)
    cases f with
    | next =>
      obtain ⟨σ3, H3, I3, n3⟩ := q3
      obtain ⟨m', hm, w3⟩ := hN σ3 H3 n3
      exact ⟨m', hm, σ3, H3, I3, w3⟩
    | cont =>
      obtain ⟨σ3, H3, I3, n3⟩ := q3
      obtain ⟨m', hm, w3⟩ := hN σ3 H3 n3
      exact ⟨m', hm, σ3, H3, I3, w3⟩
    | brk => exact q3
    | ret v => exact q3
  | false =>
    rw [if_neg Bool.false_ne_true]
    exact wpAny_execs_nil ⟨σ1, H2, I2, q2⟩
end

/-! ### what a loop or a comprehension walks -/
/-- at turn i: it yields x (the heap may grow), or it stops -/
structure It where
  go : Nat → Hp → Prop
  yld : Nat → Hp → V → Hp → Prop
  stop : Nat → Hp → Prop
/-- the iterator's own objects may turn: they are not the frame's, not pinned, younger than the entry (or a comprehension's own) -/
def FpOk (X : Cx) (pins : List (Addr × Obj)) (H : Hp) (b : Addr) : Prop :=
  H b = none ∧ b ≠ X.env.locals ∧ b ∉ X.fs ∧ (b ∈ X.ex ∨ X.s₀.heap.objs.size ≤ b) ∧ (∀ x c, X.env.cells.lookup x = some c → c ≠ b) ∧ ∀ p ∈ X.pn ++ pins, p.1 ≠ b
theorem Inv.fpOk {X : Cx} {pins : List (Addr × Obj)} {σ : St} {H H' : Hp} {s : Shared} {b : Addr} (I : Inv X pins σ H s) (hb : s.heap.objs.size ≤ b) (hn : H' b = none) : FpOk X pins H' b := by
  refine ⟨hn, Nat.ne_of_gt (Nat.lt_of_lt_of_le I.lt hb), I.nofs hb, .inr (Nat.le_trans I.sz hb), fun x c e z => ?_, fun p hp z => ?_⟩
  · obtain ⟨v, q⟩ := I.cell x c e
    exact absurd (Nat.lt_of_lt_of_le q.lt (by rw [z]; exact hb)) (Nat.lt_irrefl _)
  · exact absurd (Nat.lt_of_lt_of_le (Heap.lt_size (I.pin p hp).1) (by rw [z]; exact hb)) (Nat.lt_irrefl _)
structure Turn (P : Program) (w : World) (K : PySem.W.Frag) (tg : Expr) (J : It) (fp : List Addr) (it : Addr) (tn : Nat → Heap → Prop) : Prop where
  mem : it ∈ fp
  obj : ∀ i h, tn i h → ∀ b ∈ fp, ∃ o, h.get? b = some o ∧ ∀ v, o.data ≠ .cell v
  keep : ∀ i h h', tn i h → (∀ b ∈ fp, ∀ o, h.get? b = some o → h'.get? b = some o) → tn i h'
  item : ∀ (X : Cx), X.prog = P → X.w = w → X.K = K → X.calm = true → ∀ (i : Nat) (pins : List (Addr × Obj)) (s : Shared) (σ : St) (H : Hp) (E : Value → Shared → Prop), Inv X pins σ H s → (∀ b ∈ fp, FpOk X pins H b) → tn i s.heap → J.go i H →
    wpAny (model P w) X.A (pyNext (.ref it)) (fun r s1 => ∃ u, r = some u ∧
      wpAny (model P w) X.A (letOwnedTupleGo tg (.ref it) u) (fun _ s2 => ∃ x H', Inv X pins σ H' s2 ∧ RelV x u ∧ J.yld i H x H' ∧ tn (i + 1) s2.heap ∧ ∀ b ∈ fp, H' b = none) E s1) E s
  done : ∀ (X : Cx), X.prog = P → X.w = w → X.K = K → X.calm = true → ∀ (i : Nat) (pins : List (Addr × Obj)) (s : Shared) (σ : St) (H : Hp) (E : Value → Shared → Prop), Inv X pins σ H s → (∀ b ∈ fp, FpOk X pins H b) → tn i s.heap → J.stop i H →
    wpAny (model P w) X.A (pyNext (.ref it)) (fun r s1 => r = none ∧ Inv X pins σ H s1) E s
  self : ∀ (A : Around) (i : Nat) (s : Shared) (Q : Value → Shared → Prop) (E : Value → Shared → Prop), tn i s.heap → Q (.ref it) s → wpAny (model P w) A (pyIter (.ref it)) Q E s
abbrev TI := St → Hp → (It → Hp → Prop) → Prop
/-- an iterator has come -/
def PIE (X : Cx) (pins : List (Addr × Obj)) (σ : St) (tg : Expr) (R : It → Hp → Prop) (itv : Value) (s2 : Shared) : Prop :=
  ∃ (it : Addr) (fp : List Addr) (tn : Nat → Heap → Prop) (J : It) (H' : Hp), itv = .ref it ∧ Inv X pins σ H' s2 ∧ Turn X.prog X.w X.K tg J fp it tn ∧ tn 0 s2.heap ∧ (∀ b ∈ fp, FpOk X pins H' b) ∧ R J H'
def PI (X : Cx) (tg iter : Expr) (wi : TI) : Prop :=
  ∀ (pins : List (Addr × Obj)) (s : Shared) (σ : St) (H : Hp) (R : It → Hp → Prop), Inv X pins σ H s → wi σ H R →
    wpAny (model X.prog X.w) X.A (eval iter X.env) (fun v s1 => wpAny (model X.prog X.w) X.A (pyIter v) (PIE X pins σ tg R) X.xe s1) X.xe s

/-- the step ahead of the store is nothing for an iterator that keeps no tuple -/
theorem go_of {M : Model} {A : Around} {E : Value → Shared → Prop} {s : Shared} {tg : Expr} {it : Addr} {u : Value} {o : Obj} {n : String} {vs : Array Value} {Q : Unit → Shared → Prop} (ho : s.heap.get? it = some o) (hc : o.cls = .type n) (hd : o.data = .fields vs)
    (hn : ["enumerate", "zip", "dict_itemiterator", "dict_reverseitemiterator", "odict_iterator", "itertools.zip_longest", "itertools.pairwise"].contains n = false) (hQ : Q () s) : wpAny M A (letOwnedTupleGo tg (.ref it) u) Q E s := by
  unfold letOwnedTupleGo
  cases tg <;> first
    | exact wpAny_pure hQ
    | (cases u <;> first
        | exact wpAny_pure hQ
        | (refine wpAny_bind (wpAny_load ho ?_)
           rw [hc, hd]
           show wpAny M A (if (["enumerate", "zip", "dict_itemiterator", "dict_reverseitemiterator", "odict_iterator", "itertools.zip_longest", "itertools.pairwise"].contains n && vs[0]? == some (rawInt _)) = true then _ else _) Q E s
           rw [if_neg (by intro h; rw [hn, Bool.false_and] at h; cases h)]
           exact wpAny_pure hQ))

/-- the list at a, as it stands at each turn (a loop may append to it) -/
def Itl (K : PySem.W.Frag) (a : Addr) : It :=
  ⟨fun i H => ∃ xs x, SqL K H a xs ∧ xs[i]? = some x, fun i H x H' => H' = H ∧ ∀ xs, SqL K H a xs → xs[i]? = some x, fun i H => ∃ xs, SqL K H a xs ∧ xs.length ≤ i⟩
def Itt (K : PySem.W.Frag) (a : Addr) : It :=
  ⟨fun i H => ∃ xs x, SqT K H a xs ∧ xs[i]? = some x, fun i H x H' => H' = H ∧ ∀ xs, SqT K H a xs → xs[i]? = some x, fun i H => ∃ xs, SqT K H a xs ∧ xs.length ≤ i⟩
/-- lo, lo + 1, .. (n of them) -/
def Itr (lo : Int) (n : Nat) : It := ⟨fun i _ => i < n, fun i H x H' => H' = H ∧ x = .int (lo + i), fun i _ => n ≤ i⟩
theorem turn_list {P : Program} {w : World} {K : PySem.W.Frag} {tg : Expr} (a it : Addr) : Turn P w K tg (Itl K a) [it] it (fun i h => h.IsListIter it a i) where
  mem := by simp
  obj := fun i h st b hb => by
    have e : b = it := by simpa using hb
    subst e
    obtain ⟨o, e, c, d⟩ := st
    exact ⟨o, e, fun v z => by rw [d] at z; cases z⟩
  keep := fun i h h' st k => st.at fun o e => k it (by simp) o e
  item := by
    intro X hP hw hK hc i pins s σ H E I hf st hg
    subst hP hw hK
    obtain ⟨xs, x, hq, hx⟩ := hg
    obtain ⟨its, rv, p, hz⟩ := I.list hq
    obtain ⟨u, hu, ru⟩ := rv.get hx
    obtain ⟨f0, f1, f2, f3, f4, f5⟩ := hf it (by simp)
    refine wpAny_pyNext_list_item st p.isList (x := u) (by simpa using hu) fun h' st' sb => ?_
    have I1 : Inv X pins σ H { s with heap := h' } := I.turned (t' := s.toks) (fun b o hb e => (sb.2 b hb).trans e) f0 f1 f3 f4 f5
    obtain ⟨o, e, c, d⟩ := id st'
    exact ⟨u, rfl, go_of (s := { s with heap := h' }) e c d (by decide) ⟨x, H, I1, ru, ⟨rfl, fun ys hy => by rw [I.list_inj hy hq]; exact hx⟩, st', fun b hb => (hf b hb).1⟩⟩
  done := by
    intro X hP hw hK hc i pins s σ H E I hf st hg
    subst hP hw hK
    obtain ⟨xs, hq, hx⟩ := hg
    obtain ⟨its, rv, p, hz⟩ := I.list hq
    obtain ⟨f0, f1, f2, f3, f4, f5⟩ := hf it (by simp)
    have hl := rv.length
    exact wpAny_pyNext_list_end (I.ok.hd hc) st p.isList (by simp; omega) fun h' eb => ⟨rfl, I.turned (t' := s.toks) (fun b o hb e => eb b o hb e) f0 f1 f3 f4 f5⟩
  self := fun _ _ _ _ _ st h => wpAny_pyIter_listiter st h
theorem turn_tuple {P : Program} {w : World} {K : PySem.W.Frag} {tg : Expr} (a it : Addr) : Turn P w K tg (Itt K a) [it] it (fun i h => h.IsTupleIter it a i) where
  mem := by simp
  obj := fun i h st b hb => by
    have e : b = it := by simpa using hb
    subst e
    obtain ⟨o, e, c, d⟩ := st
    exact ⟨o, e, fun v z => by rw [d] at z; cases z⟩
  keep := fun i h h' st k => st.at fun o e => k it (by simp) o e
  item := by
    intro X hP hw hK hc i pins s σ H E I hf st hg
    subst hP hw hK
    obtain ⟨xs, x, hq, hx⟩ := hg
    obtain ⟨its, rv, p, hz⟩ := I.tuple hq
    obtain ⟨u, hu, ru⟩ := rv.get hx
    obtain ⟨f0, f1, f2, f3, f4, f5⟩ := hf it (by simp)
    refine wpAny_pyNext_tuple_item st (show s.heap.IsTuple a its.toArray from p) (x := u) (by simpa using hu) fun h' st' sb => ?_
    have I1 : Inv X pins σ H { s with heap := h' } := I.turned (t' := s.toks) (fun b o hb e => (sb.2 b hb).trans e) f0 f1 f3 f4 f5
    obtain ⟨o, e, c, d⟩ := id st'
    exact ⟨u, rfl, go_of (s := { s with heap := h' }) e c d (by decide) ⟨x, H, I1, ru, ⟨rfl, fun ys hy => by rw [I.tuple_inj hy hq]; exact hx⟩, st', fun b hb => (hf b hb).1⟩⟩
  done := by
    intro X hP hw hK hc i pins s σ H E I hf st hg
    subst hP hw hK
    obtain ⟨xs, hq, hx⟩ := hg
    obtain ⟨its, rv, p, hz⟩ := I.tuple hq
    obtain ⟨f0, f1, f2, f3, f4, f5⟩ := hf it (by simp)
    have hl := rv.length
    exact wpAny_pyNext_tuple_end (I.ok.hd hc) st (show s.heap.IsTuple a its.toArray from p) (by simp; omega) fun h' eb => ⟨rfl, I.turned (t' := s.toks) (fun b o hb e => eb b o hb e) f0 f1 f3 f4 f5⟩
  self := fun _ _ _ _ _ st h => wpAny_pyIter_tupleiter st h
theorem turn_range {P : Program} {w : World} {K : PySem.W.Frag} {tg : Expr} (it : Addr) (lo : Int) (n : Nat) : Turn P w K tg (Itr lo n) [it] it (fun i h => IsRangeIter h it (lo + (i : Nat) * 1) ((n : Int) - (i : Nat)) 1) where
  mem := by simp
  obj := fun i h st b hb => by
    have e : b = it := by simpa using hb
    subst e
    exact ⟨_, st, fun v z => by
      have z' : Data.fields _ = Data.cell v := z
      cases z'⟩
  keep := fun i h h' st k => k it (by simp) _ st
  item := by
    intro X hP hw hK hc i pins s σ H E I hf st hg
    subst hP hw hK
    obtain ⟨f0, f1, f2, f3, f4, f5⟩ := hf it (by simp)
    have W := Walks.range (prog := X.prog) (w := X.w) (I.ok.hd hc) it lo 1 n
    refine W.item i s _ _ hg st fun v h' tk hv st' kk => ?_
    obtain ⟨t, rfl⟩ := hv
    have I1 : Inv X pins σ H { s with heap := h', toks := tk } := I.turned (fun b o hb e => kk b o (by simpa using hb) e) f0 f1 f3 f4 f5
    refine ⟨_, rfl, go_of (s := { s with heap := h', toks := tk }) (n := "range_iterator") st' rfl rfl (by decide) ⟨.int (lo + i), H, I1, ⟨t, ?_⟩, ⟨rfl, rfl⟩, st', fun b hb => (hf b hb).1⟩⟩
    rw [Int.mul_one]
  done := by
    intro X hP hw hK hc i pins s σ H E I hf st hg
    subst hP hw hK
    obtain ⟨f0, f1, f2, f3, f4, f5⟩ := hf it (by simp)
    exact wpAny_pyNext_range_end (I.ok.hd hc) st (by have : n ≤ i := hg; omega) fun h' eb => ⟨rfl, I.turned (t' := s.toks) (fun b o hb e => eb b o hb e) f0 f1 f3 f4 f5⟩
  self := fun _ _ _ _ _ st h => wpAny_pyIter_rangeiter st h
end L2

namespace L2
open PySem PySem.Spec PyProof.Rows
section
variable {X : Cx} {tg : Expr}
def iList (K : PySem.W.Frag) (tl : TE) : TI := fun σ H R => tl σ H fun x H1 => ∃ a, x = .ref a ∧ (∃ xs, SqL K H1 a xs) ∧ R (Itl K a) H1
def iTup (K : PySem.W.Frag) (tl : TE) : TI := fun σ H R => tl σ H fun x H1 => ∃ a, x = .ref a ∧ (∃ xs, SqT K H1 a xs) ∧ R (Itt K a) H1
theorem pi_list {l : Expr} {tl : TE} (hl : PE X l tl) : PI X tg l (iList X.K tl) := by
  intro pins s σ H R I h
  refine thn (hl pins s σ H _ I h) fun v s1 ⟨x, H1, I1, r1, q1⟩ => ?_
  obtain ⟨a, e, ⟨xs, hq⟩, q⟩ := q1
  subst e
  cases r1
  obtain ⟨its, rv, p, hz⟩ := I1.list hq
  refine wpAny_pyIter_list p.isList ?_
  refine ⟨s1.heap.objs.size, [s1.heap.objs.size], _, _, H1, rfl, I1.kept (t' := s1.toks) fun b o e => Heap.get?_push_of_some _ e, turn_list a _, ⟨_, Heap.get?_push_size _ rfl, rfl, rfl⟩, fun b hb => ?_, q⟩
  have e : b = s1.heap.objs.size := by simpa using hb
  subst e
  exact I1.fpOk (Nat.le_refl _) (I1.hok.fresh (Nat.le_refl _))
theorem pi_tup {l : Expr} {tl : TE} (hl : PE X l tl) : PI X tg l (iTup X.K tl) := by
  intro pins s σ H R I h
  refine thn (hl pins s σ H _ I h) fun v s1 ⟨x, H1, I1, r1, q1⟩ => ?_
  obtain ⟨a, e, ⟨xs, hq⟩, q⟩ := q1
  subst e
  cases r1
  obtain ⟨its, rv, p, hz⟩ := I1.tuple hq
  refine wpAny_pyIter_tuple (show s1.heap.IsTuple a its.toArray from p) ?_
  refine ⟨s1.heap.objs.size, [s1.heap.objs.size], _, _, H1, rfl, I1.kept (t' := s1.toks) fun b o e => Heap.get?_push_of_some _ e, turn_tuple a _, ⟨_, Heap.get?_push_size _ rfl, rfl, rfl⟩, fun b hb => ?_, q⟩
  have e : b = s1.heap.objs.size := by simpa using hb
  subst e
  exact I1.fpOk (Nat.le_refl _) (I1.hok.fresh (Nat.le_refl _))
/-- a range object just made, walked -/
theorem range_it {pins : List (Addr × Obj)} {σ : St} {H : Hp} {s : Shared} {R : It → Hp → Prop} {E : Value → Shared → Prop} {lo hi : Int} {t u v : Tok} {tk : Nat} (I : Inv X pins σ H s) (h1 : -(2 ^ 62) ≤ lo) (h2 : lo < 2 ^ 62) (h3 : -(2 ^ 62) ≤ hi) (h4 : hi < 2 ^ 62)
    (q : R (Itr lo (hi - lo).toNat) H) : wpAny (model X.prog X.w) X.A (pyIter (.ref s.heap.objs.size)) (PIE X pins σ tg R) E { s with heap := s.heap.push { cls := .type "range", data := .fields #[.int lo t, .int hi u, .int 1 v] }, toks := tk } := by
  refine wpAny_pyIter_range (IsRange.new ..) (small_one h1 h2 h3 h4) ?_
  have I1 : Inv X pins σ H { s with heap := s.heap.push { cls := .type "range", data := .fields #[.int lo t, .int hi u, .int 1 v] }, toks := tk } := I.kept fun b o e => Heap.get?_push_of_some _ e
  refine ⟨(s.heap.push { cls := .type "range", data := .fields #[.int lo t, .int hi u, .int 1 v] }).objs.size, [(s.heap.push { cls := .type "range", data := .fields #[.int lo t, .int hi u, .int 1 v] }).objs.size], _, _, H, rfl,
    I1.kept (t' := tk) fun b o e => Heap.get?_push_of_some _ e, turn_range _ lo (hi - lo).toNat, ?_, fun b hb => ?_, q⟩
  · have e1 : lo + ((0 : Nat) : Int) * 1 = lo := by simp
    have e2 : (((hi - lo).toNat : Nat) : Int) - ((0 : Nat) : Int) = Builtin.Range.rangeSize lo hi 1 := by rw [rangeSize_one]; split <;> omega
    show IsRangeIter _ _ (lo + ((0 : Nat) : Int) * 1) ((((hi - lo).toNat : Nat) : Int) - ((0 : Nat) : Int)) 1
    rw [e1, e2]
    exact Heap.get?_push_size _ rfl
  · have e : b = (s.heap.push { cls := .type "range", data := .fields #[.int lo t, .int hi u, .int 1 v] }).objs.size := by simpa using hb
    subst e
    exact I1.fpOk (Nat.le_refl _) (I1.hok.fresh (Nat.le_refl _))
def iRng1 (ta : TA) : TI := fun σ H R => ta σ H fun vs H1 => ∃ j : Int, vs = [.int j] ∧ -(2 ^ 62) ≤ j ∧ j < 2 ^ 62 ∧ R (Itr 0 j.toNat) H1
def iRng2 (ta : TA) : TI := fun σ H R => ta σ H fun vs H1 => ∃ i j : Int, vs = [.int i, .int j] ∧ (-(2 ^ 62) ≤ i ∧ i < 2 ^ 62 ∧ -(2 ^ 62) ≤ j ∧ j < 2 ^ 62) ∧ R (Itr i (j - i).toNat) H1
theorem pi_range1 {a : Expr} {ta : TA} {p pos : Pos} (hg : Gl X "range") (hm : X.mg "range" = none) (ha : PA X [a] ta) (hs : starEach [a] X.env = [(false, eval a X.env)] := by rfl) : PI X tg (.Call (.Name "range" p) [a] [] pos) (iRng1 ta) := by
  intro pins s σ H R I h
  refine Call_ (ld_blt I hg hm boot_range (PyProof.Rows.callWith_type1 (thn (ha pos pins s σ H _ I h) fun us s1 ⟨vs, H1, I1, r1, q1⟩ => ?_) hs rfl))
  obtain ⟨j, e, q1, q2, q⟩ := q1
  subst e
  cases r1 with
  | cons r rr =>
    cases rr
    obtain ⟨t, rfl⟩ := r
    exact call_range_1 (range_it I1 (by omega) (by omega) q1 q2 (by simpa using q))
theorem pi_range2 {a b : Expr} {ta : TA} {p pos : Pos} (hg : Gl X "range") (hm : X.mg "range" = none) (ha : PA X [a, b] ta) (hs : starEach [a, b] X.env = [(false, eval a X.env), (false, eval b X.env)] := by rfl) (hs2 : starEach [b] X.env = [(false, eval b X.env)] := by rfl) :
    PI X tg (.Call (.Name "range" p) [a, b] [] pos) (iRng2 ta) := by
  intro pins s σ H R I h
  refine Call_ (ld_blt I hg hm boot_range (PyProof.Rows.callWith_type1 (thn (ha pos pins s σ H _ I h) fun us s1 ⟨vs, H1, I1, r1, q1⟩ => ?_) (by rw [hs, hs2]) (by rw [hs2]; rfl)))
  obtain ⟨i, j, e, ⟨q1, q2, q3, q4⟩, q⟩ := q1
  subst e
  cases r1 with
  | cons r rr =>
    cases rr with
    | cons r' rr =>
      cases rr
      obtain ⟨t, rfl⟩ := r
      obtain ⟨t', rfl⟩ := r'
      exact call_range_2 (range_it I1 q1 q2 q3 q4 q)

/-! ### for -/
/-- W: the invariant by the turn and a measure; N: what the body is to reach -/
def tFor (wi : TI) (g : TG) (tb : TS) : TS := fun D σ H => wi σ H fun J H1 => ∃ W : Nat → Nat → St → Hp → Prop, (∃ m, W 0 m σ H1) ∧ ∀ i m σ H, W i m σ H →
  (J.stop i H ∧ D.nx σ H) ∨ (J.go i H ∧ ∃ N : St → Hp → Prop, (∀ σ' H', N σ' H' → ∃ m', m' < m ∧ W (i + 1) m' σ' H') ∧ ∀ x H', J.yld i H x H' → g x σ H' fun σ2 H2 => tb { D with nx := N, ct := N, bk := D.nx } σ2 H2)
/-- the records at fp as they stand -/
def pinsAt (fp : List Addr) (h : Heap) : List (Addr × Obj) := fp.filterMap fun b => (h.get? b).map fun o => (b, o)
theorem mem_pinsAt {fp : List Addr} {h : Heap} {b : Addr} {o : Obj} (hb : b ∈ fp) (e : h.get? b = some o) : (b, o) ∈ pinsAt fp h := List.mem_filterMap.mpr ⟨b, hb, by rw [e]; rfl⟩
theorem of_pinsAt {fp : List Addr} {h : Heap} {p : Addr × Obj} (hp : p ∈ pinsAt fp h) : p.1 ∈ fp ∧ h.get? p.1 = some p.2 := by
  obtain ⟨b, hb, e⟩ := List.mem_filterMap.mp hp
  cases q : h.get? b with
  | none => rw [q] at e; cases e
  | some o =>
    rw [q] at e
    have e' : (b, o) = p := Option.some.inj e
    subst e'
    exact ⟨hb, q⟩
theorem Inv.pinned {pins : List (Addr × Obj)} {σ : St} {H : Hp} {s : Shared} {fp : List Addr} (I : Inv X pins σ H s) (hf : ∀ b ∈ fp, FpOk X pins H b) (ho : ∀ b ∈ fp, ∃ o, s.heap.get? b = some o ∧ ∀ v, o.data ≠ .cell v) : Inv X (pins ++ pinsAt fp s.heap) σ H s :=
  I.pins_of fun p hp => (List.mem_append.mp hp).elim (fun z => I.pin p (List.mem_append_right _ z)) fun z => by
    obtain ⟨hb, e⟩ := of_pinsAt z
    obtain ⟨f0, f1, f2, _⟩ := hf p.1 hb
    obtain ⟨o, e', d⟩ := ho p.1 hb
    rw [e] at e'; cases e'
    exact ⟨e, f0, f1, f2, d⟩
theorem Inv.unpinned {pins pl : List (Addr × Obj)} {σ : St} {H : Hp} {s : Shared} (I : Inv X (pins ++ pl) σ H s) : Inv X pins σ H s := I.pins_of fun p hp => I.pin p (List.mem_append_right _ (List.mem_append_left _ hp))
theorem ps_for {iter : Expr} {body : List Stmt} {wi : TI} {g : TG} {tb : TS} {pos : Pos} (hp : PassesOwn (model X.prog X.w) X.A X.env X.xe) (hc : X.calm = true) (hi : PI X tg iter wi) (hg : PG X tg g) (hb : PSs X body tb)
    (hs : ∀ x, foldedSetIterable iter X.env x = pure x := by intro _; rfl) : PS X (.For tg iter body [] pos) (tFor wi g tb) := by
  intro pins s σ H D I h
  refine wpAny_For (thn (hi pins s σ H _ I h) fun v s1 h1 => thn h1 fun itv s2 h2 => ?_) hs
  obtain ⟨it, fp, tn, J, H2, e, I2, T, st2, f2, W, ⟨m0, w0⟩, turn⟩ := h2
  subst e
  -- what stays true of the iterator's objects through the loop
  have stat : ∀ {H' : Hp}, (∀ b ∈ fp, H' b = none) → ∀ b ∈ fp, FpOk X pins H' b := fun hn b hb => ⟨hn b hb, (f2 b hb).2⟩
  refine codeAny_forLoop_any (fun n s' => ∃ i σ' H', Inv X pins σ' H' s' ∧ tn i s'.heap ∧ (∀ b ∈ fp, H' b = none) ∧ W i n σ' H') ?_ m0 ⟨0, σ, H2, I2, st2, fun b hb => (f2 b hb).1, w0⟩
  rintro n s3 ⟨i, σ3, H3, I3, st3, fr3, w3⟩
  rcases turn i n σ3 H3 w3 with ⟨stop, qn⟩ | ⟨go, N, hN, step⟩
  · refine wpAny_passesOwn hp (thn (T.done X rfl rfl rfl hc i pins s3 σ3 H3 X.xe I3 (stat fr3) st3 stop) fun r s4 ⟨hr, I4⟩ => ?_)
    subst hr
    exact wpAny_execs_nil ⟨σ3, H3, I4, qn⟩
  · refine wpAny_passesOwn hp (thn (T.item X rfl rfl rfl hc i pins s3 σ3 H3 X.xe I3 (stat fr3) st3 go) fun r s4 ⟨u, hr, h4⟩ => ?_)
    subst hr
    refine wpAny_passesOwn hp (thn h4 fun _ s5 ⟨x, H5, I5, r5, y5, st5, fr5⟩ => ?_)
    have I5' := I5.pinned (stat fr5) (T.obj _ _ st5)
    refine wpAny_passesOwn hp (thn (hg _ s5 σ3 H5 x u _ I5' r5 (step x H5 y5)) fun _ s6 ⟨σ6, H6, I6, q6⟩ => ?_)
    refine wpAny_passesOwn hp (thn (hb _ s6 σ6 H6 _ I6 q6) fun f s7 q7 => ?_)
    have again : ∀ {σ7 : St} {H7 : Hp}, Inv X (pins ++ pinsAt fp s5.heap) σ7 H7 s7 → N σ7 H7 → ∃ m, m < n ∧ ∃ i σ' H', Inv X pins σ' H' s7 ∧ tn i s7.heap ∧ (∀ b ∈ fp, H' b = none) ∧ W i m σ' H' := fun {σ7 H7} I7 n7 => by
      obtain ⟨m', hm, w7⟩ := hN σ7 H7 n7
      refine ⟨m', hm, i + 1, σ7, H7, I7.unpinned, T.keep _ _ _ st5 fun b hb o e => (I7.pin (b, o) (List.mem_append_right _ (List.mem_append_right _ (mem_pinsAt hb e)))).1, fun b hb => ?_, w7⟩
      obtain ⟨o, e, d⟩ := T.obj _ _ st5 b hb
      exact (I7.pin (b, o) (List.mem_append_right _ (List.mem_append_right _ (mem_pinsAt hb e)))).2.1
    cases f with
    | next => obtain ⟨σ7, H7, I7, n7⟩ := q7; exact again I7 n7
    | cont => obtain ⟨σ7, H7, I7, n7⟩ := q7; exact again I7 n7
    | brk => obtain ⟨σ7, H7, I7, q7⟩ := q7; exact ⟨σ7, H7, I7.unpinned, q7⟩
    | ret v => obtain ⟨x7, σ7, H7, I7, r7, q7⟩ := q7; exact ⟨x7, σ7, H7, I7.unpinned, r7, q7⟩
end

/-! ### the forms one uses -/
/-- over a list that the body leaves as it is -/
theorem for_list {K : PySem.W.Frag} {a : Addr} {xs : List V} {g : TG} {tb : TS} {D : Ends} {σ : St} {H : Hp} (Pv : Nat → St → Hp → Prop) (h0 : Pv 0 σ H) (hl : ∀ i σ H, i ≤ xs.length → Pv i σ H → SqL K H a xs)
    (hs : ∀ i x σ H, xs[i]? = some x → Pv i σ H → g x σ H fun σ2 H2 => tb { D with nx := Pv (i + 1), ct := Pv (i + 1), bk := D.nx } σ2 H2) (hd : ∀ σ H, Pv xs.length σ H → D.nx σ H) :
    ∃ W : Nat → Nat → St → Hp → Prop, (∃ m, W 0 m σ H) ∧ ∀ i m σ H, W i m σ H →
      ((Itl K a).stop i H ∧ D.nx σ H) ∨ ((Itl K a).go i H ∧ ∃ N : St → Hp → Prop, (∀ σ' H', N σ' H' → ∃ m', m' < m ∧ W (i + 1) m' σ' H') ∧ ∀ x H', (Itl K a).yld i H x H' → g x σ H' fun σ2 H2 => tb { D with nx := N, ct := N, bk := D.nx } σ2 H2) := by
  refine ⟨fun i m σ H => m = xs.length - i ∧ i ≤ xs.length ∧ Pv i σ H, ⟨xs.length, by simp, Nat.zero_le _, h0⟩, ?_⟩
  rintro i m σ H ⟨rfl, hi, p⟩
  have q := hl i σ H hi p
  by_cases hlt : i < xs.length
  · refine .inr ⟨⟨xs, xs[i], q, by simp [hlt]⟩, Pv (i + 1), fun σ' H' p' => ⟨xs.length - (i + 1), by omega, rfl, hlt, p'⟩, fun x H' y => ?_⟩
    obtain ⟨e, y⟩ := y
    subst e
    exact hs i x σ _ (y xs q) p
  · have e : i = xs.length := by omega
    subst e
    exact .inl ⟨⟨xs, q, Nat.le_refl _⟩, hd σ H p⟩
theorem for_tup {K : PySem.W.Frag} {a : Addr} {xs : List V} {g : TG} {tb : TS} {D : Ends} {σ : St} {H : Hp} (Pv : Nat → St → Hp → Prop) (h0 : Pv 0 σ H) (hl : ∀ i σ H, i ≤ xs.length → Pv i σ H → SqT K H a xs)
    (hs : ∀ i x σ H, xs[i]? = some x → Pv i σ H → g x σ H fun σ2 H2 => tb { D with nx := Pv (i + 1), ct := Pv (i + 1), bk := D.nx } σ2 H2) (hd : ∀ σ H, Pv xs.length σ H → D.nx σ H) :
    ∃ W : Nat → Nat → St → Hp → Prop, (∃ m, W 0 m σ H) ∧ ∀ i m σ H, W i m σ H →
      ((Itt K a).stop i H ∧ D.nx σ H) ∨ ((Itt K a).go i H ∧ ∃ N : St → Hp → Prop, (∀ σ' H', N σ' H' → ∃ m', m' < m ∧ W (i + 1) m' σ' H') ∧ ∀ x H', (Itt K a).yld i H x H' → g x σ H' fun σ2 H2 => tb { D with nx := N, ct := N, bk := D.nx } σ2 H2) := by
  refine ⟨fun i m σ H => m = xs.length - i ∧ i ≤ xs.length ∧ Pv i σ H, ⟨xs.length, by simp, Nat.zero_le _, h0⟩, ?_⟩
  rintro i m σ H ⟨rfl, hi, p⟩
  have q := hl i σ H hi p
  by_cases hlt : i < xs.length
  · refine .inr ⟨⟨xs, xs[i], q, by simp [hlt]⟩, Pv (i + 1), fun σ' H' p' => ⟨xs.length - (i + 1), by omega, rfl, hlt, p'⟩, fun x H' y => ?_⟩
    obtain ⟨e, y⟩ := y
    subst e
    exact hs i x σ _ (y xs q) p
  · have e : i = xs.length := by omega
    subst e
    exact .inl ⟨⟨xs, q, Nat.le_refl _⟩, hd σ H p⟩
theorem for_range {lo : Int} {n : Nat} {g : TG} {tb : TS} {D : Ends} {σ : St} {H : Hp} (Pv : Nat → St → Hp → Prop) (h0 : Pv 0 σ H)
    (hs : ∀ i σ H, i < n → Pv i σ H → g (.int (lo + i)) σ H fun σ2 H2 => tb { D with nx := Pv (i + 1), ct := Pv (i + 1), bk := D.nx } σ2 H2) (hd : ∀ σ H, Pv n σ H → D.nx σ H) :
    ∃ W : Nat → Nat → St → Hp → Prop, (∃ m, W 0 m σ H) ∧ ∀ i m σ H, W i m σ H →
      ((Itr lo n).stop i H ∧ D.nx σ H) ∨ ((Itr lo n).go i H ∧ ∃ N : St → Hp → Prop, (∀ σ' H', N σ' H' → ∃ m', m' < m ∧ W (i + 1) m' σ' H') ∧ ∀ x H', (Itr lo n).yld i H x H' → g x σ H' fun σ2 H2 => tb { D with nx := N, ct := N, bk := D.nx } σ2 H2) := by
  refine ⟨fun i m σ H => m = n - i ∧ i ≤ n ∧ Pv i σ H, ⟨n, by simp, Nat.zero_le _, h0⟩, ?_⟩
  rintro i m σ H ⟨rfl, hi, p⟩
  by_cases hlt : i < n
  · refine .inr ⟨hlt, Pv (i + 1), fun σ' H' p' => ⟨n - (i + 1), by omega, rfl, hlt, p'⟩, fun x H' y => ?_⟩
    obtain ⟨e, y⟩ := y
    subst e y
    exact hs i σ _ hlt p
  · have e : i = n := by omega
    subst e
    exact .inl ⟨Nat.le_refl _, hd σ H p⟩
/-- while, by a word and a measure of the state -/
theorem while_by {c : TT} {tb : TS} {D : Ends} {σ : St} {H : Hp} (Pv : St → Hp → Prop) (μ : St → Hp → Nat) (h0 : Pv σ H)
    (hs : ∀ σ H, Pv σ H → c σ H fun b H1 => if b = true then tb { D with nx := fun σ' H' => Pv σ' H' ∧ μ σ' H' < μ σ H, ct := fun σ' H' => Pv σ' H' ∧ μ σ' H' < μ σ H, bk := D.nx } σ H1 else D.nx σ H1)
    (mono : ∀ σ H Q Q', (∀ b H1, Q b H1 → Q' b H1) → c σ H Q → c σ H Q') : tWhile c tb D σ H := by
  refine ⟨fun m σ H => m = μ σ H ∧ Pv σ H, ⟨_, rfl, h0⟩, ?_⟩
  rintro m σ H ⟨rfl, p⟩
  refine mono σ H _ _ (fun b H1 q => ?_) (hs σ H p)
  cases b with
  | true => exact ⟨_, fun σ' H' ⟨p', l⟩ => ⟨_, l, rfl, p'⟩, q⟩
  | false => exact q
end L2

namespace L2
open PySem PySem.Spec PyProof.Rows

abbrev R2 := V → V → Hp → VK → Prop
/-- a two-place operation on values: f is binaryOp op, inplaceOp op or compareOp op -/
def OpR (X : Cx) (f : Value → Value → Sem Value) (r : R2) : Prop :=
  ∀ (pins : List (Addr × Obj)) (s : Shared) (σ : St) (H : Hp) (x y : V) (v u : Value) (Q : VK), Inv X pins σ H s → RelV x v → RelV y u → r x y H Q →
    wpAny (model X.prog X.w) X.A (f v u) (EP X pins σ Q) X.xe s
/-- a one-place operation -/
def UnR (X : Cx) (f : Value → Sem Value) (r : V → Hp → VK → Prop) : Prop :=
  ∀ (pins : List (Addr × Obj)) (s : Shared) (σ : St) (H : Hp) (x : V) (v : Value) (Q : VK), Inv X pins σ H s → RelV x v → r x H Q →
    wpAny (model X.prog X.w) X.A (f v) (EP X pins σ Q) X.xe s
/-- a call of a value that is known (a builtin, a type) with values -/
def CallR (X : Cx) (f : Value) (r : List V → Hp → VK → Prop) : Prop :=
  ∀ (pins : List (Addr × Obj)) (s : Shared) (σ : St) (H : Hp) (xs : List V) (us : List Value) (Q : VK), Inv X pins σ H s → Vals xs us → r xs H Q →
    wpAny (model X.prog X.w) X.A (call f us) (EP X pins σ Q) X.xe s
/-- a value's truth -/
def TruR (X : Cx) (r : V → Hp → (Bool → Hp → Prop) → Prop) : Prop :=
  ∀ (pins : List (Addr × Obj)) (s : Shared) (σ : St) (H : Hp) (x : V) (v : Value) (Q : Bool → Hp → Prop), Inv X pins σ H s → RelV x v → r x H Q →
    wpAny (model X.prog X.w) X.A (truthy v) (TP X pins σ Q) X.xe s

def tOp (r : R2) (ta tb : TE) : TE := fun σ H Q => ta σ H fun x H1 => tb σ H1 fun y H2 => r x y H2 Q
def tUn (r : V → Hp → VK → Prop) (ta : TE) : TE := fun σ H Q => ta σ H fun x H1 => r x H1 Q
/-- ints in, under C, and a value out -/
def rI (C : Int → Int → Prop) (g : Int → Int → V) : R2 := fun x y H Q => ∃ i j, x = .int i ∧ y = .int j ∧ C i j ∧ Q (g i j) H
def rI0 (g : Int → Int → V) : R2 := fun x y H Q => ∃ i j, x = .int i ∧ y = .int j ∧ Q (g i j) H
def rU (g : Int → V) : V → Hp → VK → Prop := fun x H Q => ∃ i, x = .int i ∧ Q (g i) H

section
variable {X : Cx} {a b c : Expr} {ta tb tc : TE} {pos : Pos}

theorem binT (ha : PE X a ta) (hb : PE X b tb) {pins : List (Addr × Obj)} {s : Shared} {σ : St} {H : Hp} {R : V → V → Hp → Prop} (I : Inv X pins σ H s)
    (h : ta σ H fun x H1 => tb σ H1 fun y H2 => R x y H2) {Q : Value → Shared → Prop} {f : Value → Value → Sem Value}
    (hf : ∀ v u s2 x y H2, Inv X pins σ H2 s2 → RelV x v → RelV y u → R x y H2 → wpAny (model X.prog X.w) X.A (f v u) Q X.xe s2) :
    wpAny (model X.prog X.w) X.A (eval a X.env) (fun v s₁ => wpAny (model X.prog X.w) X.A (eval b X.env) (fun u s₂ => wpAny (model X.prog X.w) X.A (f v u) Q X.xe s₂) X.xe s₁) X.xe s := by
  refine thn (ha pins s σ H _ I h) fun v s1 ⟨x, H1, I1, r1, q1⟩ => ?_
  refine thn (hb pins s1 σ H1 _ I1 q1) fun u s2 ⟨y, H2, I2, r2, q2⟩ => ?_
  exact hf v u s2 x y H2 I2 r1 r2 q2

theorem pe_op {op : Operator} {r : R2} (ho : OpR X (binaryOp op) r) (ha : PE X a ta) (hb : PE X b tb) : PE X (.BinOp a op b pos) (tOp r ta tb) := by
  intro pins s σ H Q I h
  exact wpAny_BinOp (binT ha hb I h fun v u s2 x y H2 I2 rx ry q => ho pins s2 σ H2 x y v u Q I2 rx ry q)
theorem pe_un {op : UnaryOp} {r : V → Hp → VK → Prop} (ho : UnR X (unaryOp op) r) (ha : PE X a ta) : PE X (.UnaryOp op a pos) (tUn r ta) := by
  intro pins s σ H Q I h
  exact UnaryOp_ (thn (ha pins s σ H _ I h) fun v s1 ⟨x, H1, I1, r1, q1⟩ => ho pins s1 σ H1 x v Q I1 r1 q1)
/-- a op= e at a name: the name's slot i -/
theorem augR {op : Operator} {r : R2} (ho : OpR X (inplaceOp op) r) {pins : List (Addr × Obj)} {s : Shared} {σ : St} {H : Hp} {x y : V} {v u : Value} {Q : VK} (I : Inv X pins σ H s)
    (rx : RelV x v) (ry : RelV y u) (q : r x y H Q) : wpAny (model X.prog X.w) X.A (inplaceOp op v u) (EP X pins σ Q) X.xe s := ho pins s σ H x y v u Q I rx ry q

/-! ### ints -/
theorem opI {f : Value → Value → Sem Value} {C : Int → Int → Prop} {g : Int → Int → Int}
    (rule : ∀ (i j : Int) (t u : Tok) (s : Shared) (Q : Value → Shared → Prop) (E : Value → Shared → Prop), C i j → Q (.int (g i j) s.toks) { s with toks := s.toks + 1 } → wpAny (model X.prog X.w) X.A (f (.int i t) (.int j u)) Q E s) :
    OpR X f (rI C fun i j => .int (g i j)) := by
  intro pins s σ H x y v u Q I rx ry h
  obtain ⟨i, j, rfl, rfl, hc, q⟩ := h
  obtain ⟨t, rfl⟩ := rx
  obtain ⟨t', rfl⟩ := ry
  exact rule i j t t' s _ _ hc ⟨.int (g i j), H, I.tok _, ⟨_, rfl⟩, q⟩
theorem opI0 {f : Value → Value → Sem Value} {g : Int → Int → Int}
    (rule : ∀ (i j : Int) (t u : Tok) (s : Shared) (Q : Value → Shared → Prop) (E : Value → Shared → Prop), Q (.int (g i j) s.toks) { s with toks := s.toks + 1 } → wpAny (model X.prog X.w) X.A (f (.int i t) (.int j u)) Q E s) :
    OpR X f (rI0 fun i j => .int (g i j)) := by
  intro pins s σ H x y v u Q I rx ry h
  obtain ⟨i, j, rfl, rfl, q⟩ := h
  obtain ⟨t, rfl⟩ := rx
  obtain ⟨t', rfl⟩ := ry
  exact rule i j t t' s _ _ ⟨.int (g i j), H, I.tok _, ⟨_, rfl⟩, q⟩
theorem opB0 {f : Value → Value → Sem Value} {g : Int → Int → Bool}
    (rule : ∀ (i j : Int) (t u : Tok) (s : Shared) (Q : Value → Shared → Prop) (E : Value → Shared → Prop), Q (.bool (g i j)) s → wpAny (model X.prog X.w) X.A (f (.int i t) (.int j u)) Q E s) :
    OpR X f (rI0 fun i j => .bl (g i j)) := by
  intro pins s σ H x y v u Q I rx ry h
  obtain ⟨i, j, rfl, rfl, q⟩ := h
  obtain ⟨t, rfl⟩ := rx
  obtain ⟨t', rfl⟩ := ry
  exact rule i j t t' s _ _ ⟨.bl (g i j), H, I, rfl, q⟩

def CDiv (i j : Int) : Prop := 0 < j ∧ j < 1073741824
def CDivN (i j : Int) : Prop := j ≠ 0 ∧ j.natAbs < 1073741824
def CPow (i j : Int) : Prop := 0 ≤ j ∧ j ≤ 1000000 ∧ i.natAbs < 2 ^ 64
def CMul (i j : Int) : Prop := (-(2 ^ 64) < i ∧ i < 2 ^ 64) ∨ (-(2 ^ 64) < j ∧ j < 2 ^ 64)
theorem CMul.ok {i j : Int} (h : CMul i j) : IntMulOk i j := by
  rcases h with ⟨h1, h2⟩ | ⟨h1, h2⟩
  · exact .of_left (intBits_le_64 h1 h2)
  · exact .of_right (intBits_le_64 h1 h2)
theorem two_pow_nn (k : Nat) : (0 : Int) ≤ 2 ^ k := by
  rw [two_pow_cast]
  exact Int.natCast_nonneg _

theorem op_add : OpR X (binaryOp .Add) (rI0 fun i j => .int (i + j)) := opI0 fun _ _ _ _ _ _ _ q => add_int q
theorem op_sub : OpR X (binaryOp .Sub) (rI0 fun i j => .int (i - j)) := opI0 fun _ _ _ _ _ _ _ q => sub_int q
theorem op_mul : OpR X (binaryOp .Mult) (rI CMul fun i j => .int (i * j)) := opI fun _ _ _ _ _ _ _ hc q => mul_int q hc.ok
/-- // by a positive divisor -/
theorem op_fdiv : OpR X (binaryOp .FloorDiv) (rI CDiv fun i j => .int (i / j)) := opI fun i j _ _ _ _ _ hc q => by
  have h1 : (0 : Int) < j := hc.1
  have h2 : j < 1073741824 := hc.2
  exact floordiv_int (by omega) (by rw [Int.fdiv_eq_ediv_of_nonneg i (by omega)]; exact q) (.inl (PyProof.noPylong_small (by omega)))
theorem op_fdivN : OpR X (binaryOp .FloorDiv) (rI CDivN fun i j => .int (i.fdiv j)) := opI fun _ _ _ _ _ _ _ hc q => floordiv_int hc.1 q (.inl (PyProof.noPylong_small hc.2))
/-- % by a positive divisor of any size -/
theorem op_mod : OpR X (binaryOp .Mod) (rI (fun _ j => 0 < j) fun i j => .int (i % j)) := opI fun i j _ _ _ _ _ hc q => by
  have h1 : (0 : Int) < j := hc
  exact mod_int' (by omega) (by rw [Int.fmod_eq_emod_of_nonneg i (by omega)]; exact q)
theorem op_modN : OpR X (binaryOp .Mod) (rI (fun _ j => j ≠ 0) fun i j => .int (i.fmod j)) := opI fun _ _ _ _ _ _ _ hc q => mod_int' hc q
theorem op_pow : OpR X (binaryOp .Pow) (rI CPow fun i j => .int (i ^ j.toNat)) := opI fun _ _ _ _ _ _ _ hc q => pow_int_small hc.1 hc.2.1 hc.2.2 q
theorem op_shl : OpR X (binaryOp .LShift) (rI CPow fun i j => .int (i * 2 ^ j.toNat)) := opI fun _ _ _ _ _ _ _ hc q => lshift_int_small hc.1 hc.2.1 hc.2.2 q
theorem op_shr : OpR X (binaryOp .RShift) (rI (fun _ j => 0 ≤ j) fun i j => .int (i / 2 ^ j.toNat)) := opI fun i j _ _ _ _ _ hc q =>
  rshift_int hc (by rw [Int.fdiv_eq_ediv_of_nonneg i (two_pow_nn _)]; exact q)
theorem op_and : OpR X (binaryOp .BitAnd) (rI0 fun i j => .int (Builtin.bitAnd i j)) := opI0 fun _ _ _ _ _ _ _ q => and_int q
theorem op_or : OpR X (binaryOp .BitOr) (rI0 fun i j => .int (Builtin.bitOr i j)) := opI0 fun _ _ _ _ _ _ _ q => or_int q
theorem op_xor : OpR X (binaryOp .BitXor) (rI0 fun i j => .int (Builtin.bitXor i j)) := opI0 fun _ _ _ _ _ _ _ q => xor_int q

theorem iop_add : OpR X (inplaceOp .Add) (rI0 fun i j => .int (i + j)) := opI0 fun _ _ _ _ _ _ _ q => iadd_int q
theorem iop_sub : OpR X (inplaceOp .Sub) (rI0 fun i j => .int (i - j)) := opI0 fun _ _ _ _ _ _ _ q => isub_int q
theorem iop_mul : OpR X (inplaceOp .Mult) (rI CMul fun i j => .int (i * j)) := opI fun _ _ _ _ _ _ _ hc q => imul_int q hc.ok
theorem iop_fdiv : OpR X (inplaceOp .FloorDiv) (rI CDiv fun i j => .int (i / j)) := opI fun i j _ _ _ _ _ hc q => by
  have h1 : (0 : Int) < j := hc.1
  have h2 : j < 1073741824 := hc.2
  exact ifloordiv_int (by omega) (by rw [Int.fdiv_eq_ediv_of_nonneg i (by omega)]; exact q) (.inl (PyProof.noPylong_small (by omega)))
theorem iop_mod : OpR X (inplaceOp .Mod) (rI (fun _ j => 0 < j) fun i j => .int (i % j)) := opI fun i j _ _ _ _ _ hc q => by
  have h1 : (0 : Int) < j := hc
  exact imod_int (by omega) (by rw [Int.fmod_eq_emod_of_nonneg i (by omega)]; exact q)
theorem iop_shl : OpR X (inplaceOp .LShift) (rI CPow fun i j => .int (i * 2 ^ j.toNat)) := opI fun _ _ _ _ _ _ _ hc q => ilshift_int_small hc.1 hc.2.1 hc.2.2 q
theorem iop_shr : OpR X (inplaceOp .RShift) (rI (fun _ j => 0 ≤ j) fun i j => .int (i / 2 ^ j.toNat)) := opI fun i j _ _ _ _ _ hc q =>
  irshift_int hc (by rw [Int.fdiv_eq_ediv_of_nonneg i (two_pow_nn _)]; exact q)
theorem iop_and : OpR X (inplaceOp .BitAnd) (rI0 fun i j => .int (Builtin.bitAnd i j)) := opI0 fun _ _ _ _ _ _ _ q => iand_int q
theorem iop_or : OpR X (inplaceOp .BitOr) (rI0 fun i j => .int (Builtin.bitOr i j)) := opI0 fun _ _ _ _ _ _ _ q => ior_int q
theorem iop_xor : OpR X (inplaceOp .BitXor) (rI0 fun i j => .int (Builtin.bitXor i j)) := opI0 fun _ _ _ _ _ _ _ q => ixor_int q

theorem unI {f : Value → Sem Value} {g : Int → Int}
    (rule : ∀ (i : Int) (t : Tok) (s : Shared) (Q : Value → Shared → Prop) (E : Value → Shared → Prop), Q (.int (g i) s.toks) { s with toks := s.toks + 1 } → wpAny (model X.prog X.w) X.A (f (.int i t)) Q E s) :
    UnR X f (rU fun i => .int (g i)) := by
  intro pins s σ H x v Q I rx h
  obtain ⟨i, rfl, q⟩ := h
  obtain ⟨t, rfl⟩ := rx
  exact rule i t s _ _ ⟨.int (g i), H, I.tok _, ⟨_, rfl⟩, q⟩
theorem un_neg : UnR X (unaryOp .USub) (rU fun i => .int (-i)) := unI fun _ _ _ _ _ q => neg_int q
theorem un_inv : UnR X (unaryOp .Invert) (rU fun i => .int (Builtin.bitNot i)) := unI fun _ _ _ _ _ q => invert_int q

/-! ### bools among ints: n += (a < b) -/
theorem op_add_ib : OpR X (binaryOp .Add) (fun x y H Q => ∃ i k, x = .int i ∧ y = .bl k ∧ Q (.int (i + b2i k)) H) := by
  intro pins s σ H x y v u Q I rx ry h
  obtain ⟨i, k, rfl, rfl, q⟩ := h
  obtain ⟨t, rfl⟩ := rx
  cases ry
  exact add_int_bool ⟨.int (i + b2i k), H, I.tok _, ⟨_, rfl⟩, q⟩
end

/-! ### comparisons -/
/-- the scalars that == tells apart as data does -/
def scal : V → V → Bool
  | .non, .non => true | .non, .int _ => true | .int _, .non => true | .non, .bl _ => true | .bl _, .non => true | .non, .str _ => true | .str _, .non => true
  | .int _, .int _ => true | .bl _, .bl _ => true | .str _, .str _ => true | .byt _, .byt _ => true
  | .int _, .str _ => true | .str _, .int _ => true | .bl _, .str _ => true | .str _, .bl _ => true
  | _, _ => false
def rEq : R2 := fun x y H Q => scal x y = true ∧ Q (.bl (decide (x = y))) H
def rNe : R2 := fun x y H Q => scal x y = true ∧ Q (.bl (!decide (x = y))) H

theorem dec_int {i j : Int} : decide (V.int i = V.int j) = (i == j) := by
  rw [Bool.eq_iff_iff]
  simp
theorem dec_bl {i j : Bool} : decide (V.bl i = V.bl j) = (i == j) := by
  rw [Bool.eq_iff_iff]
  simp
theorem dec_str {i j : Str} : decide (V.str i = V.str j) = (i == j) := by
  rw [Bool.eq_iff_iff]
  simp
theorem dec_byt {i j : Array UInt8} : decide (V.byt i = V.byt j) = (i.toList == j.toList) := by
  rw [Bool.eq_iff_iff]
  cases i
  cases j
  simp

section
variable {X : Cx} {a b c : Expr} {ta tb tc : TE} {pos : Pos}
theorem fin_bl {pins : List (Addr × Obj)} {σ : St} {H : Hp} {s : Shared} {Q : VK} {k k' : Bool} (I : Inv X pins σ H s) (q : Q (.bl k) H) (e : k = k') : EP X pins σ Q (.bool k') s := by
  subst e
  exact ⟨.bl k, H, I, rfl, q⟩
theorem op_eq : OpR X (compareOp .Eq) rEq := by
  intro pins s σ H x y v u Q I rx ry h
  obtain ⟨hs, q⟩ := h
  cases x with
  | non =>
    cases rx
    cases y with
    | non => cases ry; exact PySem.EqNone.eq_none_none (fin_bl I q (by simp))
    | bl j => cases ry; exact PySem.EqNone.eq_none_bool (fin_bl I q (by simp))
    | int j => obtain ⟨t', rfl⟩ := ry; exact PySem.EqNone.eq_none_int (fin_bl I q (by simp))
    | str j => obtain ⟨t', rfl⟩ := ry; exact PySem.EqNone.eq_none_str (fin_bl I q (by simp))
    | _ => exact absurd (show false = true from hs) Bool.false_ne_true
  | bl i =>
    cases rx
    cases y with
    | non => cases ry; exact PySem.EqNone.eq_bool_none (fin_bl I q (by simp))
    | bl j => cases ry; exact eq_bool (fin_bl I q dec_bl)
    | str j => obtain ⟨t', rfl⟩ := ry; exact PySem.EqMixed.eq_bool_str (fin_bl I q (by simp))
    | _ => exact absurd (show false = true from hs) Bool.false_ne_true
  | int i =>
    obtain ⟨t, rfl⟩ := rx
    cases y with
    | non => cases ry; exact PySem.EqNone.eq_int_none (fin_bl I q (by simp))
    | int j => obtain ⟨t', rfl⟩ := ry; exact eq_int (fin_bl I q dec_int)
    | str j => obtain ⟨t', rfl⟩ := ry; exact PySem.EqMixed.eq_int_str (fin_bl I q (by simp))
    | _ => exact absurd (show false = true from hs) Bool.false_ne_true
  | str i =>
    obtain ⟨t, rfl⟩ := rx
    cases y with
    | non => cases ry; exact PySem.EqNone.eq_str_none (fin_bl I q (by simp))
    | bl j => cases ry; exact PySem.EqMixed.eq_str_bool (fin_bl I q (by simp))
    | int j => obtain ⟨t', rfl⟩ := ry; exact PySem.EqMixed.eq_str_int (fin_bl I q (by simp))
    | str j => obtain ⟨t', rfl⟩ := ry; exact eq_str (fin_bl I q dec_str)
    | _ => exact absurd (show false = true from hs) Bool.false_ne_true
  | byt i =>
    obtain ⟨t, rfl⟩ := rx
    cases y with
    | byt j => obtain ⟨t', rfl⟩ := ry; exact PySem.W.eq_bytes (fin_bl I q dec_byt)
    | _ => exact absurd (show false = true from hs) Bool.false_ne_true
  | _ => cases y <;> exact absurd (show false = true from hs) Bool.false_ne_true
theorem op_ne : OpR X (compareOp .NotEq) rNe := by
  intro pins s σ H x y v u Q I rx ry h
  obtain ⟨hs, q⟩ := h
  cases x with
  | non =>
    cases rx
    cases y with
    | non => cases ry; exact PySem.EqNone.ne_none_none (fin_bl I q (by simp))
    | bl j => cases ry; exact PySem.EqNone.ne_none_bool (fin_bl I q (by simp))
    | int j => obtain ⟨t', rfl⟩ := ry; exact PySem.EqNone.ne_none_int (fin_bl I q (by simp))
    | str j => obtain ⟨t', rfl⟩ := ry; exact PySem.EqNone.ne_none_str (fin_bl I q (by simp))
    | _ => exact absurd (show false = true from hs) Bool.false_ne_true
  | bl i =>
    cases rx
    cases y with
    | non => cases ry; exact PySem.EqNone.ne_bool_none (fin_bl I q (by simp))
    | bl j => cases ry; exact ne_bool (fin_bl I q (congrArg not dec_bl))
    | str j => obtain ⟨t', rfl⟩ := ry; exact PySem.EqMixed.ne_bool_str (fin_bl I q (by simp))
    | _ => exact absurd (show false = true from hs) Bool.false_ne_true
  | int i =>
    obtain ⟨t, rfl⟩ := rx
    cases y with
    | non => cases ry; exact PySem.EqNone.ne_int_none (fin_bl I q (by simp))
    | int j => obtain ⟨t', rfl⟩ := ry; exact ne_int (fin_bl I q (congrArg not dec_int))
    | str j => obtain ⟨t', rfl⟩ := ry; exact PySem.EqMixed.ne_int_str (fin_bl I q (by simp))
    | _ => exact absurd (show false = true from hs) Bool.false_ne_true
  | str i =>
    obtain ⟨t, rfl⟩ := rx
    cases y with
    | non => cases ry; exact PySem.EqNone.ne_str_none (fin_bl I q (by simp))
    | bl j => cases ry; exact PySem.EqMixed.ne_str_bool (fin_bl I q (by simp))
    | int j => obtain ⟨t', rfl⟩ := ry; exact PySem.EqMixed.ne_str_int (fin_bl I q (by simp))
    | str j => obtain ⟨t', rfl⟩ := ry; exact ne_str (fin_bl I q (congrArg not dec_str))
    | _ => exact absurd (show false = true from hs) Bool.false_ne_true
  | byt i =>
    obtain ⟨t, rfl⟩ := rx
    cases y with
    | byt j => obtain ⟨t', rfl⟩ := ry; exact PySem.W.ne_bytes (fin_bl I q (congrArg not dec_byt))
    | _ => exact absurd (show false = true from hs) Bool.false_ne_true
  | _ => cases y <;> exact absurd (show false = true from hs) Bool.false_ne_true

theorem op_lt : OpR X (compareOp .Lt) (rI0 fun i j => .bl (decide (i < j))) := opB0 fun _ _ _ _ _ _ _ q => lt_int q
theorem op_le : OpR X (compareOp .LtE) (rI0 fun i j => .bl (decide (i ≤ j))) := opB0 fun _ _ _ _ _ _ _ q => le_int q
theorem op_gt : OpR X (compareOp .Gt) (rI0 fun i j => .bl (decide (j < i))) := opB0 fun _ _ _ _ _ _ _ q => gt_int q
theorem op_ge : OpR X (compareOp .GtE) (rI0 fun i j => .bl (decide (j ≤ i))) := opB0 fun _ _ _ _ _ _ _ q => ge_int q
theorem op_lt_str : OpR X (compareOp .Lt) (fun x y H Q => ∃ i j, x = .str i ∧ y = .str j ∧ Q (.bl (decide (i.cps.toList < j.cps.toList))) H) := by
  intro pins s σ H x y v u Q I rx ry h
  obtain ⟨i, j, rfl, rfl, q⟩ := h
  obtain ⟨t, rfl⟩ := rx
  obtain ⟨t', rfl⟩ := ry
  exact lt_str (fin_bl I q rfl)
/-- the one string within the other -/
theorem op_in_str : OpR X (compareOp .In) (fun x y H Q => ∃ i j, x = .str i ∧ y = .str j ∧ Q (.bl (!(Builtin.Str.occurrences j i 0 j.length 1).isEmpty)) H) := by
  intro pins s σ H x y v u Q I rx ry h
  obtain ⟨i, j, rfl, rfl, q⟩ := h
  obtain ⟨t, rfl⟩ := rx
  obtain ⟨t', rfl⟩ := ry
  exact in_str (fin_bl I q rfl)

/-- is None, is not None: the right side a value none -/
theorem op_isN : OpR X (compareOp .Is) (fun x y H Q => y = .non ∧ Q (.bl (decide (x = .non))) H) := by
  intro pins s σ H x y v u Q I rx ry h
  obtain ⟨rfl, q⟩ := h
  cases ry
  refine is_none_gen (fin_bl I q ?_)
  cases x <;> first
    | (cases rx; rfl)
    | (obtain ⟨t, rfl⟩ := rx; rfl)
theorem op_notN : OpR X (compareOp .IsNot) (fun x y H Q => y = .non ∧ Q (.bl (!decide (x = .non))) H) := by
  intro pins s σ H x y v u Q I rx ry h
  obtain ⟨rfl, q⟩ := h
  cases ry
  refine isnot_none_gen (fin_bl I q ?_)
  cases x <;> first
    | (cases rx; rfl)
    | (obtain ⟨t, rfl⟩ := rx; rfl)

theorem op_notin_str : OpR X (compareOp .NotIn) (fun x y H Q => ∃ i j, x = .str i ∧ y = .str j ∧ Q (.bl (!(!(Builtin.Str.occurrences j i 0 j.length 1).isEmpty))) H) := by
  intro pins s σ H x y v u Q I rx ry h
  obtain ⟨i, j, rfl, rfl, q⟩ := h
  obtain ⟨t, rfl⟩ := rx
  obtain ⟨t', rfl⟩ := ry
  exact notIn_str (fin_bl I q rfl)
/-- is, is not of two objects that are tracked lists or instances -/
def isObj : HO → Bool
  | .lst _ => true
  | .ins _ _ _ => true
  | _ => false
theorem obj_there {pins : List (Addr × Obj)} {s : Shared} {σ : St} {H : Hp} {a : Addr} {o : HO} (I : Inv X pins σ H s) (h : H a = some o) (p : isObj o = true) : ∃ ob, s.heap.get? a = some ob ∧ ob.cls ≠ .type "tuple" := by
  cases o with
  | lst xs =>
    obtain ⟨_, its, n, _, e⟩ : xs.length ≤ sizeLine ∧ ∃ (its : List Value) (n : Nat), Vals xs its ∧ s.heap.get? a = some { cls := .type "list", data := .seq its.toArray n } := I.hok a _ h
    exact ⟨_, e, (by show Value.type "list" ≠ .type "tuple"; decide +kernel)⟩
  | ins C dx fs =>
    have x := I.hok a _ h
    obtain ⟨_, _, _, e, _⟩ := x
    exact ⟨_, e, (by show Value.ref C ≠ .type "tuple"; exact fun z => by cases z)⟩
  | _ => exact absurd (show false = true from p) Bool.false_ne_true
theorem op_is_ref : OpR X (compareOp .Is) (fun x y H Q => ∃ a b oa ob, x = .ref a ∧ y = .ref b ∧ H a = some oa ∧ isObj oa = true ∧ H b = some ob ∧ isObj ob = true ∧ Q (.bl (decide (a = b))) H) := by
  intro pins s σ H x y v u Q I rx ry h
  obtain ⟨a, b, oa, ob, rfl, rfl, ha, pa, hb, pb, q⟩ := h
  cases rx
  cases ry
  obtain ⟨o1, e1, n1⟩ := obj_there I ha pa
  obtain ⟨o2, e2, _⟩ := obj_there I hb pb
  by_cases z : a = b
  · subst z
    exact wpAny_is_ref_self (fin_bl I q (by simp))
  · exact wpAny_is_ref_other z e1 e2 n1 (fin_bl I q (by simp [z]))
theorem op_isnot_ref : OpR X (compareOp .IsNot) (fun x y H Q => ∃ a b oa ob, x = .ref a ∧ y = .ref b ∧ H a = some oa ∧ isObj oa = true ∧ H b = some ob ∧ isObj ob = true ∧ Q (.bl (!decide (a = b))) H) := by
  intro pins s σ H x y v u Q I rx ry h
  obtain ⟨a, b, oa, ob, rfl, rfl, ha, pa, hb, pb, q⟩ := h
  cases rx
  cases ry
  obtain ⟨o1, e1, n1⟩ := obj_there I ha pa
  obtain ⟨o2, e2, _⟩ := obj_there I hb pb
  by_cases z : a = b
  · subst z
    exact wpAny_isNot_ref_self (fin_bl I q (by simp))
  · exact wpAny_isNot_ref_other z e1 e2 n1 (fin_bl I q (by simp [z]))

/-- two rules for one operation: by cases -/
theorem OpR.or {f : Value → Value → Sem Value} {r r' : R2} (h : OpR X f r) (h' : OpR X f r') : OpR X f (fun x y H Q => r x y H Q ∨ r' x y H Q) := by
  intro pins s σ H x y v u Q I rx ry q
  rcases q with q | q
  · exact h pins s σ H x y v u Q I rx ry q
  · exact h' pins s σ H x y v u Q I rx ry q

theorem nomark (b : Expr) {op : CmpOp} (h : op ≠ .In := by decide) (h2 : op ≠ .NotIn := by decide) : behindInMarks op b = false := by
  have e1 : (op == CmpOp.In) = false := by cases op <;> first | rfl | exact absurd rfl h
  have e2 : (op == CmpOp.NotIn) = false := by cases op <;> first | rfl | exact absurd rfl h2
  cases b <;> simp [behindInMarks, e1, e2]
/-- a comparison as a value; hm: nomark b, or (for in, not in) by with_unfolding_all rfl -/
theorem pe_cmpR {op : CmpOp} {r : R2} (ho : OpR X (compareOp op) r) (ha : PE X a ta) (hb : PE X b tb) (hm : behindInMarks op b = false) : PE X (.Compare a [op] [b] pos) (tOp r ta tb) := by
  intro pins s σ H Q I h
  exact wpAny_Compare1 (binT ha hb I h fun v u s2 x y H2 I2 rx ry q => ho pins s2 σ H2 x y v u Q I2 rx ry q) hm
/-- a reading of a value as a test -/
def tTest (t : TE) : TT := fun σ H Q => t σ H fun x H' => ∃ k, x = .bl k ∧ Q k H'
theorem pt_cmpR {op : CmpOp} {r : R2} (ho : OpR X (compareOp op) r) (ha : PE X a ta) (hb : PE X b tb) (hm : behindInMarks op b = false) : PT X (.Compare a [op] [b] pos) (tTest (tOp r ta tb)) := by
  intro pins s σ H Q I h
  refine wpAny_isTrue_Compare1 (thn (ha pins s σ H _ I h) fun v s1 ⟨x, H1, I1, r1, q1⟩ => thn (hb pins s1 σ H1 _ I1 q1) fun u s2 ⟨y, H2, I2, r2, q2⟩ =>
    thn (ho pins s2 σ H2 x y v u _ I2 r1 r2 q2) fun c s3 ⟨z, H3, I3, r3, k, e, q3⟩ => ?_) hm
  subst e
  cases r3
  exact wpAny_truthy_bool ⟨H3, I3, q3⟩
/-- a op1 b op2 c -/
def tChain (r r' : R2) (ta tb tc : TE) : TE := fun σ H Q => ta σ H fun x H1 => tb σ H1 fun y H2 => r x y H2 fun z H3 => ∃ k, z = .bl k ∧
  (if k = true then tc σ H3 fun w' H4 => r' y w' H4 Q else Q (.bl false) H3)
theorem pe_chain {op op' : CmpOp} {r r' : R2} (ho : OpR X (compareOp op) r) (ho' : OpR X (compareOp op') r') (ha : PE X a ta) (hb : PE X b tb) (hc : PE X c tc)
    (hm : lastMarks [op, op'] [b, c] = false := by with_unfolding_all rfl) : PE X (.Compare a [op, op'] [b, c] pos) (tChain r r' ta tb tc) := by
  intro pins s σ H Q I h
  refine Compare_chain (thn (ha pins s σ H _ I h) fun v s1 ⟨x, H1, I1, r1, q1⟩ => chain_link (thn (hb pins s1 σ H1 _ I1 q1) fun u s2 ⟨y, H2, I2, r2, q2⟩ =>
    thn (ho pins s2 σ H2 x y v u _ I2 r1 r2 q2) fun d s3 ⟨z, H3, I3, r3, k, e, q3⟩ => ?_)) hm
  subst e
  cases r3
  refine wpAny_truthy_bool ?_
  cases k with
  | false => exact ite_ff ⟨.bl false, H3, I3, rfl, q3⟩
  | true => exact ite_tt (chain_last (thn (hc pins s3 σ H3 _ I3 q3) fun w' s4 ⟨z', H4, I4, r4, q4⟩ => ho' pins s4 σ H4 y z' u w' Q I4 r2 r4 q4))
theorem pt_chain {op op' : CmpOp} {r r' : R2} (ho : OpR X (compareOp op) r) (ho' : OpR X (compareOp op') r') (ha : PE X a ta) (hb : PE X b tb) (hc : PE X c tc)
    (hm : lastMarks [op, op'] [b, c] = false := by with_unfolding_all rfl) : PT X (.Compare a [op, op'] [b, c] pos) (tTest (tChain r r' ta tb tc)) := by
  intro pins s σ H Q I h
  refine isTrue_chain (thn (ha pins s σ H _ I h) fun v s1 ⟨x, H1, I1, r1, q1⟩ => test_link (thn (hb pins s1 σ H1 _ I1 q1) fun u s2 ⟨y, H2, I2, r2, q2⟩ =>
    thn (ho pins s2 σ H2 x y v u _ I2 r1 r2 q2) fun d s3 ⟨z, H3, I3, r3, k, e, q3⟩ => ?_)) hm
  subst e
  cases r3
  refine wpAny_truthy_bool ?_
  cases k with
  | false =>
    obtain ⟨k', e', q'⟩ := q3
    cases e'
    exact ite_ff ⟨H3, I3, q'⟩
  | true =>
    refine ite_tt (test_last (thn (hc pins s3 σ H3 _ I3 q3) fun w' s4 ⟨z', H4, I4, r4, q4⟩ => thn (ho' pins s4 σ H4 y z' u w' _ I4 r2 r4 q4) fun d' s5 ⟨z2, H5, I5, r5, k2, e2, q5⟩ => ?_))
    subst e2
    cases r5
    exact wpAny_truthy_bool ⟨H5, I5, q5⟩

/-! ### truth -/
/-- a value's truth by the abstract heap -/
def TruV (K : PySem.W.Frag) (x : V) (H : Hp) (k : Bool) : Prop :=
  match x with
  | .non => k = false
  | .bl b => k = b
  | .int i => k = (i != 0)
  | .str y => y.length ≤ sizeLine ∧ k = ((y.length : Int) != 0)
  | .byt y => y.size ≤ sizeLine ∧ k = ((y.size : Int) != 0)
  | .ref p => (∃ xs, SqL K H p xs ∧ k = !xs.isEmpty) ∨ (∃ xs, SqT K H p xs ∧ k = !xs.isEmpty) ∨ ∃ kvs, H p = some (.dK kvs) ∧ k = !kvs.isEmpty
  | _ => False
theorem isEmpty_kv {κ : Type} {kvs : List (κ × V)} {vs : List (κ × Value)} (r : KV kvs vs) : (!vs.isEmpty) = !kvs.isEmpty := by
  cases r <;> rfl
theorem isEmpty_of {xs : List V} {its : List Value} (r : Vals xs its) : (!its.toArray.isEmpty) = !xs.isEmpty := by
  cases r <;> simp
theorem line63 : (sizeLine : Nat) < 2 ^ 63 := by rw [sizeLine_eq]; decide
theorem tru_ok : TruR X (fun x H Q => ∃ k, TruV X.K x H k ∧ Q k H) := by
  intro pins s σ H x v Q I rx h
  obtain ⟨k, e, q⟩ := h
  have hl := line63
  have hs : sizeLine = 16777216 := sizeLine_eq
  cases x with
  | non =>
    cases rx
    have e' : k = false := e
    subst e'
    exact truthy_none ⟨H, I, q⟩
  | bl b =>
    cases rx
    have e' : k = b := e
    subst e'
    exact wpAny_truthy_bool ⟨H, I, q⟩
  | int i =>
    obtain ⟨t, rfl⟩ := rx
    have e' : k = (i != 0) := e
    subst e'
    exact PySem.P.truthy_int ⟨H, I, q⟩
  | str y =>
    obtain ⟨t, rfl⟩ := rx
    obtain ⟨hy, e'⟩ : y.length ≤ sizeLine ∧ k = ((y.length : Int) != 0) := e
    subst e'
    exact PySem.P.truthy_str (by omega) ⟨H, I.tok _, q⟩
  | byt y =>
    obtain ⟨t, rfl⟩ := rx
    obtain ⟨hy, e'⟩ : y.size ≤ sizeLine ∧ k = ((y.size : Int) != 0) := e
    subst e'
    exact PySem.W.truthy_bytes (by omega) ⟨H, I.tok _, q⟩
  | ref p =>
    cases rx
    have e' : (∃ xs, SqL X.K H p xs ∧ k = !xs.isEmpty) ∨ (∃ xs, SqT X.K H p xs ∧ k = !xs.isEmpty) ∨ ∃ kvs, H p = some (.dK kvs) ∧ k = !kvs.isEmpty := e
    rcases e' with ⟨xs, hx, e'⟩ | ⟨xs, hx, e'⟩ | ⟨kvs, hx, e'⟩
    · subst e'
      obtain ⟨its, r, pl, hz⟩ := I.list hx
      have hlen := r.length
      exact wpAny_truthy_list pl.isList (by simp only [List.size_toArray]; omega) ⟨H, I.tok _, by rw [isEmpty_of r]; exact q⟩
    · subst e'
      obtain ⟨its, r, pl, hz⟩ := I.tuple hx
      have hlen := r.length
      exact truthy_tuple pl (by simp only [List.size_toArray]; omega) ⟨H, I.tok _, by rw [isEmpty_of r]; exact q⟩
    · subst e'
      obtain ⟨hz, hS, vs, r, m⟩ : kvs.length ≤ sizeLine ∧ (p == sysModules) = false ∧ ∃ vs, KV kvs vs ∧ s.heap.DictOf (mixKind X.prog X.w) p vs := I.hok p _ hx
      have hlen : kvs.length = vs.length := Paired.length r
      exact wpAny_truthy_dict hS m (by omega) ⟨H, I.tok _, by rw [isEmpty_kv r]; exact q⟩
  | _ => exact (show False from e).elim
/-- any expression whose test is its value's truth (a name, a call, a subscript, a field ..: he by fun _ => rfl) -/
theorem pt_truth (ha : PE X a ta) (he : ∀ whole, isTrue a X.env whole = (do let v ← whole; standAt a.pos; holding [v] (truthy v))) :
    PT X a (fun σ H Q => ta σ H fun x H' => ∃ k, TruV X.K x H' k ∧ Q k H') := by
  intro pins s σ H Q I h
  exact isTrue_plain (thn (ha pins s σ H _ I h) fun v s1 ⟨x, H1, I1, r1, q1⟩ => tru_ok pins s1 σ H1 x v Q I1 r1 q1) (he _)

/-! ### strs and bytes -/
theorem pe_byt {x : List UInt8} {k : Nat} : PE X (.Constant (.bytes x) k pos) (fun _ H Q => Q (.byt x.toArray) H) := fun _ _ _ H _ I h => PySem.W.Constant_bytes ⟨.byt x.toArray, H, I.tok _, ⟨_, rfl⟩, h⟩
theorem op_add_str : OpR X (binaryOp .Add) (fun x y H Q => ∃ i j, x = .str i ∧ y = .str j ∧ i.length + j.length ≤ sizeLine ∧ Q (.str (i ++ j)) H) := by
  intro pins s σ H x y v u Q I rx ry h
  obtain ⟨i, j, rfl, rfl, hz, q⟩ := h
  obtain ⟨t, rfl⟩ := rx
  obtain ⟨t', rfl⟩ := ry
  exact add_str (fun t' tk => ⟨.str (i ++ j), H, I.tok _, ⟨_, rfl⟩, q⟩) hz
theorem iop_add_str : OpR X (inplaceOp .Add) (fun x y H Q => ∃ i j, x = .str i ∧ y = .str j ∧ i.length + j.length ≤ sizeLine ∧ Q (.str (i ++ j)) H) := by
  intro pins s σ H x y v u Q I rx ry h
  obtain ⟨i, j, rfl, rfl, hz, q⟩ := h
  obtain ⟨t, rfl⟩ := rx
  obtain ⟨t', rfl⟩ := ry
  exact iadd_str (fun t' tk => ⟨.str (i ++ j), H, I.tok _, ⟨_, rfl⟩, q⟩) hz
theorem op_add_byt : OpR X (binaryOp .Add) (fun x y H Q => ∃ i j, x = .byt i ∧ y = .byt j ∧ i.size + j.size ≤ 16777216 ∧ Q (.byt (i ++ j)) H) := by
  intro pins s σ H x y v u Q I rx ry h
  obtain ⟨i, j, rfl, rfl, hz, q⟩ := h
  obtain ⟨t, rfl⟩ := rx
  obtain ⟨t', rfl⟩ := ry
  exact PySem.W.KBy.add_bytes hz (fun t' tk => ⟨.byt (i ++ j), H, I.tok _, ⟨_, rfl⟩, q⟩)

def PlainIxT (b : Expr) : Prop := ∀ o i, subscripted b false o i = operate [o, i] (getItem o i)
/-- s[i], 0 ≤ i < len -/
theorem pe_item_str (ha : PE X a ta) (hb : PE X b tb) (hs : PlainIxT b) :
    PE X (.Subscript a b pos) (tOp (fun x y H Q => ∃ z i c, x = .str z ∧ y = .int i ∧ 0 ≤ i ∧ i < 2 ^ 63 ∧ i < z.length ∧ z.cps[i.toNat]? = some c ∧ Q (.str ⟨#[c]⟩) H) ta tb) := by
  intro pins s σ H Q I h
  refine Subscript_ (binT ha hb I h fun v u s2 x y H2 I2 rx ry q => ?_)
  obtain ⟨z, i, c, rfl, rfl, h0, h63, h1, hc, q⟩ := q
  obtain ⟨t, rfl⟩ := rx
  obtain ⟨t', rfl⟩ := ry
  have e : seqIndex? i z.length = some i.toNat := PySem.StrLaws.seqIndex_nonneg h0 h1
  exact tail_any (typeIs_str s2 z t) slot_str_getitem.lookup (getItem_str (c := c) (by
    have e1 : decide (i < -(2 ^ 63 : Int)) = false := decide_eq_false (by omega)
    have e2 : decide (i ≥ 2 ^ 63) = false := decide_eq_false (by omega)
    rw [e1, e2] <;> rfl) (by rw [e]; exact hc) ⟨.str ⟨#[c]⟩, H2, I2.tok _, ⟨_, rfl⟩, q⟩) (hs _ _)
/-- b[i], 0 ≤ i < len -/
theorem pe_item_byt (ha : PE X a ta) (hb : PE X b tb) (hs : PlainIxT b) :
    PE X (.Subscript a b pos) (tOp (fun x y H Q => ∃ (z : List UInt8) (i : Int), x = .byt z.toArray ∧ y = .int i ∧ z.length ≤ sizeLine ∧ 0 ≤ i ∧ i < z.length ∧ Q (.int ((z.getD i.toNat 0).toNat : Nat)) H) ta tb) := by
  intro pins s σ H Q I h
  refine Subscript_ (binT ha hb I h fun v u s2 x y H2 I2 rx ry q => ?_)
  obtain ⟨z, i, rfl, rfl, hz, h0, h1, q⟩ := q
  obtain ⟨t, rfl⟩ := rx
  obtain ⟨t', rfl⟩ := ry
  have hl : sizeLine = 16777216 := sizeLine_eq
  exact tail_any (PySem.W.typeIs_bytes s2 z.toArray t) PySem.W.FB.slot_bytes_getitem.lookup (PySem.W.getItem_bytes (by omega) h0 h1 ⟨.int ((z.getD i.toNat 0).toNat : Nat), H2, I2.tok _, ⟨_, rfl⟩, q⟩) (hs _ _)

/-! ### scalar builtins, by CallR -/
theorem vals1 {x : V} {us : List Value} (r : Vals [x] us) : ∃ u, us = [u] ∧ RelV x u := by
  cases r with
  | cons r1 r2 => cases r2; exact ⟨_, rfl, r1⟩
theorem vals2 {x y : V} {us : List Value} (r : Vals [x, y] us) : ∃ u w', us = [u, w'] ∧ RelV x u ∧ RelV y w' := by
  cases r with
  | cons r1 r2 =>
    cases r2 with
    | cons r3 r4 => cases r4; exact ⟨_, _, rfl, r1, r3⟩
theorem call_abs : CallR X (.builtin "abs") (fun xs H Q => ∃ i, xs = [.int i] ∧ Q (.int (if i < 0 then -i else i)) H) := by
  intro pins s σ H xs us Q I r h
  obtain ⟨i, rfl, q⟩ := h
  obtain ⟨u, rfl, t, rfl⟩ := vals1 r
  exact call_abs_int fun u tk => ⟨.int (if i < 0 then -i else i), H, I.tok _, ⟨_, rfl⟩, q⟩
theorem call_max2 (hc : X.calm = true) : CallR X (.builtin "max") (fun xs H Q => ∃ i j, xs = [.int i, .int j] ∧ Q (.int (if j > i then j else i)) H) := by
  intro pins s σ H xs us Q I r h
  obtain ⟨i, j, rfl, q⟩ := h
  obtain ⟨u, w', rfl, ⟨t, rfl⟩, ⟨t', rfl⟩⟩ := vals2 r
  refine max_two_ints (I.ok.hd hc) fun h' tk k => ⟨_, H, I.kept k, ?_, q⟩
  by_cases hj : j > i
  · rw [if_pos hj, if_pos hj]; exact ⟨_, rfl⟩
  · rw [if_neg hj, if_neg hj]; exact ⟨_, rfl⟩
theorem call_min2 (hc : X.calm = true) : CallR X (.builtin "min") (fun xs H Q => ∃ i j, xs = [.int i, .int j] ∧ Q (.int (if j < i then j else i)) H) := by
  intro pins s σ H xs us Q I r h
  obtain ⟨i, j, rfl, q⟩ := h
  obtain ⟨u, w', rfl, ⟨t, rfl⟩, ⟨t', rfl⟩⟩ := vals2 r
  refine min_two_ints (I.ok.hd hc) fun h' tk k => ⟨_, H, I.kept k, ?_, q⟩
  by_cases hj : j < i
  · rw [if_pos hj, if_pos hj]; exact ⟨_, rfl⟩
  · rw [if_neg hj, if_neg hj]; exact ⟨_, rfl⟩
theorem call_int1 : CallR X (.type "int") (fun xs H Q => (∃ i, xs = [.int i] ∧ Q (.int i) H) ∨ ∃ k, xs = [.bl k] ∧ Q (.int (if k then 1 else 0)) H) := by
  intro pins s σ H xs us Q I r h
  rcases h with ⟨i, rfl, q⟩ | ⟨k, rfl, q⟩
  · obtain ⟨u, rfl, t, rfl⟩ := vals1 r
    exact call_int_int ⟨.int i, H, I, ⟨_, rfl⟩, q⟩
  · obtain ⟨u, rfl, r1⟩ := vals1 r
    cases r1
    exact call_int_bool ⟨.int (if k then 1 else 0), H, I.tok _, ⟨_, rfl⟩, q⟩
theorem call_bool1 : CallR X (.type "bool") (fun xs H Q => (∃ i, xs = [.int i] ∧ Q (.bl (i != 0)) H) ∨ ∃ k, xs = [.bl k] ∧ Q (.bl k) H) := by
  intro pins s σ H xs us Q I r h
  rcases h with ⟨i, rfl, q⟩ | ⟨k, rfl, q⟩
  · obtain ⟨u, rfl, t, rfl⟩ := vals1 r
    exact call_bool_int ⟨.bl (i != 0), H, I, rfl, q⟩
  · obtain ⟨u, rfl, r1⟩ := vals1 r
    cases r1
    exact call_bool_bool ⟨.bl k, H, I, rfl, q⟩
theorem call_str_int : CallR X (.type "str") (fun xs H Q => ∃ i, xs = [.int i] ∧ i.natAbs.log2 < 1920 ∧ Q (.str (toString i)) H) := by
  intro pins s σ H xs us Q I r h
  obtain ⟨i, rfl, hz, q⟩ := h
  obtain ⟨u, rfl, t, rfl⟩ := vals1 r
  exact PySem.P.str_of_int hz ⟨.str _, H, I.tok _, ⟨_, rfl⟩, q⟩
theorem call_ord : CallR X (.builtin "ord") (fun xs H Q => ∃ x, xs = [.str x] ∧ x.length = 1 ∧ Q (.int (x.cps.getD 0 0 : Nat)) H) := by
  intro pins s σ H xs us Q I r h
  obtain ⟨x, rfl, hz, q⟩ := h
  obtain ⟨u, rfl, t, rfl⟩ := vals1 r
  exact ord_of_one hz ⟨.int _, H, I.tok _, ⟨_, rfl⟩, q⟩
theorem call_chr : CallR X (.builtin "chr") (fun xs H Q => ∃ i, xs = [.int i] ∧ 0 ≤ i ∧ i ≤ 1114111 ∧ Q (.str ⟨#[i.toNat]⟩) H) := by
  intro pins s σ H xs us Q I r h
  obtain ⟨i, rfl, h0, h1, q⟩ := h
  obtain ⟨u, rfl, t, rfl⟩ := vals1 r
  exact chr_of_range h0 h1 ⟨.str _, H, I.tok _, ⟨_, rfl⟩, q⟩
/-- len of a str, a bytes, a list, a tuple -/
def LenV (K : PySem.W.Frag) (x : V) (H : Hp) (n : Nat) : Prop :=
  match x with
  | .str y => y.length ≤ sizeLine ∧ n = y.length
  | .byt y => y.size ≤ sizeLine ∧ n = y.size
  | .ref p => (∃ xs, SqL K H p xs ∧ n = xs.length) ∨ ∃ xs, SqT K H p xs ∧ n = xs.length
  | _ => False
theorem call_len : CallR X (.builtin "len") (fun xs H Q => ∃ x n, xs = [x] ∧ LenV X.K x H n ∧ Q (.int n) H) := by
  intro pins s σ H xs us Q I r h
  obtain ⟨x, n, rfl, e, q⟩ := h
  obtain ⟨u, rfl, rx⟩ := vals1 r
  have hl := line63
  have hs : sizeLine = 16777216 := sizeLine_eq
  cases x with
  | str y =>
    obtain ⟨t, rfl⟩ := rx
    obtain ⟨hy, e'⟩ : y.length ≤ sizeLine ∧ n = y.length := e
    subst e'
    exact len_str (by omega) ⟨.int _, H, I.tok _, ⟨_, rfl⟩, q⟩
  | byt y =>
    obtain ⟨t, rfl⟩ := rx
    obtain ⟨hy, e'⟩ : y.size ≤ sizeLine ∧ n = y.size := e
    subst e'
    exact PySem.W.len_bytes (by omega) ⟨.int _, H, I.tok _, ⟨_, rfl⟩, q⟩
  | ref p =>
    cases rx
    have e' : (∃ xs, SqL X.K H p xs ∧ n = xs.length) ∨ ∃ xs, SqT X.K H p xs ∧ n = xs.length := e
    rcases e' with ⟨xs, hx, e'⟩ | ⟨xs, hx, e'⟩
    · subst e'
      obtain ⟨its, r', pl, hz⟩ := I.list hx
      have hlen := r'.length
      exact Calls.call_len_list pl.isList (by simp only [List.size_toArray]; omega) ⟨.int xs.length, H, I.tok _, ⟨_, by simp only [List.size_toArray]; rw [hlen]⟩, q⟩
    · subst e'
      obtain ⟨its, r', pl, hz⟩ := I.tuple hx
      have hlen := r'.length
      exact len_tuple pl (by simp only [List.size_toArray]; omega) ⟨.int xs.length, H, I.tok _, ⟨_, by simp only [List.size_toArray]; rw [hlen]⟩, q⟩
  | _ => exact (show False from e).elim
/-- divmod: a new tuple -/
theorem call_divmod : CallR X (.builtin "divmod") (fun xs H Q => ∃ i j, xs = [.int i, .int j] ∧ CDiv i j ∧ ∀ p, H p = none → Q (.ref p) (upd H p (.tup [.int (i / j), .int (i % j)]))) := by
  intro pins s σ H xs us Q I r h
  obtain ⟨i, j, rfl, ⟨h1, h2⟩, q⟩ := h
  obtain ⟨u, w', rfl, ⟨t, rfl⟩, ⟨t', rfl⟩⟩ := vals2 r
  refine divmod_int (by omega) ?_ (.inl (PyProof.noPylong_small (by omega)))
  rw [Int.fdiv_eq_ediv_of_nonneg i (by omega), Int.fmod_eq_emod_of_nonneg i (by omega)]
  have hn : H s.heap.objs.size = none := I.hok.fresh (Nat.le_refl _)
  refine ⟨.ref s.heap.objs.size, _, ?_, rfl, q _ hn⟩
  refine I.laid (fun b o e => Heap.get?_push_of_some _ e) (Nat.le_refl _) ⟨by simp only [List.length_cons, List.length_nil]; rw [sizeLine_eq]; decide, [.int (i / j) s.toks, .int (i % j) (s.toks + 1)], .cons ⟨_, rfl⟩ (.cons ⟨_, rfl⟩ .nil), ?_⟩
  exact ⟨_, Heap.get?_push_size s.heap rfl, rfl, 0, rfl⟩
end
end L2

namespace L2
open PySem PySem.Spec PyProof.Rows

/-! ### an instance, its attributes a map -/
structure ObjM (h : Heap) (x dx C : Addr) (mA : Str → Option Value) : Prop where
  obj : h.get? x = some (PySem.W.instObj C dx)
  ns : h.Ns1 dx mA
  ne : dx ≠ x

theorem lookIn_ns {h : Heap} {dx : Addr} {mA : Str → Option Value} (n : h.Ns1 dx mA) : ∃ od, h.get? dx = some od ∧ ∀ name, PySem.W.lookIn name od = some (mA name) := by
  obtain ⟨o, es, ep, ho, hd, hk, _, hm⟩ := n
  refine ⟨o, ho, fun name => ?_⟩
  have e := hm name
  unfold nsFind findBy at e
  rw [← Array.find?_toList] at e
  unfold PySem.W.lookIn
  rw [hd]
  dsimp only
  split
  · rename_i y q
    rw [q] at e
    exact congrArg some e
  · rename_i q
    rw [q] at e
    have a : es.toList.any (·.refKey) = false := by
      rw [List.any_eq_false]
      intro y hy
      obtain ⟨z, t, hkey⟩ := hk y (Array.mem_toList_iff.mp hy)
      simp [DictEntry.refKey, hkey]
    have a' : ¬ es.toList.any (·.refKey) = true := by rw [a]; exact Bool.false_ne_true
    rw [if_neg a']
    exact congrArg some e

theorem ObjM.look {h : Heap} {x dx C : Addr} {mA : Str → Option Value} (I : ObjM h x dx C mA) : ∃ od, PySem.W.InstAt h x (PySem.W.instObj C dx) C (some od) ∧ ∀ name, PySem.W.lookIn name od = some (mA name) :=
  let ⟨od, ho, hl⟩ := lookIn_ns I.ns
  ⟨od, ⟨I.obj, rfl, rfl, ho⟩, hl⟩

section
variable {prog : Program} {w : World} {A : Around} {E : Value → Shared → Prop} {s : Shared} {K : PySem.W.Frag} {x dx C f : Addr} {mA : Str → Option Value} {name : Str} {v : Value}

theorem get_map {expr : Bool} {Q : Value → Shared → Prop} (X : K.In s.heap) (I : ObjM s.heap x dx C mA) (hg : PySem.W.plainGet K C name = true) (hh : PySem.W.hasDictIn K C = true)
    (ha : PySem.W.findIn K (.ref C) name = some none) (hv : mA name = some v) (hv' : PySem.W.handedIn v = true) (h : Q v { s with toks := s.toks + 1 }) :
    wpAny (model prog w) A (getAttr (.ref x) name expr) Q E s := by
  obtain ⟨od, J, hl⟩ := I.look
  exact PySem.W.get_value X J (PySem.W.plainGet_of hg).1 (PySem.W.findObj_own hh ha rfl (by rw [hl, hv])) hv' h

theorem get_const {expr : Bool} {a : Value} {Q : Value → Shared → Prop} (X : K.In s.heap) (I : ObjM s.heap x dx C mA) (hg : PySem.W.plainGet K C name = true) (hh : PySem.W.hasDictIn K C = true)
    (ha : PySem.W.findIn K (.ref C) name = some (some a)) (hn : PySem.W.specialIn K a "__get__" = some none) (hc : PySem.W.copiedNames.contains name = false) (hv : mA name = none) (hv' : PySem.W.handedIn a = true)
    (h : Q a { s with toks := s.toks + 1 }) : wpAny (model prog w) A (getAttr (.ref x) name expr) Q E s := by
  obtain ⟨od, J, hl⟩ := I.look
  exact PySem.W.get_value X J (PySem.W.plainGet_of hg).1 (PySem.W.findObj_cls hh ha hn hv' hc (by rw [hl, hv])) hv' h

theorem get_meth {pl : Sem Bool} {Q : Value × List Value → Shared → Prop} (X : K.In s.heap) (I : ObjM s.heap x dx C mA) (hg : PySem.W.plainGet K C name = true)
    (hf : PySem.W.findIn K (.ref C) name = some (some (.ref f))) (ht : PySem.W.isFn K (.ref f) = true) (hv : mA name = none) (h : Q (.ref f, [.ref x]) s) :
    wpAny (model prog w) A (getMethod (.ref x) name pl) Q E s := by
  obtain ⟨od, J, hl⟩ := I.look
  exact PySem.W.method_fn X J (PySem.W.plainGet_of hg).1 (PySem.W.plainGet_of hg).2 hf (beq_iff_eq.mp ht) (by show (PySem.W.lookIn name od).map (·.isSome) = some false; rw [hl, hv]; rfl) h

theorem set_map {ns : List Str} {Q : Unit → Shared → Prop} (X : K.In s.heap) (I : ObjM s.heap x dx C mA)
    (hs : PySem.W.findIn K (.ref C) "__setattr__" = some (some (.builtin "object.__setattr__"))) (hp : PySem.W.plainOver K C = true) (ht : PySem.W.takerIn K C name = some none) (hh : PySem.W.hasDictIn K C = true)
    (hw : PySem.Within mA ns) (hsz : ns.length ≤ sizeLine)
    (h : ∀ h', ObjM h' x dx C (fun y => if y = name then some v else mA y) → Heap.SameBut dx s.heap h' → Q () { s with heap := h', toks := s.toks + 2 }) :
    wpAny (model prog w) A (setAttr (.ref x) name v) Q E s := by
  obtain ⟨od, J, hl⟩ := I.look
  refine PySem.W.set_plain X J hs (PySem.W.osa_open (s := { s with toks := s.toks + 1 }) (r := none) X J hp ht fun b => ?_)
  obtain ⟨cd, hc, hd'⟩ := PySem.W.any_some hh
  have hx : s.heap.get? x = some ⟨.ref C, some dx, .plain, #[]⟩ := I.obj
  refine wpAny_bind (wpAny_pure (wpAny_bind (wpAny_bind (wpAny_loadPart hx (wpAny_bind (PySem.W.Looks.here (s := { s with toks := s.toks + 1 }) (PySem.W.looks_clsIn X hc) ?_))))))
  rw [hd']
  refine wpAny_pure (a := some dx) (wpAny_bind (wpAny_pure (wpAny_bind ?_)))
  refine wpAny_nsSet1 (s := { s with toks := s.toks + 1 }) I.ns fun h' hn2 hs2 => ?_
  obtain ⟨oD, esD, epD, hoD, hdD, hcD⟩ := hn2.count (PySem.Within.cons name v hw)
  refine wpAny_bind (wpAny_lookBehind hoD (by rw [hdD]; exact pastItsLine_dict (Nat.le_trans hcD (by rw [List.length_cons]; omega))) ?_)
  exact wpAny_pure (h _ ⟨(hs2.2 _ (Ne.symm I.ne)).trans I.obj, hn2, I.ne⟩ hs2)

/-- C(..): the dict at the heap's end, the instance behind it; then its __init__ -/
theorem make_map {R : Result → Shared → Prop} {vs : List Value} {kw : List (Str × Value)} (X : K.In s.heap) (hm : PySem.W.makesIn K C = true)
    (hi : PySem.W.findIn K (.ref C) "__init__" = some (some (.ref f))) (hf : PySem.W.typeIn K (.ref f) = some (.type "function"))
    (h : codeAny (model prog w) (A.under (.builtin "type.__call__" ⟨.ref C :: vs, kw⟩)) (.call (.ref f) ⟨.ref (s.heap.objs.size + 1) :: vs, kw⟩) (PySem.W.InitBack (s.heap.objs.size + 1) R)
      { s with heap := (s.heap.push PySem.W.emptyDict).push (PySem.W.instObj C s.heap.objs.size) }) :
    codeAny (model prog w) A (.call (.ref C) ⟨vs, kw⟩) R s := by
  obtain ⟨hh, g, d, t, os⟩ := s
  exact PySem.W.make_core (PySem.W.makes_of X hm) (PySem.W.looks_findIn X hi) (fun self => PySem.W.bind_fn X self hf) (.inl rfl) h
/-- C() where there is no __init__ but object's -/
theorem make_map0 {R : Result → Shared → Prop} (X : K.In s.heap) (hm : PySem.W.makesIn K C = true)
    (hi : PySem.W.findIn K (.ref C) "__init__" = some (some (.builtin "object.__init__")))
    (hb : ∀ self, PySem.W.Looks (model prog w) s.heap (bindSpecial (.builtin "object.__init__") self) (.builtin "object.__init__", [self]))
    (h : codeAny (model prog w) (A.under (.builtin "type.__call__" ⟨[.ref C], []⟩)) (.call (.builtin "object.__init__") ⟨[.ref (s.heap.objs.size + 1)], []⟩) (PySem.W.InitBack (s.heap.objs.size + 1) R)
      { s with heap := (s.heap.push PySem.W.emptyDict).push (PySem.W.instObj C s.heap.objs.size) }) :
    codeAny (model prog w) A (.call (.ref C) ⟨[], []⟩) R s := by
  obtain ⟨hh, g, d, t, os⟩ := s
  exact PySem.W.make_core (PySem.W.makes_of X hm) (PySem.W.looks_findIn X hi) hb (.inr ⟨rfl, rfl⟩) h
end

/-! ### the attributes as a list of pairs -/
def putF (f : Str) (v : V) : List (Str × V) → List (Str × V)
  | [] => [(f, v)]
  | (g, x) :: r => if g = f then (g, v) :: r else (g, x) :: putF f v r
theorem lookup_putF (f g : Str) (v : V) : ∀ fs : List (Str × V), (putF f v fs).lookup g = if g = f then some v else fs.lookup g
  | [] => by
    show List.lookup g [(f, v)] = _
    by_cases h : g = f
    · have hb : (g == f) = true := beq_iff_eq.mpr h
      simp only [List.lookup, hb, if_pos h]
    · have hb : (g == f) = false := beq_eq_false_iff_ne.mpr h
      simp only [List.lookup, hb, if_neg h]
  | (k, x) :: r => by
    have ih := lookup_putF f g v r
    rw [show putF f v ((k, x) :: r) = (if k = f then (k, v) :: r else (k, x) :: putF f v r) from rfl]
    by_cases hk : k = f
    · rw [if_pos hk]
      by_cases h : g = k
      · have hb : (g == k) = true := beq_iff_eq.mpr h
        simp only [List.lookup, hb, if_pos (h.trans hk)]
      · have hb : (g == k) = false := beq_eq_false_iff_ne.mpr h
        simp only [List.lookup, hb, if_neg (fun e : g = f => h (e.trans hk.symm))]
    · rw [if_neg hk]
      by_cases h : g = k
      · have hb : (g == k) = true := beq_iff_eq.mpr h
        simp only [List.lookup, hb, if_neg (fun e : g = f => hk (h.symm.trans e))]
      · have hb : (g == k) = false := beq_eq_false_iff_ne.mpr h
        simp only [List.lookup, hb]
        exact ih
theorem keys_putF (f : Str) (v : V) : ∀ fs : List (Str × V), f ∈ (putF f v fs).map (·.1) ∧ ∀ g, g ∈ fs.map (·.1) → g ∈ (putF f v fs).map (·.1)
  | [] => ⟨by simp [putF], fun g h => by simp at h⟩
  | (k, x) :: r => by
    obtain ⟨i1, i2⟩ := keys_putF f v r
    rw [show putF f v ((k, x) :: r) = (if k = f then (k, v) :: r else (k, x) :: putF f v r) from rfl]
    by_cases hk : k = f
    · rw [if_pos hk]
      subst hk
      exact ⟨by simp, fun g h => by simpa using h⟩
    · rw [if_neg hk]
      refine ⟨?_, fun g h => ?_⟩
      · rw [List.map_cons]
        exact List.mem_cons_of_mem _ i1
      · rw [List.map_cons] at h ⊢
        rcases List.mem_cons.mp h with e | e
        · exact List.mem_cons.mpr (.inl e)
        · exact List.mem_cons_of_mem _ (i2 g e)
theorem length_putF (f : Str) (v : V) : ∀ fs : List (Str × V), (putF f v fs).length ≤ fs.length + 1
  | [] => by simp [putF]
  | (k, x) :: r => by
    have ih := length_putF f v r
    rw [show putF f v ((k, x) :: r) = (if k = f then (k, v) :: r else (k, x) :: putF f v r) from rfl]
    by_cases hk : k = f
    · rw [if_pos hk, List.length_cons, List.length_cons]; omega
    · rw [if_neg hk, List.length_cons, List.length_cons]; omega

theorem RelO.some_of {v : V} {o : Option Value} (r : RelO (some v) o) : ∃ u, o = some u ∧ RelV v u := by
  cases o with
  | none => exact (show False from r).elim
  | some u => exact ⟨u, rfl, r⟩
theorem RelO.none_of {o : Option Value} (r : RelO none o) : o = none := by
  cases o with
  | none => rfl
  | some u => exact (show False from r).elim
theorem handed_of {v : V} {u : Value} (r : RelV v u) : PySem.W.handedIn u = true := by
  cases v with
  | non => cases (show u = Value.none from r); rfl
  | bl b => cases (show u = Value.bool b from r); rfl
  | int i => obtain ⟨t, e⟩ := (show ∃ t, u = Value.int i t from r); cases e; rfl
  | str x => obtain ⟨t, e⟩ := (show ∃ t, u = Value.str x t from r); cases e; rfl
  | byt b => obtain ⟨t, e⟩ := (show ∃ t, u = Value.bytes b t from r); cases e; rfl
  | flt b => obtain ⟨t, e⟩ := (show ∃ t, u = Value.float b t from r); cases e; rfl
  | ref a => cases (show u = Value.ref a from r); rfl
  | ty n => cases (show u = Value.type n from r); rfl

section
variable {P : Program} {w : World} {H H' : Hp} {h h' : Heap} {a C dx : Addr} {fs fs' : List (Str × V)}
theorem ins_get (hok : HOk P w H h) (e : H a = some (.ins C dx fs)) : ∃ mA, ObjM h a dx C mA ∧ (∀ f, RelO (fs.lookup f) (mA f)) ∧ PySem.Within mA (fs.map (·.1)) ∧ fs.length ≤ 1000 ∧ H dx = some (.own a) := by
  obtain ⟨d, z, ne, ob, mA, n, r, q⟩ := (show ObjOk P w H h a (.ins C dx fs) from hok a _ e)
  exact ⟨mA, ⟨ob, n, ne⟩, r, q, z, d⟩
end

/-! ### what of the text a class must have -/
structure Cls (K : PySem.W.Frag) (C : Addr) : Prop where
  pg : PySem.W.plainGet K C Str.empty = true
  hd : PySem.W.hasDictIn K C = true
  po : PySem.W.plainOver K C = true
  sa : PySem.W.findIn K (.ref C) "__setattr__" = some (some (.builtin "object.__setattr__"))
theorem Cls.get {K : PySem.W.Frag} {C : Addr} (c : Cls K C) (f : Str) : PySem.W.plainGet K C f = true := c.pg
/-- no class of it has the name -/
def NoAttr (K : PySem.W.Frag) (C : Addr) (f : Str) : Prop := PySem.W.findIn K (.ref C) f = some none
theorem NoAttr.taker {K : PySem.W.Frag} {C : Addr} {f : Str} (n : NoAttr K C f) : PySem.W.takerIn K C f = some none := by
  unfold PySem.W.takerIn
  rw [show PySem.W.findIn K (.ref C) f = some none from n]
  rfl
/-- a constant of the class -/
structure Con (K : PySem.W.Frag) (C : Addr) (f : Str) (v : V) (u : Value) : Prop where
  at_ : PySem.W.findIn K (.ref C) f = some (some u)
  rel : RelV v u
  get : PySem.W.specialIn K u "__get__" = some none
  cp : PySem.W.copiedNames.contains f = false
/-- a method: a plain def of the class or of one above it -/
structure Meth (K : PySem.W.Frag) (C : Addr) (m : Str) (f : Addr) : Prop where
  at_ : PySem.W.findIn K (.ref C) m = some (some (.ref f))
  fn : PySem.W.isFn K (.ref f) = true
  kp : PySem.W.keepIn K (.ref f) = true

section
variable {X : Cx} {pins : List (Addr × Obj)} {σ : St} {H : Hp} {s : Shared} {a C dx : Addr} {fs : List (Str × V)} {f : Str} {v : V} {A : Around} {E : Value → Shared → Prop}

theorem getattr_ok {b : Bool} {Q : Value → Shared → Prop} (I : Inv X pins σ H s) (e : H a = some (.ins C dx fs)) (c : Cls X.K C) (n : NoAttr X.K C f) (l : fs.lookup f = some v)
    (h : ∀ u s', Inv X pins σ H s' → RelV v u → Q u s') : wpAny (model X.prog X.w) A (getAttr (.ref a) f b) Q E s := by
  obtain ⟨mA, O, r, _, _, _⟩ := ins_get I.hok e
  obtain ⟨u, hu, ru⟩ := RelO.some_of (v := v) (o := mA f) (by rw [← l]; exact r f)
  exact get_map I.kIn O (c.get f) c.hd n hu (handed_of ru) (h u _ (I.tok _) ru)

theorem getcon_ok {b : Bool} {u : Value} {Q : Value → Shared → Prop} (I : Inv X pins σ H s) (e : H a = some (.ins C dx fs)) (c : Cls X.K C) (k : Con X.K C f v u) (l : fs.lookup f = none)
    (h : ∀ s', Inv X pins σ H s' → Q u s') : wpAny (model X.prog X.w) A (getAttr (.ref a) f b) Q E s := by
  obtain ⟨mA, O, r, _, _, _⟩ := ins_get I.hok e
  have hn : mA f = none := RelO.none_of (by rw [← l]; exact r f)
  exact get_const I.kIn O (c.get f) c.hd k.at_ k.get k.cp hn (handed_of k.rel) (h _ (I.tok _))

theorem getmeth_ok {m : Str} {g : Addr} {pl : Sem Bool} {Q : Value × List Value → Shared → Prop} (I : Inv X pins σ H s) (e : H a = some (.ins C dx fs)) (c : Cls X.K C) (k : Meth X.K C m g) (l : fs.lookup m = none)
    (h : Q (.ref g, [.ref a]) s) : wpAny (model X.prog X.w) A (getMethod (.ref a) m pl) Q E s := by
  obtain ⟨mA, O, r, _, _, _⟩ := ins_get I.hok e
  have hn : mA m = none := RelO.none_of (by rw [← l]; exact r m)
  exact get_meth I.kIn O (c.get m) k.at_ k.fn hn h

theorem setattr_ok {y : V} {u : Value} {Q : Unit → Shared → Prop} (I : Inv X pins σ H s) (e : H a = some (.ins C dx fs)) (c : Cls X.K C) (n : NoAttr X.K C f) (hl : fs.length < 1000) (ry : RelV y u)
    (h : ∀ s', Inv X pins σ (upd H a (.ins C dx (putF f y fs))) s' → Q () s') : wpAny (model X.prog X.w) A (setAttr (.ref a) f u) Q E s := by
  obtain ⟨mA, O, r, wi, _, ho⟩ := ins_get I.hok e
  have hz : (fs.map (·.1)).length ≤ sizeLine := by rw [List.length_map, sizeLine_eq]; omega
  refine set_map I.kIn O c.sa c.po n.taker c.hd wi hz fun h' O' sb => h _ ?_
  have hd : ∃ o, h'.get? dx = some o := let ⟨o, _, _, e', _⟩ := O'.ns; ⟨o, e'⟩
  refine I.write (x := a) (e := dx) (by rw [e]; exact True.intro) (.inr ho) (fun b q hb z => (sb.2 b hb).trans z) hd ?_
  refine ⟨by rw [upd_ne O.ne]; exact ho, ?_, O.ne, O'.obj, _, O'.ns, fun g => ?_, fun g hg => ?_⟩
  · have := length_putF f y fs; omega
  · show RelO ((putF f y fs).lookup g) (if g = f then some u else mA g)
    rw [lookup_putF]
    by_cases q : g = f
    · rw [if_pos q, if_pos q]; exact ry
    · rw [if_neg q, if_neg q]; exact r g
  · by_cases q : g = f
    · rw [q]; exact (keys_putF f y fs).1
    · refine (keys_putF f y fs).2 g (wi g fun z => hg ?_)
      show (if g = f then some u else mA g) = none
      rw [if_neg q]; exact z

/-- a new instance, tracked, without attributes -/
theorem Inv.made (I : Inv X pins σ H s) : Inv X pins σ (upd (upd H s.heap.objs.size (.own (s.heap.objs.size + 1))) (s.heap.objs.size + 1) (.ins C s.heap.objs.size []))
    { s with heap := (s.heap.push PySem.W.emptyDict).push (PySem.W.instObj C s.heap.objs.size) } := by
  have e1 : (s.heap.push PySem.W.emptyDict).get? s.heap.objs.size = some PySem.W.emptyDict := Heap.get?_push_size s.heap rfl
  have e2 : ((s.heap.push PySem.W.emptyDict).push (PySem.W.instObj C s.heap.objs.size)).get? (s.heap.objs.size + 1) = some (PySem.W.instObj C s.heap.objs.size) := by
    have := Heap.get?_push_size (s.heap.push PySem.W.emptyDict) (o := PySem.W.instObj C s.heap.objs.size) rfl
    rwa [Heap.size_push] at this
  have e3 : (s.heap.push PySem.W.emptyDict).Ns s.heap.objs.size (fun _ => none) := ⟨PySem.W.emptyDict, #[], _, e1, rfl, (fun e he => absurd he (by simp)), fun _ => rfl⟩
  have I1 := I.laid (a := s.heap.objs.size) (o := .own (s.heap.objs.size + 1)) (h' := s.heap.push PySem.W.emptyDict) (t' := s.toks) (fun b u q => Heap.get?_push_of_some _ q) (Nat.le_refl _) ⟨_, e1⟩
  refine I1.laid (a := s.heap.objs.size + 1) (o := .ins C s.heap.objs.size []) (t' := s.toks) (fun b u q => Heap.get?_push_of_some _ q) (Nat.le_of_eq (Heap.size_push _ _)) ?_
  have ne : s.heap.objs.size ≠ s.heap.objs.size + 1 := Nat.ne_of_lt (Nat.lt_succ_self _)
  refine ⟨by rw [upd_ne ne, upd_same], Nat.zero_le _, ne, e2, fun _ => none, (Heap.Ns1.of_empty e3).at fun o q => Heap.get?_push_of_some _ q, fun _ => True.intro, fun y hy => absurd rfl hy⟩

/-- e.f where nothing but the object is asked: through attributeBase (super) and the last hold -/
theorem attr_of {prog : Program} {w : World} {env : Env} {e : Expr} {f : Str} {pos : Pos} {s : Shared} {Q : Value → Shared → Prop} (hb : attributeBase e f env (eval e env) = eval e env)
    (h : wpAny (model prog w) A (eval e env) (fun o s₁ => wpAny (model prog w) A (getAttr o f true) Q E s₁) E s) : wpAny (model prog w) A (eval (.Attribute e f pos) env) Q E s :=
  Attribute_any_ h (by rw [arm_eval_Attribute, hb])
end

/-! ### readings and rules -/
/-- e.f, an attribute of the instance -/
def tFld (K : PySem.W.Frag) (ta : TE) (f : Str) : TE := fun σ H Q => ta σ H fun x H1 => ∃ a C dx fs v, x = .ref a ∧ H1 a = some (.ins C dx fs) ∧ Cls K C ∧ NoAttr K C f ∧ fs.lookup f = some v ∧ Q v H1
/-- e.f, a constant of the class -/
def tCon (K : PySem.W.Frag) (ta : TE) (f : Str) : TE := fun σ H Q => ta σ H fun x H1 => ∃ a C dx fs v u, x = .ref a ∧ H1 a = some (.ins C dx fs) ∧ Cls K C ∧ Con K C f v u ∧ fs.lookup f = none ∧ Q v H1
/-- e.f = value -/
def sFld (K : PySem.W.Frag) (ta tv : TE) (f : Str) : TS := fun D σ H => tv σ H fun y H1 => ta σ H1 fun x H2 => ∃ a C dx fs, x = .ref a ∧ H2 a = some (.ins C dx fs) ∧ Cls K C ∧ NoAttr K C f ∧ fs.length < 1000 ∧
  D.nx σ (upd H2 a (.ins C dx (putF f y fs)))
/-- an augmented operator on two values -/
def InOp (X : Cx) (op : Operator) (rd : V → V → Hp → VK → Prop) : Prop :=
  ∀ (pins : List (Addr × Obj)) (s : Shared) (σ : St) (H : Hp) (x y : V) (u v : Value) (Q : VK), Inv X pins σ H s → RelV x u → RelV y v → rd x y H Q → wpAny (model X.prog X.w) X.A (inplaceOp op u v) (EP X pins σ Q) X.xe s
/-- e.f op= value -/
def sFldAug (K : PySem.W.Frag) (ta tv : TE) (rd : V → V → Hp → VK → Prop) (f : Str) : TS := fun D σ H => ta σ H fun x H1 => ∃ a C dx fs v, x = .ref a ∧ H1 a = some (.ins C dx fs) ∧ Cls K C ∧ NoAttr K C f ∧ fs.lookup f = some v ∧
  tv σ H1 fun y H2 => rd v y H2 fun z H3 => ∃ dx' fs', H3 a = some (.ins C dx' fs') ∧ fs'.length < 1000 ∧ D.nx σ (upd H3 a (.ins C dx' (putF f z fs')))

section
variable {X : Cx} {o e value : Expr} {f : Str} {pos pos' tpos : Pos} {ta tv : TE}
theorem pe_fld (he : PE X e ta) (hb : attributeBase e f X.env (eval e X.env) = eval e X.env) : PE X (.Attribute e f pos) (tFld X.K ta f) := by
  intro pins s σ H Q I h
  refine attr_of hb (thn (he pins s σ H _ I h) fun u s1 ⟨x, H1, I1, rx, a, C, dx, fs, v, ex, ea, c, n, l, q⟩ => ?_)
  subst ex
  obtain rfl : u = Value.ref a := rx
  exact getattr_ok I1 ea c n l fun u' s2 I2 ru => ⟨v, H1, I2, ru, q⟩
theorem pe_con (he : PE X e ta) (hb : attributeBase e f X.env (eval e X.env) = eval e X.env) : PE X (.Attribute e f pos) (tCon X.K ta f) := by
  intro pins s σ H Q I h
  refine attr_of hb (thn (he pins s σ H _ I h) fun u s1 ⟨x, H1, I1, rx, a, C, dx, fs, v, u0, ex, ea, c, k, l, q⟩ => ?_)
  subst ex
  obtain rfl : u = Value.ref a := rx
  exact getcon_ok I1 ea c k l fun s2 I2 => ⟨v, H1, I2, k.rel, q⟩
theorem ps_fld (ha : PE X o ta) (hv : PE X value tv) (hs : swapsWith value (some (.Attribute o f pos')) pos.line X.env = pure false) : PS X (.Assign [.Attribute o f pos'] value pos) (sFld X.K ta tv f) := by
  intro pins s σ H D I h
  refine plainObj_wpAny_Assign_Attribute (thn (hv pins s σ H _ I h) fun u s1 ⟨y, H1, I1, ry, q⟩ => thn (ha pins s1 σ H1 _ I1 q) fun ov s2 ⟨x, H2, I2, rx, a, C, dx, fs, ex, ea, c, n, l, q2⟩ => ?_) hs
  subst ex
  obtain rfl : ov = Value.ref a := rx
  exact setattr_ok I2 ea c n l ry fun s3 I3 => ⟨σ, _, I3, q2⟩
theorem ps_fldaug {op : Operator} {rd : V → V → Hp → VK → Prop} (ha : PE X o ta) (hv : PE X value tv) (hop : InOp X op rd) : PS X (.AugAssign (.Attribute o f tpos) op value pos) (sFldAug X.K ta tv rd f) := by
  intro pins s σ H D I h
  refine wpAny_AugAssign_AttributeAny (thn (ha pins s σ H _ I h) fun ov s1 ⟨x, H1, I1, rx, a, C, dx, fs, v, ex, ea, c, n, l, q⟩ => ?_)
  subst ex
  obtain rfl : ov = Value.ref a := rx
  refine getattr_ok I1 ea c n l fun u s2 I2 ru => thn (hv pins s2 σ H1 _ I2 q) fun w3 s3 ⟨y, H2, I3, ry, q3⟩ => thn (hop pins s3 σ H2 v y u w3 _ I3 ru ry q3) fun w4 s4 ⟨z, H3, I4, rz, dx', fs', ea', l', q4⟩ => ?_
  exact setattr_ok I4 ea' c n l' rz fun s5 I5 => ⟨σ, _, I5, q4⟩
def rAdd : V → V → Hp → VK → Prop := fun x y H Q => ∃ i j, x = .int i ∧ y = .int j ∧ Q (.int (i + j)) H
def rSub : V → V → Hp → VK → Prop := fun x y H Q => ∃ i j, x = .int i ∧ y = .int j ∧ Q (.int (i - j)) H
theorem in_add : InOp X .Add rAdd := by
  rintro pins s σ H x y u v Q I rx ry ⟨i, j, rfl, rfl, q⟩
  obtain ⟨t, rfl⟩ := (show ∃ t, u = Value.int i t from rx)
  obtain ⟨t', rfl⟩ := (show ∃ t', v = Value.int j t' from ry)
  exact PyProof.Rows.iadd_int ⟨.int (i + j), H, I.tok _, ⟨_, rfl⟩, q⟩
theorem in_sub : InOp X .Sub rSub := by
  rintro pins s σ H x y u v Q I rx ry ⟨i, j, rfl, rfl, q⟩
  obtain ⟨t, rfl⟩ := (show ∃ t, u = Value.int i t from rx)
  obtain ⟨t', rfl⟩ := (show ∃ t', v = Value.int j t' from ry)
  exact PyProof.Rows.isub_int ⟨.int (i - j), H, I.tok _, ⟨_, rfl⟩, q⟩

/-- what is between an instance and its method: the tree of a method call -/
theorem methcall_of {pl : Sem Bool} {m : Str} {apos : Pos} {args : List Expr} {pins : List (Addr × Obj)} {s : Shared} {σ : St} {H : Hp} {Q : Value → Shared → Prop} {te : TE} (he : PE X e te) (I : Inv X pins σ H s)
    (h : te σ H fun x H1 => ∃ a C dx fs g, x = .ref a ∧ H1 a = some (.ins C dx fs) ∧ Cls X.K C ∧ Meth X.K C m g ∧ fs.lookup m = none ∧
      ∀ s1, Inv X pins σ H1 s1 → wpAny (model X.prog X.w) X.A (callWith pos (.ref g) [.ref a] (backTo pos (starEach args X.env)) (backToKw pos (keywordEach [] X.env))) Q X.xe s1)
    (ht : eval (.Call (.Attribute e m apos) args [] pos) X.env = (do
      let ov ← eval e X.env
      standAt apos.atName
      let (f, first) ← holding [ov] (getMethod ov m pl)
      callWith pos f first (backTo pos (starEach args X.env)) (backToKw pos (keywordEach [] X.env)))) :
    wpAny (model X.prog X.w) X.A (eval (.Call (.Attribute e m apos) args [] pos) X.env) Q X.xe s := by
  refine PySem.W.methodCall_KW (pl := pl) (thn (he pins s σ H _ I h) fun u s1 ⟨x, H1, I1, rx, a, C, dx, fs, g, ex, ea, c, k, l, q⟩ => ?_) ht
  subst ex
  obtain rfl : u = Value.ref a := rx
  exact getmeth_ok I1 ea c k l (q s1 I1)
end

/-! ### isinstance -/
section
variable {X : Cx} {pins : List (Addr × Obj)} {σ : St} {H : Hp} {s : Shared} {A : Around} {E : Value → Shared → Prop} {Q : Value → Shared → Prop} {c : Value} {b : Bool}
/-- the type of a value, as the fragment's deciders take it; for an instance its class -/
inductive TyOf (K : PySem.W.Frag) (H : Hp) : V → Value → Prop where
  | non : TyOf K H .non (.type "NoneType")
  | bl (x : Bool) : TyOf K H (.bl x) (.type "bool")
  | int (i : Int) : TyOf K H (.int i) (.type "int")
  | str (x : Str) : TyOf K H (.str x) (.type "str")
  | flt (x : UInt64) : TyOf K H (.flt x) (.type "float")
  | lst {a : Addr} {xs : List V} (e : H a = some (.lst xs)) : TyOf K H (.ref a) (.type "list")
  | frz {a : Addr} {o : Obj} {xs : List V} (e : H a = some (.frz o (.lst xs))) : TyOf K H (.ref a) (.type "list")
  | tup {a : Addr} {xs : List V} (e : H a = some (.tup xs)) : TyOf K H (.ref a) (.type "tuple")
  | dK {a : Addr} {kvs : List (Key × V)} (e : H a = some (.dK kvs)) : TyOf K H (.ref a) (.type "dict")
  | dT {a : Addr} {kvs : List (List Key × V)} (e : H a = some (.dT kvs)) : TyOf K H (.ref a) (.type "dict")
  | ins {a C dx : Addr} {fs : List (Str × V)} (e : H a = some (.ins C dx fs)) (cl : Cls K C) (ha : PySem.W.findIn K (.ref C) "__class__" = some (some (.builtin "object.__class__")))
      (hn : PySem.W.specialIn K (.builtin "object.__class__") "__get__" = some (some (.builtin "getset_descriptor.__get__"))) (htk : PySem.W.takesIn K (.builtin "object.__class__") = some true)
      (hm : PySem.W.mroIn K C (.type "object") = some true) : TyOf K H (.ref a) (.ref C)
/-- isinstance(x, c) for one class c, a built-in or an own one: kitOne's answer -/
theorem isinst_ok {x : V} {u t : Value} (I : Inv X pins σ H s) (rx : RelV x u) (ty : TyOf X.K H x t) (e : PySem.W.kitOne X.K t c = some b) (h : ∀ tk, Q (.bool b) { s with toks := tk }) :
    wpAny (model X.prog X.w) A (call (.builtin "isinstance") [u, c]) Q E s := by
  cases ty with
  | non => cases (show u = Value.none from rx); exact PySem.W.kia_one PySem.W.kitx_none I.kIn True.intro e (fun z => nomatch z) h
  | bl y => cases (show u = Value.bool y from rx); exact PySem.W.kia_one PySem.W.kitx_bool I.kIn True.intro e (fun z => nomatch z) h
  | int i => obtain ⟨t, q⟩ := (show ∃ t, u = Value.int i t from rx); cases q; exact PySem.W.kia_one PySem.W.kitx_int I.kIn True.intro e (fun z => nomatch z) h
  | str y => obtain ⟨t, q⟩ := (show ∃ t, u = Value.str y t from rx); cases q; exact PySem.W.kia_one PySem.W.kitx_str I.kIn True.intro e (fun z => nomatch z) h
  | flt y => obtain ⟨t, q⟩ := (show ∃ t, u = Value.float y t from rx); cases q; exact PySem.W.kia_one PySem.W.kitx_float I.kIn True.intro e (fun z => nomatch z) h
  | @lst a xs ea =>
    cases (show u = Value.ref a from rx)
    obtain ⟨_, _, n, _, h1⟩ := (show ObjOk X.prog X.w H s.heap a (.lst xs) from I.hok a _ ea)
    exact PySem.W.kia_one PySem.W.kitx_list I.kIn ⟨_, h1, rfl⟩ e (fun z => nomatch z) h
  | @frz a ob xs ea =>
    cases (show u = Value.ref a from rx)
    obtain ⟨_, _, _, n, _, h1⟩ := (show ObjOk X.prog X.w H s.heap a (.frz ob (.lst xs)) from I.hok a _ ea)
    exact PySem.W.kia_one PySem.W.kitx_list I.kIn ⟨_, h1, rfl⟩ e (fun z => nomatch z) h
  | @tup a xs ea =>
    cases (show u = Value.ref a from rx)
    obtain ⟨_, _, _, p⟩ := (show ObjOk X.prog X.w H s.heap a (.tup xs) from I.hok a _ ea)
    obtain ⟨o, h1, h2, _⟩ := p
    exact PySem.W.kia_one PySem.W.kitx_tuple I.kIn ⟨o, h1, h2⟩ e (fun z => nomatch z) h
  | @dK a kvs ea =>
    cases (show u = Value.ref a from rx)
    obtain ⟨_, _, vs, _, p⟩ := (show ObjOk X.prog X.w H s.heap a (.dK kvs) from I.hok a _ ea)
    obtain ⟨o, es, ep, h1, h2, _⟩ := p
    exact PySem.W.kia_one PySem.W.kitx_dict I.kIn ⟨o, h1, h2.1⟩ e (fun z => nomatch z) h
  | @dT a kvs ea =>
    cases (show u = Value.ref a from rx)
    obtain ⟨_, _, xs, _, o, es, ep, h1, h2, _⟩ := (show ObjOk X.prog X.w H s.heap a (.dT kvs) from I.hok a _ ea)
    exact PySem.W.kia_one PySem.W.kitx_dict I.kIn ⟨o, h1, h2.1⟩ e (fun z => nomatch z) h
  | @ins a C dx fs ea cl ha hn htk hm =>
    cases (show u = Value.ref a from rx)
    obtain ⟨mA, O, _⟩ := ins_get I.hok ea
    obtain ⟨od, J, _⟩ := O.look
    exact PySem.W.kia_one (PySem.W.kitx_own (cl.get _) cl.hd ha hn htk hm) I.kIn J e (fun z => nomatch z) h
end
end L2

namespace L2
open PySem PySem.Spec PyProof.Rows

/-! ### room -/
structure Room (k : Nat) (A : Around) : Prop where
  hd : A.handled = none
  dp : A.depth + 3 * k + 5 < recursionLimit
  un : A.units + 16 * k + 200 < cLine
theorem Room.mono {j k : Nat} {A : Around} (r : Room k A) (h : j ≤ k) : Room j A := ⟨r.hd, by have := r.dp; omega, by have := r.un; omega⟩
theorem Room.deeper {k : Nat} {A : Around} (r : Room (k + 1) A) (env : Env) : Room k (A.deeper env) :=
  ⟨r.hd, by have := r.dp; show A.depth + 1 + 3 * k + 5 < _; omega, by have := r.un; show A.units + 3 + 16 * k + 200 < _; omega⟩
theorem Room.in1 {k : Nat} {A : Around} (r : Room (k + 1) A) : Room k A.in1 :=
  ⟨r.hd, by have := r.dp; show A.depth + 3 * k + 5 < _; omega, by have := r.un; show A.units + 1 + 16 * k + 200 < _; omega⟩
theorem make_depth {A : Around} {C : Addr} {us : List Value} {kw : List (Str × Value)} : (A.under (.builtin "type.__call__" ⟨.ref C :: us, kw⟩)).depth = A.depth + 1 := by
  first | rfl | simp [Around.under, Code.weight, Code.isCreation, Code.isGuard, Code.isCaller, Code.frames, Code.isFrame, guardIds]
theorem make_units {A : Around} {C : Addr} {us : List Value} {kw : List (Str × Value)} : (A.under (.builtin "type.__call__" ⟨.ref C :: us, kw⟩)).units = A.units + 1 := by
  first | rfl | simp [Around.under, Code.cUnits, Code.frames, Code.isFrame]
theorem Room.make {k : Nat} {A : Around} (r : Room (k + 1) A) (C : Addr) (us : List Value) (kw : List (Str × Value)) : Room k (A.under (.builtin "type.__call__" ⟨.ref C :: us, kw⟩)) :=
  ⟨r.hd, by have := r.dp; rw [make_depth]; omega, by have := r.un; rw [make_units]; omega⟩
theorem Room.depth {k : Nat} {A : Around} (r : Room k A) : A.depth < recursionLimit := by have := r.dp; omega
theorem Room.units {k : Nat} {A : Around} (r : Room k A) : A.units + 64 < cLine := by have := r.un; omega
theorem Room.units0 {k : Nat} {A : Around} (r : Room k A) : A.units < cLine := by have := r.un; omega

/-! ### argument lists and displays -/
def tNil : TA := fun _ H Q => Q [] H
def tCons (ta : TE) (tr : TA) : TA := fun σ H Q => ta σ H fun x H1 => tr σ H1 fun xs H2 => Q (x :: xs) H2
section
variable {X : Cx} {e : Expr} {es : List Expr} {te : TE} {t : TA} {pos : Pos}
theorem pa_nil : PA X [] tNil := fun _ _ _ _ H Q I h => Calls.spliced_nil ⟨[], H, I, .nil, h⟩
theorem pa_cons (ha : PE X e te) (hr : PA X es t) (hs : starEach (e :: es) X.env = (false, eval e X.env) :: starEach es X.env := by rfl) : PA X (e :: es) (tCons te t) := by
  intro pos pins s σ H Q I h
  rw [hs]
  show wpAny _ _ (spliced ((false, eval e X.env) :: backTo pos (starEach es X.env))) _ _ s
  refine Calls.spliced_cons (thn (ha pins s σ H _ I h) fun u s1 ⟨x, H1, I1, r1, q1⟩ => ?_)
  exact thn (hr pos pins s1 σ H1 _ I1 q1) fun us s2 ⟨xs, H2, I2, r2, q2⟩ => ⟨x :: xs, H2, I2, .cons r1 r2, q2⟩

/-- a tuple, a list of written items -/
def tTup (t : TA) : TE := fun σ H Q => t σ H fun xs H1 => xs.length ≤ sizeLine ∧ ∀ p, H1 p = none → Q (.ref p) (upd H1 p (.tup xs))
def tLst (t : TA) : TE := fun σ H Q => t σ H fun xs H1 => xs.length ≤ sizeLine ∧ ∀ p, H1 p = none → Q (.ref p) (upd H1 p (.lst xs))
theorem pe_tup {x1} (h : PA X es t) : PE X (.Tuple es x1 pos) (tTup t) := by
  intro pins s σ H Q I hq
  refine wpAny_Tuple_spliced (thn (h pos pins s σ H _ I hq) fun us s1 ⟨xs, H1, I1, r, z, q⟩ => ⟨by rw [← r.length]; exact z, ?_⟩)
  have hf : H1 s1.heap.objs.size = none := I1.hok.fresh (Nat.le_refl _)
  refine ⟨.ref s1.heap.objs.size, upd H1 s1.heap.objs.size (.tup xs), I1.laid (t' := s1.toks) (fun b u e => Heap.get?_push_of_some _ e) (Nat.le_refl _) ?_, rfl, q _ hf⟩
  exact ⟨z, us, r, ⟨_, Heap.get?_push_size _ rfl, rfl, _, rfl⟩⟩
theorem pe_lst (h : PA X es t) : PE X (.List es pos) (tLst t) := by
  intro pins s σ H Q I hq
  refine wpAny_List_spliced (thn (h pos pins s σ H _ I hq) fun us s1 ⟨xs, H1, I1, r, z, q⟩ => ⟨by rw [← r.length]; exact z, ?_⟩)
  have hf : H1 s1.heap.objs.size = none := I1.hok.fresh (Nat.le_refl _)
  refine ⟨.ref s1.heap.objs.size, upd H1 s1.heap.objs.size (.lst xs), I1.laid (t' := s1.toks) (fun b u e => Heap.get?_push_of_some _ e) (Nat.le_refl _) ?_, rfl, q _ hf⟩
  exact ⟨z, us, 0, r, Heap.get?_push_size _ rfl⟩
end

/-! ### what a def promises -/
/-- a def's promise: the bound arguments in the parameters' order, the heap, the wanted end, the wanted exception -/
abbrev Sp := List V → Hp → VK → XK → Prop
/-- how an exception lies behind a call (file 08 gives it): the callers' frames, abstract heap and state ahead of the call, the wish, the exception, the state -/
abbrev CXT := List Env → Hp → Shared → XK → Value → Shared → Prop

/-- the state at a call -/
structure Env0 (P : Program) (w : World) (K : PySem.W.Frag) (mg : Str → Option Value) (base : Heap) (A : Around) (outer : List Env) (s : Shared) (H : Hp) : Prop where
  frames : A.frames = some outer
  mod : Mod K mg base
  bs : ∀ b o, base.get? b = some o → s.heap.get? b = some o ∧ H b = none
  bsz : base.objs.size ≤ s.heap.objs.size
  funs : s.heap.FunFrames base outer
  frf : ∀ b ∈ frs outer, H b = none
  hok : HOk P w H s.heap
  bare : AllBare s.gens
/-- a call's end -/
def CE (outer : List Env) (P : Program) (w : World) (H : Hp) (s : Shared) (Q : VK) (u : Value) (s' : Shared) : Prop :=
  ∃ v H', s'.os = s.os ∧ AllBare s'.gens ∧ Un (frs outer) [] H H' s.heap s'.heap ∧ HOk P w H' s'.heap ∧ RelV v u ∧ Q v H'
def CR (CX : CXT) (outer : List Env) (P : Program) (w : World) (H : Hp) (s : Shared) (Q : VK) (E : XK) (r : Result) (s' : Shared) : Prop :=
  match r with
  | .ok (.ret u) => CE outer P w H s Q u s'
  | .ok _ => False
  | .error e => CX outer H s E e s'
structure FnOk (P : Program) (w : World) (K : PySem.W.Frag) (mg : Str → Option Value) (base : Heap) (CX : CXT) (k : Nat) (f : Addr) (fd : FuncData) (ps : List Str) (sp : Sp) : Prop where
  len : ∀ vs H Q E, sp vs H Q E → vs.length = ps.length
  run : ∀ (A : Around) (outer : List Env) (s : Shared) (H : Hp) (args : Args) (us : List Value) (vs : List V) (Q : VK) (E : XK), Room k A → Env0 P w K mg base A outer s H → BindsTo s fd args (ps.zip us) → Vals vs us → sp vs H Q E →
    codeAny (model P w) A (.call (.ref f) args) (CR CX outer P w H s Q E) s
theorem FnOk.mono {P : Program} {w : World} {K : PySem.W.Frag} {mg : Str → Option Value} {base : Heap} {CX : CXT} {j k : Nat} {f : Addr} {fd : FuncData} {ps : List Str} {sp : Sp} (F : FnOk P w K mg base CX j f fd ps sp) (h : j ≤ k) :
    FnOk P w K mg base CX k f fd ps sp := ⟨F.len, fun A outer s H args us vs Q E hr => F.run A outer s H args us vs Q E (hr.mono h)⟩
/-- a weaker promise -/
theorem FnOk.imp {P : Program} {w : World} {K : PySem.W.Frag} {mg : Str → Option Value} {base : Heap} {CX : CXT} {k : Nat} {f : Addr} {fd : FuncData} {ps : List Str} {sp sp' : Sp} (F : FnOk P w K mg base CX k f fd ps sp)
    (h : ∀ vs H Q E, sp' vs H Q E → sp vs H Q E) : FnOk P w K mg base CX k f fd ps sp' :=
  ⟨fun vs H Q E q => F.len vs H Q E (h _ _ _ _ q), fun A outer s H args us vs Q E hr he hb hv hs => F.run A outer s H args us vs Q E hr he hb hv (h _ _ _ _ hs)⟩

theorem Env0.make {P : Program} {w : World} {K : PySem.W.Frag} {mg : Str → Option Value} {base : Heap} {A : Around} {outer : List Env} {s : Shared} {H : Hp} (e : Env0 P w K mg base A outer s H) (C : Addr) (us : List Value) (kw : List (Str × Value)) :
    Env0 P w K mg base (A.under (.builtin "type.__call__" ⟨.ref C :: us, kw⟩)) outer s H := ⟨by first | exact e.frames | (simpa [Around.under, Code.envs, Code.isFrame, pushEnvs] using e.frames), e.mod, e.bs, e.bsz, e.funs, e.frf, e.hok, e.bare⟩
theorem Env0.in1 {P : Program} {w : World} {K : PySem.W.Frag} {mg : Str → Option Value} {base : Heap} {A : Around} {outer : List Env} {s : Shared} {H : Hp} (e : Env0 P w K mg base A outer s H) :
    Env0 P w K mg base A.in1 outer s H := ⟨e.frames, e.mod, e.bs, e.bsz, e.funs, e.frf, e.hok, e.bare⟩

section
variable {X : Cx} {pins : List (Addr × Obj)} {σ : St} {H : Hp} {s s' : Shared}
/-- from a body: what a callee wants -/
theorem Inv.env0 (I : Inv X pins σ H s) : Env0 X.prog X.w X.K X.mg X.base X.A X.stack s H :=
  ⟨I.ok.frames, I.ok.mod, I.bs, Nat.le_trans I.ok.bsz I.sz, I.stack, I.stkFree, I.hok, I.bare⟩
/-- behind a call -/
theorem Inv.after {Q : VK} {u : Value} (I : Inv X pins σ H s) (h : CE X.stack X.prog X.w H s Q u s') : EP X pins σ Q u s' := by
  obtain ⟨v, H', os, bare, un, hok, r, q⟩ := h
  obtain ⟨hh, g, d, t, os'⟩ := s'
  obtain rfl : os' = s.os := os
  exact ⟨v, H', I.call (h' := hh) (g' := g) (d' := d) (t' := t) (ch := []) un hok bare (fun b z => absurd z (by simp)), r, q⟩
end

/-! ### calls -/
/-- f(..): the written arguments, then the defaults dvs; E: what is wanted of an exception -/
def tCall (sp : Sp) (dvs : List V) (E : XK) (t : TA) : TE := fun σ H Q => t σ H fun vs H1 => sp (vs ++ dvs) H1 Q E
/-- o.m(..) of an instance of the class at C -/
def tMeth (C : Addr) (m : Str) (sp : Sp) (dvs : List V) (E : XK) (ta : TE) (t : TA) : TE := fun σ H Q => ta σ H fun x H1 => ∃ a dx fs, x = .ref a ∧ H1 a = some (.ins C dx fs) ∧ fs.lookup m = none ∧
  t σ H1 fun vs H2 => sp (x :: (vs ++ dvs)) H2 Q E
/-- C(..): a new instance and its dict, then __init__ -/
def tMake (C : Addr) (sp : Sp) (dvs : List V) (E : XK) (t : TA) : TE := fun σ H Q => t σ H fun vs H1 => ∀ x dx, H1 x = none → H1 dx = none → dx ≠ x →
  sp (.ref x :: (vs ++ dvs)) (upd (upd H1 dx (.own x)) x (.ins C dx [])) (fun v H2 => v = .non ∧ Q (.ref x) H2) E

/-- how the parameters are bound: us the positional arguments, kw the keywords' values by name, ds the defaults that fill up -/
def Binds (K : PySem.W.Frag) (fd : FuncData) (ps : List Str) (ds : List Value) : Prop :=
  ∀ (s : Shared) (us : List Value), K.In s.heap → (us ++ ds).length = ps.length → BindsTo s fd ⟨us, []⟩ (ps.zip (us ++ ds))
/-- every parameter is given -/
theorem Binds.all {K : PySem.W.Frag} {fd : FuncData} {ps : List Str} (h : ∀ us : List Value, us.length = ps.length → bindArgs fd ⟨us, []⟩ = pure (ps.zip us)) : Binds K fd ps [] := fun s us _ hl => by
  rw [List.append_nil] at hl ⊢
  exact .of_eq (h us hl)

/-- an exception of a callee reaches what this body wants of exceptions -/
def Passes (CX : CXT) (X : Cx) (E : XK) : Prop := ∀ (pins : List (Addr × Obj)) (σ : St) (H : Hp) (s : Shared) (e : Value) (s' : Shared), Inv X pins σ H s → CX X.stack H s E e s' → X.xe e s'

section
variable {X : Cx} {CX : CXT} {k : Nat} {f C : Addr} {fd : FuncData} {ps : List Str} {sp : Sp} {dvs : List V} {ds : List Value} {E : XK} {x m : Str} {p pos apos : Pos} {e o : Expr} {es : List Expr} {ta : TE} {t : TA}

/-- the callee runs -/
theorem run_fn {pins : List (Addr × Obj)} {σ : St} {H : Hp} {s : Shared} {Q : VK} {us : List Value} {vs : List V} (F : FnOk X.prog X.w X.K X.mg X.base CX k f fd ps sp) (hr : Room k X.A) (hb : Binds X.K fd ps ds) (hd : Vals dvs ds) (hx : Passes CX X E)
    (I : Inv X pins σ H s) (r : Vals vs us) (h : sp (vs ++ dvs) H Q E) : wpAny (model X.prog X.w) X.A (call (.ref f) us) (EP X pins σ Q) X.xe s := by
  have r2 : Vals (vs ++ dvs) (us ++ ds) := r.append hd
  have hl : (us ++ ds).length = ps.length := by rw [← r2.length]; exact F.len _ _ _ _ h
  refine wpAny_call (codeAny_mono (F.run X.A X.stack s H ⟨us, []⟩ (us ++ ds) (vs ++ dvs) Q E hr I.env0 (hb s us I.kIn hl) r2 h) fun r s' hq => ?_)
  cases r with
  | error e => exact hx pins σ H s e s' I hq
  | ok fl =>
    cases fl with
    | ret u => exact I.after hq
    | next => exact False.elim hq
    | brk => exact False.elim hq
    | cont => exact False.elim hq

theorem pe_call (F : FnOk X.prog X.w X.K X.mg X.base CX k f fd ps sp) (hr : Room k X.A) (hg : Gl X x) (hm : X.mg x = some (.ref f)) (hk : PySem.W.keepIn X.K (.ref f) = true) (hb : Binds X.K fd ps ds) (hd : Vals dvs ds) (hx : Passes CX X E)
    (ha : PA X (e :: es) t) (hdb : (x == ("__debug__" : Str)) = false := by decide) (he : starEach (e :: es) X.env = (false, eval e X.env) :: starEach es X.env := by rfl) (hpl : (backTo pos (starEach es X.env)).any (·.1) = false := by rfl) :
    PE X (.Call (.Name x p) (e :: es) [] pos) (tCall sp dvs E t) := by
  intro pins s σ H Q I h
  refine wpAny_Call_Name_kw (ld_glob I hg hm ?_ hdb)
  refine PySem.W.callWith_K (h₀ := X.base) I.ok.mod.kin hk (thn (ha pos pins s σ H _ I h) fun us s1 ⟨vs, H1, I1, r, q⟩ => ⟨I1.kIn, ?_⟩) he hpl
  exact run_fn F hr hb hd hx I1 r q
theorem pe_call0 (F : FnOk X.prog X.w X.K X.mg X.base CX k f fd ps sp) (hr : Room k X.A) (hg : Gl X x) (hm : X.mg x = some (.ref f)) (hk : PySem.W.keepIn X.K (.ref f) = true) (hb : Binds X.K fd ps ds) (hd : Vals dvs ds) (hx : Passes CX X E)
    (hdb : (x == ("__debug__" : Str)) = false := by decide) : PE X (.Call (.Name x p) [] [] pos) (tCall sp dvs E tNil) := by
  intro pins s σ H Q I h
  refine wpAny_Call_Name_kw (ld_glob I hg hm ?_ hdb)
  exact PySem.W.callWith_K0 I.kIn hk (run_fn (us := []) F hr hb hd hx I .nil h)

/-- o.m(e, ..) -/
theorem pe_meth {pl : Sem Bool} (he : PE X o ta) (c : Cls X.K C) (hm : Meth X.K C m f) (F : FnOk X.prog X.w X.K X.mg X.base CX k f fd ps sp) (hr : Room k X.A) (hb : Binds X.K fd ps ds) (hd : Vals dvs ds) (hx : Passes CX X E) (ha : PA X (e :: es) t)
    (hst : starEach (e :: es) X.env = (false, eval e X.env) :: starEach es X.env := by rfl) (hpl : (backTo pos (starEach es X.env)).any (·.1) = false := by rfl)
    (ht : eval (.Call (.Attribute o m apos) (e :: es) [] pos) X.env = (do
      let ov ← eval o X.env
      standAt apos.atName
      let (f, first) ← holding [ov] (getMethod ov m pl)
      callWith pos f first (backTo pos (starEach (e :: es) X.env)) (backToKw pos (keywordEach [] X.env))) := by rfl) :
    PE X (.Call (.Attribute o m apos) (e :: es) [] pos) (tMeth C m sp dvs E ta t) := by
  intro pins s σ H Q I h
  refine PySem.W.methodCall_KW (pl := pl) (thn (he pins s σ H _ I h) fun u s1 ⟨x, H1, I1, rx, a, dx, fs, ex, ea, l, q⟩ => ?_) ht
  subst ex
  obtain rfl : u = Value.ref a := rx
  refine getmeth_ok I1 ea c hm l ?_
  refine PySem.W.callWith_K (first := [.ref a]) (h₀ := X.base) I.ok.mod.kin hm.kp (thn (ha pos pins s1 σ H1 _ I1 q) fun us s2 ⟨vs, H2, I2, r, q2⟩ => ⟨I2.kIn, ?_⟩) hst hpl
  exact run_fn (us := .ref a :: us) (vs := .ref a :: vs) F hr hb hd hx I2 (.cons rfl r) q2
/-- o.m() -/
theorem pe_meth0 {pl : Sem Bool} (he : PE X o ta) (c : Cls X.K C) (hm : Meth X.K C m f) (F : FnOk X.prog X.w X.K X.mg X.base CX k f fd ps sp) (hr : Room k X.A) (hb : Binds X.K fd ps ds) (hd : Vals dvs ds) (hx : Passes CX X E)
    (ht : eval (.Call (.Attribute o m apos) [] [] pos) X.env = (do
      let ov ← eval o X.env
      standAt apos.atName
      let (f, first) ← holding [ov] (getMethod ov m pl)
      callWith pos f first (backTo pos (starEach [] X.env)) (backToKw pos (keywordEach [] X.env))) := by rfl) :
    PE X (.Call (.Attribute o m apos) [] [] pos) (tMeth C m sp dvs E ta tNil) := by
  intro pins s σ H Q I h
  refine PySem.W.methodCall_KW (pl := pl) (thn (he pins s σ H _ I h) fun u s1 ⟨x, H1, I1, rx, a, dx, fs, ex, ea, l, q⟩ => ?_) ht
  subst ex
  obtain rfl : u = Value.ref a := rx
  refine getmeth_ok I1 ea c hm l ?_
  exact PySem.W.callWith_K0 (first := [.ref a]) I1.kIn hm.kp (run_fn (us := [.ref a]) (vs := [.ref a]) F hr hb hd hx I1 (.cons rfl .nil) q)

/-- what a class must have to be made -/
structure Mk (K : PySem.W.Frag) (C f : Addr) : Prop where
  makes : PySem.W.makesIn K C = true
  init : PySem.W.findIn K (.ref C) "__init__" = some (some (.ref f))
  fn : PySem.W.isFn K (.ref f) = true
  kp : PySem.W.keepIn K (.ref C) = true

theorem run_make {pins : List (Addr × Obj)} {σ : St} {H : Hp} {s : Shared} {Q : VK} {us : List Value} {vs : List V} (M : Mk X.K C f) (F : FnOk X.prog X.w X.K X.mg X.base CX k f fd ps sp) (hr : Room (k + 1) X.A) (hb : Binds X.K fd ps ds) (hd : Vals dvs ds)
    (hx : Passes CX X E) (I : Inv X pins σ H s) (r : Vals vs us)
    (h : ∀ x dx, H x = none → H dx = none → dx ≠ x → sp (.ref x :: (vs ++ dvs)) (upd (upd H dx (.own x)) x (.ins C dx [])) (fun v H2 => v = .non ∧ Q (.ref x) H2) E) :
    wpAny (model X.prog X.w) X.A (call (.ref C) us) (EP X pins σ Q) X.xe s := by
  have hq := h (s.heap.objs.size + 1) s.heap.objs.size (I.hok.fresh (Nat.le_succ _)) (I.hok.fresh (Nat.le_refl _)) (Nat.ne_of_lt (Nat.lt_succ_self _))
  have I2 := Inv.made (C := C) I
  have r2 : Vals (V.ref (s.heap.objs.size + 1) :: (vs ++ dvs)) (Value.ref (s.heap.objs.size + 1) :: (us ++ ds)) := .cons rfl (r.append hd)
  have hl : (Value.ref (s.heap.objs.size + 1) :: us ++ ds).length = ps.length := by
    have e := r2.length
    rw [F.len _ _ _ _ hq] at e
    exact e.symm
  refine wpAny_call (make_map (f := f) I.kIn M.makes M.init (beq_iff_eq.mp M.fn) (codeAny_mono (F.run _ X.stack _ _ ⟨Value.ref (s.heap.objs.size + 1) :: us, []⟩ (Value.ref (s.heap.objs.size + 1) :: (us ++ ds)) _ _ E (hr.make C us [])
    (I2.env0.make C us []) (hb _ (Value.ref (s.heap.objs.size + 1) :: us) I2.kIn hl) r2 hq) fun r s' hq' => ?_))
  cases r with
  | error e => exact hx pins σ _ _ e s' I2 hq'
  | ok fl =>
    cases fl with
    | ret u =>
      obtain ⟨v, H', I3, rv, ev, q3⟩ := I2.after hq'
      subst ev
      exact ⟨rv, ⟨V.ref (s.heap.objs.size + 1), H', I3, rfl, q3⟩⟩
    | next => exact False.elim hq'
    | brk => exact False.elim hq'
    | cont => exact False.elim hq'
theorem pe_make (M : Mk X.K C f) (F : FnOk X.prog X.w X.K X.mg X.base CX k f fd ps sp) (hr : Room (k + 1) X.A) (hg : Gl X x) (hm : X.mg x = some (.ref C)) (hb : Binds X.K fd ps ds) (hd : Vals dvs ds) (hx : Passes CX X E)
    (ha : PA X (e :: es) t) (hdb : (x == ("__debug__" : Str)) = false := by decide) (he : starEach (e :: es) X.env = (false, eval e X.env) :: starEach es X.env := by rfl) (hpl : (backTo pos (starEach es X.env)).any (·.1) = false := by rfl) :
    PE X (.Call (.Name x p) (e :: es) [] pos) (tMake C sp dvs E t) := by
  intro pins s σ H Q I h
  refine wpAny_Call_Name_kw (ld_glob I hg hm ?_ hdb)
  refine PySem.W.callWith_K (h₀ := X.base) I.ok.mod.kin M.kp (thn (ha pos pins s σ H _ I h) fun us s1 ⟨vs, H1, I1, r, q⟩ => ⟨I1.kIn, ?_⟩) he hpl
  exact run_make M F hr hb hd hx I1 r q
theorem pe_make0 (M : Mk X.K C f) (F : FnOk X.prog X.w X.K X.mg X.base CX k f fd ps sp) (hr : Room (k + 1) X.A) (hg : Gl X x) (hm : X.mg x = some (.ref C)) (hb : Binds X.K fd ps ds) (hd : Vals dvs ds) (hx : Passes CX X E)
    (hdb : (x == ("__debug__" : Str)) = false := by decide) : PE X (.Call (.Name x p) [] [] pos) (tMake C sp dvs E tNil) := by
  intro pins s σ H Q I h
  refine wpAny_Call_Name_kw (ld_glob I hg hm ?_ hdb)
  exact PySem.W.callWith_K0 I.kIn M.kp (run_make (us := []) M F hr hb hd hx I .nil h)
end

/-! ### keywords -/
/-- the values of the keywords, from the left -/
def PK (X : Cx) (kws : List Keyword) (t : TA) : Prop :=
  ∀ (pos : Pos) (pins : List (Addr × Obj)) (s : Shared) (σ : St) (H : Hp) (Q : List V → Hp → Prop), Inv X pins σ H s → t σ H Q → wpAny (model X.prog X.w) X.A (evalAll ((backToKw pos (keywordEach kws X.env)).map (·.2))) (AP X pins σ Q) X.xe s
section
variable {X : Cx} {CX : CXT} {k : Nat} {f C : Addr} {fd : FuncData} {ps ks : List Str} {sp : Sp} {E : XK} {x m : Str} {p pos apos kpos : Pos} {e o : Expr} {es : List Expr} {kws : List Keyword} {te ta : TE} {t tk : TA} {nm : Option Str}
theorem pk_nil : PK X [] tNil := fun _ _ _ _ H Q I h => wpAny_evalAll_nil ⟨[], H, I, .nil, h⟩
theorem pk_cons (ha : PE X e te) (hr : PK X kws t) : PK X (⟨nm, e, kpos⟩ :: kws) (tCons te t) := by
  intro pos pins s σ H Q I h
  show wpAny _ _ (evalAll ((do let v ← eval e X.env; standAt pos; pure v) :: (backToKw pos (keywordEach kws X.env)).map (·.2))) _ _ s
  refine wpAny_evalAll_cons (wpAny_bind (thn (ha pins s σ H _ I h) fun u s1 ⟨x, H1, I1, r1, q1⟩ => wpAny_bind (wpAny_standAt (wpAny_pure ?_))))
  exact thn (hr pos pins s1 σ H1 _ I1 q1) fun us s2 ⟨xs, H2, I2, r2, q2⟩ => ⟨x :: xs, H2, I2, .cons r1 r2, q2⟩

/-- how a call with keywords binds: g puts the positional values us and the keywords' values ws (names ks) in the parameters' order, defaults among them -/
structure KBinds (K : PySem.W.Frag) (fd : FuncData) (ps ks : List Str) (g : List Value → List Value → List Value) (gV : List V → List V → List V) : Prop where
  to : ∀ (s : Shared) (us ws : List Value), K.In s.heap → (g us ws).length = ps.length → BindsTo s fd ⟨us, ks.zip ws⟩ (ps.zip (g us ws))
  rel : ∀ {vs : List V} {us : List Value} {zs : List V} {ws : List Value}, Vals vs us → Vals zs ws → Vals (gV vs zs) (g us ws)
def tCallK (sp : Sp) (gV : List V → List V → List V) (E : XK) (t tk : TA) : TE := fun σ H Q => t σ H fun vs H1 => tk σ H1 fun zs H2 => sp (gV vs zs) H2 Q E
variable {g : List Value → List Value → List Value} {gV : List V → List V → List V}
theorem run_fnk {pins : List (Addr × Obj)} {σ : St} {H : Hp} {s : Shared} {Q : VK} {us ws : List Value} {vs zs : List V} (F : FnOk X.prog X.w X.K X.mg X.base CX k f fd ps sp) (hr : Room k X.A) (hb : KBinds X.K fd ps ks g gV) (hx : Passes CX X E)
    (I : Inv X pins σ H s) (r : Vals vs us) (rz : Vals zs ws) (h : sp (gV vs zs) H Q E) : wpAny (model X.prog X.w) X.A (call (.ref f) us (ks.zip ws)) (EP X pins σ Q) X.xe s := by
  have r2 := hb.rel r rz
  have hl : (g us ws).length = ps.length := by rw [← r2.length]; exact F.len _ _ _ _ h
  refine wpAny_call (codeAny_mono (F.run X.A X.stack s H ⟨us, ks.zip ws⟩ (g us ws) (gV vs zs) Q E hr I.env0 (hb.to s us ws I.kIn hl) r2 h) fun r s' hq => ?_)
  cases r with
  | error e => exact hx pins σ H s e s' I hq
  | ok fl =>
    cases fl with
    | ret u => exact I.after hq
    | next => exact False.elim hq
    | brk => exact False.elim hq
    | cont => exact False.elim hq
/-- f(e, .., k = v, ..) -/
theorem pe_callK (F : FnOk X.prog X.w X.K X.mg X.base CX k f fd ps sp) (hr : Room k X.A) (hg : Gl X x) (hm : X.mg x = some (.ref f)) (hk : PySem.W.keepIn X.K (.ref f) = true) (hb : KBinds X.K fd ps ks g gV) (hx : Passes CX X E)
    (ha : PA X (e :: es) t) (hkw : PK X kws tk) (hall : (backToKw pos (keywordEach kws X.env)).all (·.1.isSome) = true := by rfl) (hks : (backToKw pos (keywordEach kws X.env)).filterMap (·.1) = ks := by rfl)
    (hdb : (x == ("__debug__" : Str)) = false := by decide) (he : starEach (e :: es) X.env = (false, eval e X.env) :: starEach es X.env := by rfl)
    (hpl : ((backTo pos (starEach (e :: es) X.env)).any (·.1) || (backToKw pos (keywordEach kws X.env)).any (·.1.isNone)) = false := by rfl) :
    PE X (.Call (.Name x p) (e :: es) kws pos) (tCallK sp gV E t tk) := by
  intro pins s σ H Q I h
  refine wpAny_Call_Name_kw (ld_glob I hg hm ?_ hdb)
  refine PySem.W.callWith_KW (h₀ := X.base) I.ok.mod.kin hk hall (thn (ha pos pins s σ H _ I h) fun us s1 ⟨vs, H1, I1, r, q⟩ => ?_) hpl he
  refine thn (hkw pos pins s1 σ H1 _ I1 q) fun ws s2 ⟨zs, H2, I2, rz, q2⟩ => ⟨I2.kIn, ?_⟩
  rw [hks]
  exact run_fnk F hr hb hx I2 r rz q2
end

/-! ### a def's body keeps its promise -/
/-- names: the parameters first -/
structure FnScope (N P : List Str) (sc : Scope) : Prop where
  kind : sc.kind = .function
  co : sc.isCoroutine = false
  gen : sc.isGenerator = false
  nd : N.Nodup
  pre : N.take P.length = P
  par : ∀ x ∈ P, sc.names.lookup x = some .local ∨ sc.names.lookup x = some .cell
  nofree : ∀ y ∈ sc.names, y.2 ≠ .free

theorem bindL_out {kindOf : Str → Option NameKind} {x : Str} : ∀ {binds : List (Str × Value)} {m : Str → Option Value}, (∀ v, (x, v) ∉ binds) → bindL kindOf binds m x = m x
  | [], _, _ => rfl
  | (n, v) :: r, m, h => by
    unfold bindL
    rw [bindL_out fun w hw => h w (List.mem_cons_of_mem _ hw)]
    split
    · have : x ≠ n := by rintro rfl; exact h v List.mem_cons_self
      simp [this]
    · rfl
theorem bindC_out {kindOf : Str → Option NameKind} {x : Str} : ∀ {binds : List (Str × Value)} {m : Str → Option Value}, (∀ v, (x, v) ∉ binds) → bindC kindOf binds m x = m x
  | [], _, _ => rfl
  | (n, v) :: r, m, h => by
    unfold bindC
    rw [bindC_out fun w hw => h w (List.mem_cons_of_mem _ hw)]
    split
    · rfl
    · have : x ≠ n := by rintro rfl; exact h v List.mem_cons_self
      simp [this]
theorem bindL_get {kindOf : Str → Option NameKind} {x : Str} {v : Value} : ∀ {P : List Str} {vs : List Value} {i : Nat} {m : Str → Option Value}, P.Nodup → P[i]? = some x → vs[i]? = some v → kindOf x = some .local →
    bindL kindOf (P.zip vs) m x = some v
  | [], _, _, _, _, h, _, _ => by simp at h
  | _ :: _, [], _, _, _, _, h, _ => by simp at h
  | p :: P, w :: vs, 0, m, nd, h1, h2, hk => by
    simp at h1 h2; subst h1; subst h2
    show bindL kindOf ((p, w) :: P.zip vs) m p = _
    unfold bindL
    rw [bindL_out fun v hv => (List.nodup_cons.mp nd).1 (List.of_mem_zip hv).1, if_pos hk]
    simp
  | p :: P, w :: vs, i + 1, m, nd, h1, h2, hk => by
    show bindL kindOf ((p, w) :: P.zip vs) m x = _
    unfold bindL
    exact bindL_get (i := i) (List.nodup_cons.mp nd).2 (by simpa using h1) (by simpa using h2) hk
theorem bindC_get {kindOf : Str → Option NameKind} {x : Str} {v : Value} : ∀ {P : List Str} {vs : List Value} {i : Nat} {m : Str → Option Value}, P.Nodup → P[i]? = some x → vs[i]? = some v → kindOf x ≠ some .local →
    bindC kindOf (P.zip vs) m x = some v
  | [], _, _, _, _, h, _, _ => by simp at h
  | _ :: _, [], _, _, _, _, h, _ => by simp at h
  | p :: P, w :: vs, 0, m, nd, h1, h2, hk => by
    simp at h1 h2; subst h1; subst h2
    show bindC kindOf ((p, w) :: P.zip vs) m p = _
    unfold bindC
    rw [bindC_out fun v hv => (List.nodup_cons.mp nd).1 (List.of_mem_zip hv).1, if_neg hk]
    simp
  | p :: P, w :: vs, i + 1, m, nd, h1, h2, hk => by
    show bindC kindOf ((p, w) :: P.zip vs) m x = _
    unfold bindC
    exact bindC_get (i := i) (List.nodup_cons.mp nd).2 (by simpa using h1) (by simpa using h2) hk

/-- the names' values at the entry -/
def start (N : List Str) (vs : List V) : St := vs.map some ++ List.replicate (N.length - vs.length) none

/-- the context of a def's body, at its entry; an exception leaves the frame, then lies as CX says -/
def cxOf (CX : CXT) (P : Program) (w : World) (K : PySem.W.Frag) (mg : Str → Option Value) (base : Heap) (N : List Str) (qual : Str) (scope : Scope) (f : Addr) (cd : Value) (A : Around) (outer : List Env) (s : Shared) (H : Hp) (E : XK) : Cx where
  prog := P
  w := w
  K := K
  mg := mg
  base := base
  A := A.deeper (envOfC qual scope s.heap.objs.size f cd)
  N := N
  s₀ := s
  H₀ := H
  env := envOfC qual scope s.heap.objs.size f cd
  outer := outer
  stack := envOfC qual scope s.heap.objs.size f cd :: outer
  ex := []
  calm := true
  fn := fun _ => true
  pn := []
  xe := fun e s' => wpAny (model P w) (A.deeper (envOfC qual scope s.heap.objs.size f cd)) (leaving (envOfC qual scope s.heap.objs.size f cd) e) (fun _ s'' => CX outer H s E e s'') (fun e' s'' => CX outer H s E e' s'') s'

theorem cell_has {sc : Scope} {n : Nat} {x : Str} (h : sc.names.lookup x = some .cell) : ∃ c, (cellsFrom n sc.names []).lookup x = some c := by
  have q := PySem.W.cellsFrom_some sc.names n [] (.inl h)
  exact Option.isSome_iff_exists.mp q

theorem inv_start {CX : CXT} {P : Program} {w : World} {K : PySem.W.Frag} {mg : Str → Option Value} {base : Heap} {N ps : List Str} {qual : Str} {scope : Scope} {f : Addr} {cd : Value} {A : Around} {outer : List Env} {s s1 : Shared} {H : Hp} {E : XK} {us : List Value} {vs : List V}
    (S : FnScope N ps scope) (hd : A.handled = none) (e0 : Env0 P w K mg base A outer s H) (hl : vs.length = ps.length) (r : Vals vs us)
    (x : InCallC s s.heap.objs.size (bindL (envOfC qual scope s.heap.objs.size f cd).kindOf (ps.zip us) fun _ => none) (cellsFrom (s.heap.objs.size + 1) scope.names []) (bindC (envOfC qual scope s.heap.objs.size f cd).kindOf (ps.zip us) fun _ => none) s1) :
    Inv (cxOf CX P w K mg base N qual scope f cd A outer s H E) [] (start N vs) H s1 := by
  have hpl : ps.length ≤ N.length := by have := congrArg List.length S.pre; rw [List.length_take] at this; omega
  obtain ⟨h1, tk, rfl, hk⟩ := x.done
  have noA : ∀ b : Addr, b ∉ (cxOf CX P w K mg base N qual scope f cd A outer s H E).ex := fun b z => absurd (show b ∈ ([] : List Addr) from z) (by simp)
  refine ⟨⟨e0.mod, S.kind, rfl, rfl, Nat.le_refl _, fun y z c h1 h2 => ?_, fun y hy => ?_, fun y c _ h => ?_, fun _ => hd, Around.frames_deeper e0.frames, .inr ⟨rfl, rfl⟩, fun b z => absurd z (noA b), e0.bs, e0.bsz, fun b _ _ => noA b, fun b z => absurd z (noA b), e0.funs, e0.frf⟩,
    rfl, e0.bare, Un.kept hk, ⟨_, x.toInCall.ns, fun i y v h1 h2 h3 => ?_⟩, fun y c h => ⟨_, x.cell y c h⟩, e0.hok.fresh (Nat.le_refl _), fun y c h => ?_, fun p hp => absurd (show p ∈ ([] : List (Addr × Obj)) from hp) (by simp), e0.hok.kept hk, ?_⟩
  · exact name_of_addr x.apart (PySem.mem_of_lookup h1) (PySem.mem_of_lookup h2)
  · have hy : scope.names.lookup y = some .cell ∨ scope.names.lookup y = some .free := hy
    rcases hy with hy | hy
    · exact cell_has hy
    · exact absurd rfl (S.nofree _ (PySem.mem_of_lookup hy))
  · exact Nat.le_of_lt (x.above y c (PySem.mem_of_lookup h))
  · have hi : i < vs.length := by
      unfold start at h2
      by_cases hi : i < vs.length
      · exact hi
      · rw [List.getElem?_append_right (by simpa using hi)] at h2
        rw [List.getElem?_replicate] at h2
        split at h2 <;> cases h2
    have ha : vs[i]? = some v := by
      unfold start at h2
      rw [List.getElem?_append_left (by simpa using hi), List.getElem?_map] at h2
      cases e : vs[i]? with
      | none => rw [e] at h2; cases h2
      | some a => rw [e] at h2; cases h2; rfl
    obtain ⟨u, hu, rv⟩ := r.get ha
    have hp : ps[i]? = some y := by
      rw [← S.pre, List.getElem?_take_of_lt (by omega)]; exact h1
    have ndP : ps.Nodup := by rw [← S.pre]; exact S.nd.sublist (List.take_sublist _ _)
    refine ⟨u, rv, ?_⟩
    rcases S.par y (List.mem_of_getElem? hp) with k | k
    · exact .inl ⟨k, bindL_get ndP hp hu k⟩
    · obtain ⟨c, e⟩ := cell_has (n := s.heap.objs.size + 1) k
      refine .inr ⟨.inl k, c, e, ?_⟩
      have q := x.cell y c e
      rw [bindC_get ndP hp hu (by show scope.names.lookup y ≠ _; rw [k]; decide)] at q
      exact q
  · exact e0.hok.fresh (Nat.le_of_lt (x.above y c (PySem.mem_of_lookup h)))
  · unfold start
    show _ = N.length
    rw [List.length_append, List.length_map, List.length_replicate]
    omega

/-- THE RULE: a def (or a method) of the text, by its body. The body's reading t is chosen for each entry; it is run at the parameters' values -/
theorem fn_of {CX : CXT} {P : Program} {w : World} {K : PySem.W.Frag} {mg : Str → Option Value} {base : Heap} {k : Nat} {f : Addr} {name qual : Str} {params : Arguments} {body : List Stmt} {scope : Scope} {dV kV doc pm cdv ct oc : Value} {an od : Option Addr}
    {osl : Array (Option Value)} {N ps : List Str} {sp : Sp} (lk : K.lookup f = some ⟨oc, od, .func (PySem.W.fnOf name qual params body scope dV kV doc pm an cdv ct), osl⟩) (hcd : PySem.W.codeIn K cdv qual = true) (S : FnScope N ps scope)
    (len : ∀ vs H Q E, sp vs H Q E → vs.length = ps.length)
    (hbody : ∀ (A : Around) (outer : List Env) (s : Shared) (H : Hp) (vs : List V) (Q : VK) (E : XK), Room k (A.deeper (envOfC qual scope s.heap.objs.size f cdv)) → sp vs H Q E →
      ∃ t, PSs (cxOf CX P w K mg base N qual scope f cdv A outer s H E) body t ∧ t { nx := fun _ H' => Q .non H', rt := Q } (start N vs) H) :
    FnOk P w K mg base CX (k + 1) f (PySem.W.fnOf name qual params body scope dV kV doc pm an cdv ct) ps sp := by
  refine ⟨len, fun A outer s H args us vs Q E hr e0 hb r hsp => ?_⟩
  have hl := len _ _ _ _ hsp
  have KX : K.In s.heap := e0.mod.kin.keeps fun b o e => (e0.bs b o e).1
  have lim : s.heap.NoLimit := e0.mod.nolimit.keeps fun b o e => (e0.bs b o e).1
  have hkind : ∀ y ∈ ps.zip us, scope.names.lookup y.1 = some .local ∨ (scope.names.lookup y.1 = some .cell ∧ ((cellsFrom (s.heap.objs.size + 1) scope.names []).lookup y.1).isSome = true) := fun ⟨n, v⟩ hy => by
    rcases S.par n (List.of_mem_zip hy).1 with q | q
    · exact .inl q
    · exact .inr ⟨q, PySem.W.cellsFrom_some _ _ _ (.inl q)⟩
  refine codeAny_call_function hr.depth (KX _ _ lk) rfl S.co S.gen rfl (PySem.W.codeRec_of KX hcd) (hb _ _ _ _ ?_)
  refine wpAny_newFunctionEnv_cells S.kind hkind fun env he s1 x => ?_
  subst he
  refine ⟨lim.keeps x.toInCall.keep, codeAny_func ?_⟩
  obtain ⟨t, ht, hq⟩ := hbody A outer s H vs Q E (hr.deeper _) hsp
  have I : Inv (cxOf CX P w K mg base N qual scope f cdv A outer s H E) [] (start N vs) H s1 := inv_start S hr.hd e0 hl r x
  refine wpAny_mono (ht [] s1 (start N vs) H _ I hq) (fun fl s' hs => ?_) fun e s' hs => hs
  have fin : ∀ {σ' : St} {H' : Hp} {v : V} {u : Value}, Inv (cxOf CX P w K mg base N qual scope f cdv A outer s H E) [] σ' H' s' → RelV v u → Q v H' → CE outer P w H s Q u s' :=
    fun {σ' H' v u} J rv q => ⟨v, H', J.os, J.bare, J.base, J.hok, rv, q⟩
  cases fl with
  | ret u =>
    obtain ⟨v, σ', H', J, rv, q⟩ := hs
    exact fin J rv q
  | next =>
    obtain ⟨σ', H', J, q⟩ := hs
    exact fin (v := V.non) (u := Value.none) J rfl q
  | brk =>
    obtain ⟨_, _, _, q⟩ := hs
    exact False.elim q
  | cont =>
    obtain ⟨_, _, _, q⟩ := hs
    exact False.elim q
end L2

namespace L2
open PySem PySem.Spec PyProof.Rows
section
variable {X : Cx} {x : Str} {p pos : Pos} {e : Expr} {es : List Expr} {t : TA} {id T : String} {r : List V → Hp → VK → Prop}

def tCB (r : List V → Hp → VK → Prop) (t : TA) : TE := fun σ H Q => t σ H fun vs H1 => r vs H1 Q
/-- f(e, ..), f a built-in function -/
theorem pe_callB (hc : CallR X (.builtin id) r) (hg : Gl X x) (hm : X.mg x = none) (hv : bootBuiltins x = some (.builtin id)) (ha : PA X (e :: es) t) (hn : x ≠ "__name__" := by decide) (hdb : (x == ("__debug__" : Str)) = false := by decide)
    (he : starEach (e :: es) X.env = (false, eval e X.env) :: starEach es X.env := by rfl) (hpl : (backTo pos (starEach es X.env)).any (·.1) = false := by rfl) : PE X (.Call (.Name x p) (e :: es) [] pos) (tCB r t) := by
  intro pins s σ H Q I h
  refine wpAny_Call_Name_kw (ld_blt I hg hm hv ?_ hn hdb)
  exact PyProof.Rows.callWith_builtin1 (thn (ha pos pins s σ H _ I h) fun us s1 ⟨vs, H1, I1, r1, q1⟩ => hc pins s1 σ H1 vs us Q I1 r1 q1) he hpl
/-- T(e, ..), T a built-in type -/
theorem pe_callTy (hc : CallR X (.type T) r) (hg : Gl X x) (hm : X.mg x = none) (hv : bootBuiltins x = some (.type T)) (ha : PA X (e :: es) t) (hn : x ≠ "__name__" := by decide) (hdb : (x == ("__debug__" : Str)) = false := by decide)
    (he : starEach (e :: es) X.env = (false, eval e X.env) :: starEach es X.env := by rfl) (hpl : (backTo pos (starEach es X.env)).any (·.1) = false := by rfl) : PE X (.Call (.Name x p) (e :: es) [] pos) (tCB r t) := by
  intro pins s σ H Q I h
  refine wpAny_Call_Name_kw (ld_blt I hg hm hv ?_ hn hdb)
  exact PyProof.Rows.callWith_type1 (thn (ha pos pins s σ H _ I h) fun us s1 ⟨vs, H1, I1, r1, q1⟩ => hc pins s1 σ H1 vs us Q I1 r1 q1) he hpl
/-- T() -/
theorem pe_callTy0 (hc : CallR X (.type T) r) (hg : Gl X x) (hm : X.mg x = none) (hv : bootBuiltins x = some (.type T)) (hn : x ≠ "__name__" := by decide) (hdb : (x == ("__debug__" : Str)) = false := by decide) :
    PE X (.Call (.Name x p) [] [] pos) (tCB r tNil) := by
  intro pins s σ H Q I h
  refine wpAny_Call_Name_kw (ld_blt I hg hm hv ?_ hn hdb)
  exact PyProof.Rows.callWith_type0 (hc pins s σ H [] [] Q I .nil h)
end
end L2

namespace HT
open PySem PyProof.Rows

/-- t < u of tuples of ints -/
def lexLt : List Int → List Int → Bool
  | [], [] => false
  | [], _ :: _ => true
  | _ :: _, [] => false
  | x :: xs, y :: ys => if x = y then lexLt xs ys else decide (x < y)
theorem lexLt_cons (x y : Int) (xs ys : List Int) : lexLt (x :: xs) (y :: ys) = if x = y then lexLt xs ys else decide (x < y) := rfl
theorem lexLt_nil_nil : lexLt [] [] = false := rfl
theorem lexLt_nil_cons (y : Int) (ys : List Int) : lexLt [] (y :: ys) = true := rfl
theorem lexLt_cons_nil (x : Int) (xs : List Int) : lexLt (x :: xs) [] = false := rfl

theorem eqAt_int (A : Around) (s : Shared) (a : Int) (t : Tok) (c : Int) (u : Tok) : ∃ e, SeqAt.EqAt A s (.int a t) (.int c u) e ∧ (e = true ↔ a = c) :=
  ⟨(a == c), SeqAt.EqAt.int_int a t c u, by simp⟩
theorem rcLt_int (A : Around) (s : Shared) (a : Int) (t : Tok) (c : Int) (u : Tok) (prog : Program) (w : World) (E : Value → Shared → Prop) (Q : Value → Shared → Prop) (h : Q (.bool (decide (a < c))) s) :
    wpAny (model prog w) A (richCompare .Lt (.int a t) (.int c u)) Q E s :=
  (PyProof.Rows.lt_int h : wpAny (model prog w) A (compareOp .Lt (.int a t) (.int c u)) Q E s)

section
open PySem.SeqAt
open PySem.AutoSeq1 (wpAny_loadPart')
open PySem.MeetsSeq PySem.MeetsSeq2 PySem.MeetsSeq3

theorem tuple_lt_ints (l b : Addr) (items items2 : Array Value) (n n2 : Nat) (dd dd2 : Option Addr) (sl sl2 : Array (Option Value)) (ns ms : List Int) (hi : IntsAre items.toList ns) (hj : IntsAre items2.toList ms) :
    Meets (Builtin.«tuple.__lt__» ⟨[.ref l, .ref b], []⟩)
      (fun _ R s => s.heap.get? l = some { cls := .type "tuple", dict := dd, data := .seq items n, slots := sl } ∧ s.heap.get? b = some { cls := .type "tuple", dict := dd2, data := .seq items2 n2, slots := sl2 } ∧
        R (.ok (.ret (.bool (lexLt ns ms)))) s) :=
  .of_wp fun prog w A R s h => by
    obtain ⟨hp, g, d, tk, os⟩ := s; obtain ⟨hl, hb, h⟩ := h
    have f2 := AutoSeq1.sub_tuple_tuple
    have z1 : items.size = ns.length := by rw [← hi.length]; simp
    have z2 : items2.size = ms.length := by rw [← hj.length]; simp
    wp_walk using wpAny_loadPart' hl, wpAny_loadPart' hb, wpAny_forIn_list _ (fun rest b s' => b.1 = none ∧ s' = ⟨hp, g, d, tk, os⟩ ∧ ∃ (vs ws : List Value) (ns' ms' : List Int), rest = vs.zip ws ∧
      IntsAre vs ns' ∧ IntsAre ws ms' ∧ ns'.length + items2.size = ms'.length + items.size ∧ R (.ok (.ret (.bool (lexLt ns' ms')))) ⟨hp, g, d, tk, os⟩) _
    case turn =>
      rintro ⟨y, x⟩ rest b s' ⟨hb', rfl, vs, ws, ns', ms', hz, hvi, hwi, hlen, hR⟩
      cases hvi with
      | nil => rw [List.zip_nil_left] at hz; cases hz
      | cons a t hvi' =>
        cases hwi with
        | nil => rw [List.zip_nil_right] at hz; cases hz
        | cons c u hwi' =>
          rw [List.zip_cons_cons] at hz
          injection hz with hyx hrest
          injection hyx with hy hx
          subst hy hx
          rw [lexLt_cons] at hR
          simp only [List.length_cons] at hlen
          obtain ⟨e, he, hiff⟩ := eqAt_int A.in1 ⟨hp, g, d, tk, os⟩ a t c u
          refine wpAny_bind (he prog w _ _ ?_)
          cases e with
          | true =>
            rw [if_pos (hiff.mp rfl)] at hR
            wp_walk
            exact ⟨rfl, rfl, _, _, _, _, hrest, hvi', hwi', by omega, hR⟩
          | false =>
            rw [if_neg (fun q => absurd (hiff.mpr q) Bool.false_ne_true)] at hR
            have hri := rcLt_int A.in1 ⟨hp, g, d, tk, os⟩ a t c u prog w
            wp_walk using hri
            exact ⟨_, rfl, by simpa using hR⟩
    case fin =>
      rintro ⟨b1, b2⟩ s' ⟨hb', rfl, vs, ws, ns', ms', hz, hvi, hwi, hlen, hR⟩
      simp only at hb'
      subst hb'
      have hv : lexLt ns' ms' = decide (items.size < items2.size) := by
        cases hvi with
        | nil =>
          cases hwi with
          | nil =>
            simp only [List.length_nil] at hlen
            rw [lexLt_nil_nil]
            exact (decide_eq_false (by omega)).symm
          | cons c u hw =>
            simp only [List.length_nil, List.length_cons] at hlen
            rw [lexLt_nil_cons]
            exact (decide_eq_true (by omega)).symm
        | cons a t hv =>
          cases hwi with
          | nil =>
            simp only [List.length_nil, List.length_cons] at hlen
            rw [lexLt_cons_nil]
            exact (decide_eq_false (by omega)).symm
          | cons c u hw =>
            rw [List.zip_cons_cons] at hz
            cases hz
      rw [hv] at hR
      wp_walk
      exact ⟨_, rfl, by simpa [Builtin.Tuple.tupleCompareSizes] using hR⟩
    case h =>
      exact ⟨rfl, rfl, items.toList, items2.toList, ns, ms, rfl, hi, hj, by omega, h⟩
end

section
variable {prog : Program} {w : World} {A : Around} {E : Value → Shared → Prop} {s : Shared}

theorem lt_tupInts {l b : Addr} {items items2 : Array Value} {ns ms : List Int} {Q : Value → Shared → Prop} (hl : IsTup s.heap l items) (hb : IsTup s.heap b items2) (hi : IntsAre items.toList ns) (hj : IntsAre items2.toList ms)
    (hu : A.units < cLine) (h : Q (.bool (lexLt ns ms)) s) : wpAny (model prog w) A (compareOp .Lt (.ref l) (.ref b)) Q E s := by
  obtain ⟨⟨cls, dd, data, sl⟩, ho, hc, n, hd⟩ := id hl
  obtain ⟨⟨cls2, dd2, data2, sl2⟩, ho2, hc2, n2, hd2⟩ := id hb
  simp only at hc hd hc2 hd2
  subst hc hd hc2 hd2
  exact richCompare_meets_room (op := .Lt) ⟨_, ho, rfl⟩ ⟨_, ho2, rfl⟩ PySem.F.slot_tuple_lt PySem.F.entry_tuple_lt (PySem.F.args_tuple_lt_2 _ _) (tuple_lt_ints l b items items2 n n2 dd dd2 sl sl2 ns ms hi hj)
    ⟨ho, ho2, show Value.bool (lexLt ns ms) ≠ Value.notImplemented ∧ Q (.bool (lexLt ns ms)) s from ⟨(fun x => nomatch x), h⟩⟩ hu

/-- t + u, t not empty -/
theorem cat_tup {t b : Addr} {vs ws : List Value} {Q : Value → Shared → Prop} (ht : IsTup s.heap t vs.toArray) (hb : IsTup s.heap b ws.toArray) (hv : vs ≠ [])
    (h1 : ws = [] → Q (.ref t) s) (h2 : ws ≠ [] → Q (.ref s.heap.objs.size) { s with heap := s.heap.push { cls := .type "tuple", data := .seq (vs ++ ws).toArray } })
    (hsz : vs.length + ws.length ≤ sizeLine) : wpAny (model prog w) A (binaryOp .Add (.ref t) (.ref b)) Q E s := by
  obtain ⟨⟨cls, dd, data, sl⟩, ho, hc, n, hd⟩ := id ht
  obtain ⟨⟨cls2, dd2, data2, sl2⟩, ho2, hc2, n2, hd2⟩ := id hb
  simp only at hc hd hc2 hd2
  subst hc hd hc2 hd2
  have e : vs.toArray ++ ws.toArray = (vs ++ ws).toArray := by simp
  by_cases hw : ws = []
  · exact concat_meets ⟨_, ho, rfl⟩ ⟨_, ho2, rfl⟩ noFill_tuple_add seq_tuple_add PySem.F.slot_tuple_add PySem.F.entry_tuple_add (PySem.F.args_tuple_add_2 _ _)
      (tuple_addW1 t b vs.toArray ws.toArray n n2 dd dd2 sl sl2 (by simpa using hv) (by simp [hw])) ⟨ho, ho2, h1 hw⟩
  · refine concat_meets ⟨_, ho, rfl⟩ ⟨_, ho2, rfl⟩ noFill_tuple_add seq_tuple_add PySem.F.slot_tuple_add PySem.F.entry_tuple_add (PySem.F.args_tuple_add_2 _ _)
      (tuple_addW2 t b vs.toArray ws.toArray n n2 dd dd2 sl sl2 (by simpa using hv) (by simpa using hw) (by rw [List.size_toArray, List.size_toArray]; exact hsz)) ⟨ho, ho2, ?_⟩
    rw [e]
    exact h2 hw

/-! ### t[a:b], not the whole -/
/-- a slice's bound as a place among n (d where it is left out) -/
def sIx (n d : Nat) : Option Int → Nat
  | none => d
  | some v => if v < 0 then (v + (n : Int)).toNat else min v.toNat n
theorem sIx_none (n d : Nat) : sIx n d none = d := rfl
theorem sIx_nat (n d k : Nat) : sIx n d (some (k : Int)) = min k n := by
  show (if (k : Int) < 0 then ((k : Int) + (n : Int)).toNat else min (k : Int).toNat n) = min k n
  rw [if_neg (by omega), Int.toNat_natCast]
theorem sIx_le (n d : Nat) (hd : d ≤ n) (o : Option Int) : sIx n d o ≤ n := by
  cases o with
  | none => exact hd
  | some v =>
    show (if v < 0 then (v + (n : Int)).toNat else min v.toNat n) ≤ n
    by_cases hv : v < 0
    · rw [if_pos hv]; omega
    · rw [if_neg hv]; exact Nat.min_le_right _ _
theorem clip_eq (v : Int) (n d : Nat) : (if v < 0 then max (v + (n : Int)) 0 else min v (n : Int)) = ((sIx n d (some v) : Nat) : Int) := by
  show (if v < 0 then max (v + (n : Int)) 0 else min v (n : Int)) = (((if v < 0 then (v + (n : Int)).toNat else min v.toNat n) : Nat) : Int)
  by_cases hv : v < 0
  · simp only [if_pos hv]; omega
  · simp only [if_neg hv]; omega
theorem adjust_gen (lo hi : Option Int) (n : Nat) : Builtin.Slice.sliceAdjust lo hi 1 (n : Int) = (((sIx n 0 lo : Nat) : Int), ((sIx n n hi : Nat) : Int)) := by
  have h1 : ¬ ((1 : Int) < 0) := by omega
  unfold Builtin.Slice.sliceAdjust
  simp only [h1, if_false]
  refine Prod.ext ?_ ?_
  · cases lo with
    | none => rfl
    | some v => exact clip_eq v n 0
  · cases hi with
    | none => rfl
    | some v => exact clip_eq v n n
theorem places_gen (i j : Nat) : Builtin.Slice.slicePlaces (i : Int) (j : Int) 1 = j - i := by
  unfold Builtin.Slice.slicePlaces
  have h1 : (1 : Int) > 0 := by omega
  simp only [h1, if_true, Int.ediv_one]
  split <;> omega
theorem slicePart_ {v : Value} {o : Option Int} {Q : Option Int → Shared → Prop} (p : IsPart v o) (h : Q o s) : wpAny (model prog w) A (Builtin.Slice.slicePartIndex v) Q E s := by
  cases p with
  | none => exact slicePart_none h
  | int i t => exact slicePart_int h
theorem sliceApplied_gen {sl : Addr} {vl vu : Value} {lo hi : Option Int} {n : Nat} {Q : Int × Int × Nat → Shared → Prop} (hs : s.heap.IsSliceOf sl vl vu .none) (pl : IsPart vl lo) (pu : IsPart vu hi)
    (h : Q (((sIx n 0 lo : Nat) : Int), 1, sIx n n hi - sIx n 0 lo) s) : wpAny (model prog w) A (Builtin.Slice.sliceApplied (.ref sl) (pure (n : Int))) Q E s := by
  obtain ⟨os, hos, hcs, hds⟩ := id hs
  unfold Builtin.Slice.sliceApplied Builtin.Slice.sliceFields
  refine wpAny_bind (wpAny_bind (wpAny_field hos hds (x := vl) rfl (wpAny_bind (wpAny_field hos hds (x := vu) rfl (wpAny_bind (wpAny_field hos hds (x := .none) rfl (wpAny_pure ?_)))))))
  refine wpAny_bind (slicePart_none ?_)
  show wpAny _ _ (if ((1 : Int) == 0) = true then _ else _) _ _ s
  rw [if_neg (by decide)]
  refine wpAny_bind (slicePart_ pl (wpAny_bind (slicePart_ pu (wpAny_bind (wpAny_pure ?_)))))
  show wpAny _ _ (match Builtin.Slice.sliceAdjust lo hi 1 (n : Int) with | (lo, hi) => pure (lo, (1 : Int), Builtin.Slice.slicePlaces lo hi 1)) _ _ s
  rw [adjust_gen lo hi n]
  show wpAny _ _ (pure (((sIx n 0 lo : Nat) : Int), (1 : Int), Builtin.Slice.slicePlaces ((sIx n 0 lo : Nat) : Int) ((sIx n n hi : Nat) : Int) 1)) _ _ s
  rw [places_gen]
  exact wpAny_pure h
theorem pick_gen (xs : Array Value) (i k : Nat) : ((List.range k).filterMap fun (m : Nat) => xs[((i : Int) + (m : Int) * 1).toNat]?).toArray = ((xs.toList.drop i).take k).toArray := by
  have e : (fun (m : Nat) => xs[((i : Int) + (m : Int) * 1).toNat]?) = fun m => xs[i + m]? := by
    funext m
    have : ((i : Int) + (m : Int) * 1).toNat = i + m := by omega
    rw [this]
  rw [e]
  have := pick_run xs i k
  rw [List.filterMap_map] at this
  have e2 : ((fun x => xs[x]?) ∘ fun x => i + x) = fun m => xs[i + m]? := rfl
  rw [e2] at this
  rw [this]

theorem getItem_tuple_cut {t sl : Addr} {items : Array Value} {vl vu : Value} {lo hi : Option Int} {Q : Value → Shared → Prop} (ht : IsTup s.heap t items) (hs : s.heap.IsSliceOf sl vl vu .none) (pl : IsPart vl lo) (pu : IsPart vu hi)
    (hw : ¬ (sIx items.size 0 lo = 0 ∧ sIx items.size items.size hi = items.size))
    (h : Q (.ref s.heap.objs.size) { s with heap := s.heap.push { cls := .type "tuple", data := .seq ((items.toList.drop (sIx items.size 0 lo)).take (sIx items.size items.size hi - sIx items.size 0 lo)).toArray } })
    (hsz : items.size ≤ sizeLine) : wpAny (model prog w) A (getItem (.ref t) (.ref sl)) Q E s := by
  have htake : sizeOk (.seq ((items.toList.drop (sIx items.size 0 lo)).take (sIx items.size items.size hi - sIx items.size 0 lo)).toArray) := by
    show ((items.toList.drop (sIx items.size 0 lo)).take (sIx items.size items.size hi - sIx items.size 0 lo)).toArray.size ≤ sizeLine
    rw [List.size_toArray, List.length_take, List.length_drop, Array.length_toList]
    omega
  have hj : sIx items.size items.size hi ≤ items.size := sIx_le _ _ (Nat.le_refl _) hi
  obtain ⟨os, hos, hcs, hds⟩ := id hs
  have hTs : s.TypeIs (.ref sl) "slice" := ⟨os, hos, hcs⟩
  unfold getItem
  try with_reducible refine wpAny_holding ?_
  first | refine wpAny_bind (wpAny_pure ?_) | skip
  refine wpAny_bind (wpAny_sequenceKey ht.typeIs (by decide) ?_)
  refine wpAny_bind (wpAny_callSpecial?_slot (name := Str.ofString "__getitem__") ht.typeIs PyProof.Rows.slot_tuple_getitem
    (wpAny_call_entry PyProof.Rows.slot_tuple_getitem ht.typeIs entry_tuple_getitem ?_ (args_tuple_getitem _ _)))
  show wpAny _ _ (Builtin.Tuple.tupleItemsOf (.ref t) >>= _) _ _ s
  refine wpAny_bind (tupleItemsOf_ ht ?_)
  refine wpAny_bind (wpAny_typeOf hTs ?_)
  rw [if_pos (by decide)]
  refine wpAny_bind (sliceApplied_gen hs pl pu ?_)
  have hno : ¬ ((((sIx items.size 0 lo : Nat) : Int) == 0 && (1 : Int) == 1 && (sIx items.size items.size hi - sIx items.size 0 lo) == items.size) = true) := by
    intro q
    rw [Bool.and_eq_true, Bool.and_eq_true] at q
    have q1 : ((sIx items.size 0 lo : Nat) : Int) = 0 := eq_of_beq q.1.1
    have q2 : sIx items.size items.size hi - sIx items.size 0 lo = items.size := eq_of_beq q.2
    exact hw ⟨by omega, by omega⟩
  show wpAny _ _ (if (((sIx items.size 0 lo : Nat) : Int) == 0 && (1 : Int) == 1 && (sIx items.size items.size hi - sIx items.size 0 lo) == items.size) = true then _ else _) _ _ s
  rw [if_neg hno, pick_gen]
  first
    | exact wpAny_bind (m := Builtin.Tuple.tupleExact _) (wpAny_newObj_type (wpAny_pure ⟨_, rfl, wpAny_pure h⟩) htake)
    | exact wpAny_bind (m := Builtin.Tuple.tupleExact _) (wpAny_newObj_type (wpAny_bind (wpAny_pure (wpAny_pure ⟨_, rfl, wpAny_pure h⟩))) htake)
    | exact wpAny_bind (wpAny_bind (m := Builtin.Tuple.tupleExact _) (wpAny_newObj_type (wpAny_pure (wpAny_pure ⟨_, rfl, wpAny_pure h⟩)) htake))
    | exact wpAny_bind (wpAny_bind (m := Builtin.Tuple.tupleExact _) (wpAny_newObj_type (wpAny_pure ⟨_, rfl, wpAny_pure h⟩) htake))
end
end HT

namespace L2
open PySem PySem.Spec PyProof.Rows

/-! ### the parts of a slice -/
abbrev TO := St → Hp → (Option Int → Hp → Prop) → Prop
/-- a slice's part (left out, or an int) -/
def PO (X : Cx) (e : Option Expr) (t : TO) : Prop :=
  ∀ (pins : List (Addr × Obj)) (s : Shared) (σ : St) (H : Hp) (Q : Option Int → Hp → Prop), Inv X pins σ H s → t σ H Q →
    wpAny (model X.prog X.w) X.A (evalPart e X.env) (fun u s' => ∃ o H', Inv X pins σ H' s' ∧ IsPart u o ∧ Q o H') X.xe s
def tNoPart : TO := fun _ H Q => Q none H
def tPart (t : TE) : TO := fun σ H Q => t σ H fun x H1 => ∃ i, x = .int i ∧ Q (some i) H1

theorem intsAre_of {ns : List Int} : ∀ {us : List Value}, Vals (ns.map V.int) us → IntsAre us ns := by
  induction ns with
  | nil => intro us r; rw [List.map_nil] at r; cases r; exact .nil
  | cons n ns ih =>
    intro us r
    rw [List.map_cons] at r
    cases r with
    | cons r1 r2 =>
      obtain ⟨t, e⟩ := r1
      subst e
      exact .cons n t (ih r2)

section
variable {X : Cx} {e : Expr} {te : TE} {lo hi : Option Expr} {tl th : TO} {pos p2 : Pos}

theorem po_none : PO X none tNoPart := by
  intro pins s σ H Q I h
  rw [evalPart_none]
  exact wpAny_pure ⟨none, H, I, .none, h⟩
theorem po_some (h : PE X e te) : PO X (some e) (tPart te) := by
  intro pins s σ H Q I hw
  rw [evalPart_some]
  refine thn (h pins s σ H _ I hw) fun u s1 ⟨x, H1, I1, r1, q1⟩ => ?_
  obtain ⟨i, rfl, q⟩ := q1
  obtain ⟨t, rfl⟩ := r1
  exact ⟨some i, H1, I1, .int i t, q⟩

/-- what a slice of a value is, by values: the slice object stands at sl -/
def SlR (X : Cx) (r : V → Option Int → Option Int → Hp → VK → Prop) : Prop :=
  ∀ (pins : List (Addr × Obj)) (s : Shared) (σ : St) (H : Hp) (x : V) (v vl vu : Value) (lo hi : Option Int) (sl : Addr) (Q : VK), Inv X pins σ H s → RelV x v → s.heap.IsSliceOf sl vl vu .none → IsPart vl lo → IsPart vu hi → r x lo hi H Q →
    ∃ T id, typeLookup (.type T) "__getitem__" = pure (some (.builtin id)) ∧ s.TypeIs v T ∧ wpAny (model X.prog X.w) X.A (getItem v (.ref sl)) (EP X pins σ Q) X.xe s
theorem SlR.or {r r' : V → Option Int → Option Int → Hp → VK → Prop} (h : SlR X r) (h' : SlR X r') : SlR X (fun x lo hi H Q => r x lo hi H Q ∨ r' x lo hi H Q) := by
  intro pins s σ H x v vl vu lo hi sl Q I rx hs pl pu q
  rcases q with q | q
  · exact h pins s σ H x v vl vu lo hi sl Q I rx hs pl pu q
  · exact h' pins s σ H x v vl vu lo hi sl Q I rx hs pl pu q
def tSl (r : V → Option Int → Option Int → Hp → VK → Prop) (te : TE) (tl th : TO) : TE := fun σ H Q => te σ H fun x H1 => tl σ H1 fun l H2 => th σ H2 fun u H3 => r x l u H3 Q
/-- a[lo:hi], any a -/
theorem pe_slice {r : V → Option Int → Option Int → Hp → VK → Prop} (hr : SlR X r) (he : PE X e te) (hl : PO X lo tl) (hu : PO X hi th) : PE X (.Subscript e (.Slice lo hi none p2) pos) (tSl r te tl th) := by
  intro pins s σ H Q I h
  refine Subscript_ (thn (he pins s σ H _ I h) fun v s1 ⟨x, H1, I1, r1, q1⟩ => ?_)
  refine wpAny_Slice (thn (hl pins s1 σ H1 _ I1 q1) fun vl s2 ⟨l, H2, I2, pl, q2⟩ => thn (hu pins s2 σ H2 _ I2 q2) fun vu s3 ⟨u, H3, I3, pu, q3⟩ => ?_)
  rw [evalPart_none]
  refine wpAny_pure ?_
  have I4 : Inv X pins σ H3 { s3 with heap := s3.heap.push { cls := .type "slice", data := .fields #[vl, vu, .none] } } := I3.kept (t' := s3.toks) fun b ob q => Heap.get?_push_of_some _ q
  obtain ⟨T, id, hT, ht, hg⟩ := hr pins { s3 with heap := s3.heap.push { cls := .type "slice", data := .fields #[vl, vu, .none] } } σ H3 x v vl vu l u s3.heap.objs.size Q I4 r1 (Heap.IsSliceOf.new ..) pl pu q3
  show wpAny (model X.prog X.w) X.A (subscriptTail e (.Slice lo hi none p2) v (.ref s3.heap.objs.size)) (EP X pins σ Q) X.xe { s3 with heap := s3.heap.push { cls := .type "slice", data := .fields #[vl, vu, .none] } }
  exact tail_any (ops := [.ref s3.heap.objs.size, v]) ht hT hg (by with_unfolding_all rfl)

/-- the items of xs[lo:hi] -/
def cutV (xs : List V) (lo hi : Option Int) : List V := (xs.drop (HT.sIx xs.length 0 lo)).take (HT.sIx xs.length xs.length hi - HT.sIx xs.length 0 lo)
theorem cutV_length (xs : List V) (lo hi : Option Int) : (cutV xs lo hi).length ≤ xs.length := by
  unfold cutV
  rw [List.length_take, List.length_drop]
  omega
/-- t[lo:hi], not the whole of it (the whole would be t itself) -/
def rSlT (K : PySem.W.Frag) : V → Option Int → Option Int → Hp → VK → Prop := fun x lo hi H Q => ∃ a xs, x = .ref a ∧ SqT K H a xs ∧
  ¬ (HT.sIx xs.length 0 lo = 0 ∧ HT.sIx xs.length xs.length hi = xs.length) ∧ ∀ p, H p = none → Q (.ref p) (upd H p (.tup (cutV xs lo hi)))
theorem sl_tup : SlR X (rSlT X.K) := by
  intro pins s σ H x v vl vu lo hi sl Q I rx hs pl pu h
  obtain ⟨a, xs, rfl, hx, hw, q⟩ := h
  cases rx
  obtain ⟨its, r, ht, hz⟩ := I.tuple hx
  have hlen : its.toArray.size = xs.length := by rw [List.size_toArray]; exact r.length.symm
  refine ⟨"tuple", _, PyProof.Rows.slot_tuple_getitem.lookup, ht.typeIs, ?_⟩
  refine HT.getItem_tuple_cut ht hs pl pu (by rw [hlen]; exact hw) ?_ (by rw [hlen]; exact hz)
  rw [hlen]
  refine ⟨.ref s.heap.objs.size, _, I.laid (t' := s.toks) (o := .tup (cutV xs lo hi)) (fun b ob q => Heap.get?_push_of_some _ q) (Nat.le_refl _) ?_, rfl, q _ (I.hok.fresh (Nat.le_refl _))⟩
  exact ⟨Nat.le_trans (cutV_length xs lo hi) hz, _, (r.drop (HT.sIx xs.length 0 lo)).take (HT.sIx xs.length xs.length hi - HT.sIx xs.length 0 lo), IsTup.new _ _⟩

/-! ### t < u, t + u -/
def rLtT (K : PySem.W.Frag) : R2 := fun x y H Q => ∃ a b ns ms, x = .ref a ∧ y = .ref b ∧ SqT K H a (ns.map V.int) ∧ SqT K H b (ms.map V.int) ∧ Q (.bl (HT.lexLt ns ms)) H
theorem op_ltT (hu : X.A.units < cLine) : OpR X (compareOp .Lt) (rLtT X.K) := by
  intro pins s σ H x y v u Q I rx ry h
  obtain ⟨a, b, ns, ms, rfl, rfl, ha, hb, q⟩ := h
  cases rx
  cases ry
  obtain ⟨its, r1, p1, _⟩ := I.tuple ha
  obtain ⟨its2, r2, p2, _⟩ := I.tuple hb
  have i1 : IntsAre its.toArray.toList ns := intsAre_of r1
  have i2 : IntsAre its2.toArray.toList ms := intsAre_of r2
  exact HT.lt_tupInts p1 p2 i1 i2 hu ⟨.bl (HT.lexLt ns ms), H, I, rfl, q⟩
/-- t + u, t not empty: u empty gives t itself -/
def rCatT (K : PySem.W.Frag) : R2 := fun x y H Q => ∃ a b xs ys, x = .ref a ∧ y = .ref b ∧ SqT K H a xs ∧ SqT K H b ys ∧ xs ≠ [] ∧ xs.length + ys.length ≤ sizeLine ∧
  (ys = [] → Q (.ref a) H) ∧ (ys ≠ [] → ∀ p, H p = none → Q (.ref p) (upd H p (.tup (xs ++ ys))))
theorem Vals.nil_iff {xs : List V} {us : List Value} (r : Vals xs us) : us = [] ↔ xs = [] := by
  cases r with
  | nil => simp
  | cons _ _ => simp
theorem op_catT : OpR X (binaryOp .Add) (rCatT X.K) := by
  intro pins s σ H x y v u Q I rx ry h
  obtain ⟨a, b, xs, ys, rfl, rfl, ha, hb, hx, hz, q1, q2⟩ := h
  cases rx
  cases ry
  obtain ⟨its, r1, p1, _⟩ := I.tuple ha
  obtain ⟨its2, r2, p2, _⟩ := I.tuple hb
  refine HT.cat_tup p1 p2 (fun z => hx (r1.nil_iff.mp z)) (fun z => ⟨.ref a, H, I, rfl, q1 (r2.nil_iff.mp z)⟩) (fun z => ?_) (by rw [← r1.length, ← r2.length]; exact hz)
  refine ⟨.ref s.heap.objs.size, _, I.laid (t' := s.toks) (o := .tup (xs ++ ys)) (fun b ob q => Heap.get?_push_of_some _ q) (Nat.le_refl _) ?_, rfl, q2 (fun w => z (r2.nil_iff.mpr w)) _ (I.hok.fresh (Nat.le_refl _))⟩
  exact ⟨by rw [List.length_append]; exact hz, _, r1.append r2, IsTup.new _ _⟩
/-- tuple(t) -/
theorem call_tupleT : CallR X (.type "tuple") (fun xs H Q => ∃ a ys, xs = [.ref a] ∧ SqT X.K H a ys ∧ Q (.ref a) H) := by
  intro pins s σ H xs us Q I r h
  obtain ⟨a, ys, rfl, ha, q⟩ := h
  obtain ⟨u, rfl, ru⟩ := vals1 r
  cases ru
  obtain ⟨its, _, p1, _⟩ := I.tuple ha
  exact call_tuple_same (items := its.toArray) p1 ⟨.ref a, H, I, rfl, q⟩
end
end L2

namespace L2
open PySem PySem.Spec PyProof.Rows

/-! ### places -/
/-- the place that an index of any sign means -/
def ixN (n : Nat) (i : Int) : Option Nat := if 0 ≤ i then (if i < n then some i.toNat else none) else if -(n : Int) ≤ i then some (i + n).toNat else none
def atI {α : Type} (xs : List α) (i : Int) : Option α := (ixN xs.length i).bind fun j => xs[j]?
theorem ixN_seq {n : Nat} {i : Int} {j : Nat} (h : ixN n i = some j) : seqIndex? i n = some j ∧ j < n ∧ -(n : Int) ≤ i ∧ i < n := by
  unfold ixN at h
  by_cases h0 : 0 ≤ i
  · rw [if_pos h0] at h
    by_cases h1 : i < n
    · rw [if_pos h1] at h
      have e : i.toNat = j := Option.some.inj h
      exact ⟨by rw [seqIndex_of h0 h1, e], by omega, by omega, h1⟩
    · rw [if_neg h1] at h; cases h
  · rw [if_neg h0] at h
    by_cases h1 : -(n : Int) ≤ i
    · rw [if_pos h1] at h
      have e : (i + n).toNat = j := Option.some.inj h
      exact ⟨by rw [seqIndex_neg (by omega) h1, e], by omega, h1, by omega⟩
    · rw [if_neg h1] at h; cases h
theorem atI_get {α : Type} {xs : List α} {i : Int} {v : α} (h : atI xs i = some v) : ∃ j, seqIndex? i xs.length = some j ∧ xs[j]? = some v ∧ j < xs.length ∧ -(xs.length : Int) ≤ i ∧ i < xs.length := by
  unfold atI at h
  cases e : ixN xs.length i with
  | none => rw [e] at h; cases h
  | some j =>
    rw [e] at h
    obtain ⟨h1, h2, h3, h4⟩ := ixN_seq e
    exact ⟨j, h1, h, h2, h3, h4⟩
theorem atI_nat {α : Type} {xs : List α} {j : Nat} {v : α} (h : xs[j]? = some v) : atI xs (j : Int) = some v := by
  have hj : j < xs.length := (List.getElem?_eq_some_iff.mp h).1
  have e : ixN xs.length (j : Int) = some j := by
    unfold ixN
    rw [if_pos (by omega), if_pos (by omega)]; simp
  unfold atI; rw [e]; exact h
theorem atI_last {α : Type} (xs : List α) (v : α) : atI (xs ++ [v]) (-1) = some v := by
  have hl : (xs ++ [v]).length = xs.length + 1 := by simp
  have e : ixN (xs ++ [v]).length (-1) = some xs.length := by
    unfold ixN
    rw [hl, if_neg (by decide), if_pos (by omega)]
    congr 1
    omega
  unfold atI
  rw [e]
  show (xs ++ [v])[xs.length]? = some v
  simp

/-! ### what may be subscripted -/
/-- what stands as an index of a plain subscript -/
def PlainIx (b : Expr) : Prop := ∀ o i, subscripted b false o i = operate [o, i] (getItem o i)
/-- a subscript by values -/
def IxR (X : Cx) (r : R2) : Prop :=
  ∀ (value slice : Expr) (pins : List (Addr × Obj)) (s : Shared) (σ : St) (H : Hp) (x y : V) (v u : Value) (Q : VK), Inv X pins σ H s → RelV x v → RelV y u → r x y H Q →
    subscripted slice false v u = operate [v, u] (getItem v u) → wpAny (model X.prog X.w) X.A (subscriptTail value slice v u) (EP X pins σ Q) X.xe s
/-- a call of a builtin's method by values: the receiver, the arguments -/
def MtR (X : Cx) (id : String) (r : V → List V → Hp → VK → Prop) : Prop :=
  ∀ (pins : List (Addr × Obj)) (s : Shared) (σ : St) (H : Hp) (x : V) (xs : List V) (v : Value) (us : List Value) (Q : VK), Inv X pins σ H s → RelV x v → Vals xs us → r x xs H Q →
    wpAny (model X.prog X.w) X.A (call (.builtin id) (v :: us)) (EP X pins σ Q) X.xe s
section
variable {X : Cx} {a b : Expr} {ta tb : TE} {pos : Pos}
theorem IxR.or {r r' : R2} (h : IxR X r) (h' : IxR X r') : IxR X (fun x y H Q => r x y H Q ∨ r' x y H Q) := by
  intro value slice pins s σ H x y v u Q I rx ry q hs
  rcases q with q | q
  · exact h value slice pins s σ H x y v u Q I rx ry q hs
  · exact h' value slice pins s σ H x y v u Q I rx ry q hs
theorem MtR.or {id : String} {r r' : V → List V → Hp → VK → Prop} (h : MtR X id r) (h' : MtR X id r') : MtR X id (fun x xs H Q => r x xs H Q ∨ r' x xs H Q) := by
  intro pins s σ H x xs v us Q I rx rs q
  rcases q with q | q
  · exact h pins s σ H x xs v us Q I rx rs q
  · exact h' pins s σ H x xs v us Q I rx rs q
/-- a[b] -/
theorem pe_ix {r : R2} (hr : IxR X r) (ha : PE X a ta) (hb : PE X b tb) (hs : PlainIx b) : PE X (.Subscript a b pos) (tOp r ta tb) := by
  intro pins s σ H Q I h
  exact Subscript_ (binT ha hb I h fun v u s2 x y H2 I2 rx ry q => hr a b pins s2 σ H2 x y v u Q I2 rx ry q (hs _ _))

def rIxL (K : PySem.W.Frag) : R2 := fun x y H Q => ∃ p xs i v, x = .ref p ∧ y = .int i ∧ SqL K H p xs ∧ atI xs i = some v ∧ Q v H
def rIxT (K : PySem.W.Frag) : R2 := fun x y H Q => ∃ p xs i v, x = .ref p ∧ y = .int i ∧ SqT K H p xs ∧ atI xs i = some v ∧ Q v H
def rIxS : R2 := fun x y H Q => ∃ z i c, x = .str z ∧ y = .int i ∧ z.length ≤ sizeLine ∧ atI z.cps.toList i = some c ∧ Q (.str ⟨#[c]⟩) H
theorem ix_list : IxR X (rIxL X.K) := by
  intro value slice pins s σ H x y v u Q I rx ry h hs
  obtain ⟨p, xs, i, z, rfl, rfl, hq, he, q⟩ := h
  cases rx
  obtain ⟨t, rfl⟩ := ry
  obtain ⟨its, r, pl, hz⟩ := I.list hq
  obtain ⟨j, h1, h2, h3, h4, h5⟩ := atI_get he
  obtain ⟨w, ew, rw'⟩ := r.get h2
  have hl := r.length
  have hn := line63
  have fin : EP X pins σ Q w s := ⟨z, H, I, rw', q⟩
  by_cases h0 : 0 ≤ i
  · have hj : i.toNat = j := by
      rw [seqIndex_of h0 h5] at h1
      exact Option.some.inj h1
    exact item_listR pl.isList h0 (by omega) (by rw [hj]; simpa using ew) fin hs
  · have hj : (i + (its.toArray.size : Int)).toNat = j := by
      rw [seqIndex_neg (by omega) h4] at h1
      rw [List.size_toArray, ← hl]
      exact Option.some.inj h1
    exact subscriptTail_builtinR (x := w) pl.isList.typeIs slot_list_getitem.lookup
      (wpAny_getItem_list_neg (Q := fun r s' => r = w ∧ EP X pins σ Q r s') pl.isList (by omega) (by rw [List.size_toArray] <;> omega) (by omega) (by rw [hj]; simpa using ew) ⟨rfl, fin⟩) hs
theorem ix_tup : IxR X (rIxT X.K) := by
  intro value slice pins s σ H x y v u Q I rx ry h hs
  obtain ⟨p, xs, i, z, rfl, rfl, hq, he, q⟩ := h
  cases rx
  obtain ⟨t, rfl⟩ := ry
  obtain ⟨its, r, pl, hz⟩ := I.tuple hq
  obtain ⟨j, h1, h2, h3, h4, h5⟩ := atI_get he
  obtain ⟨w, ew, rw'⟩ := r.get h2
  have hl := r.length
  have hn := line63
  have fin : EP X pins σ Q w s := ⟨z, H, I, rw', q⟩
  exact subscriptTail_builtinR (x := w) pl.typeIs slot_tuple_getitem.lookup
    (getItem_tuple (j := j) (Q := fun r s' => r = w ∧ EP X pins σ Q r s') pl (by omega) (by omega) (by rw [List.size_toArray, ← hl]; exact h1) (by simpa using ew) ⟨rfl, fin⟩) hs
theorem ix_str : IxR X rIxS := by
  intro value slice pins s σ H x y v u Q I rx ry h hs
  obtain ⟨z, i, c, rfl, rfl, hz, he, q⟩ := h
  obtain ⟨t, rfl⟩ := rx
  obtain ⟨t', rfl⟩ := ry
  obtain ⟨j, h1, h2, h3, h4, h5⟩ := atI_get he
  have hl : z.cps.toList.length = z.length := by simp [Str.length]
  rw [hl] at h1 h4 h5
  have hn := line63
  exact tail_any (typeIs_str s z t) slot_str_getitem.lookup (getItem_str (c := c) (by
    have e1 : decide (i < -(2 ^ 63 : Int)) = false := decide_eq_false (by omega)
    have e2 : decide (i ≥ 2 ^ 63) = false := decide_eq_false (by omega)
    rw [e1, e2, Bool.or_false]) (by rw [h1]; simpa using h2) ⟨.str ⟨#[c]⟩, H, I.tok _, ⟨_, rfl⟩, q⟩) hs
/-- list, tuple or str -/
def rIx (K : PySem.W.Frag) : R2 := fun x y H Q => rIxL K x y H Q ∨ rIxT K x y H Q ∨ rIxS x y H Q
theorem ix_seq : IxR X (rIx X.K) := ix_list.or (ix_tup.or ix_str)

/-! ### xs[i] = v, any sign -/
/-- the list's object behind a store -/
theorem mapSeq_set (its : List Value) (n j : Nat) (u : Value) : Obj.mapSeq (·.setIfInBounds j u) { cls := .type "list", data := .seq its.toArray n } = { cls := .type "list", data := .seq (its.set j u).toArray n } := by
  simp [Obj.mapSeq]
theorem Inv.lst {pins : List (Addr × Obj)} {σ : St} {H : Hp} {s : Shared} {p : Addr} {xs : List V} (I : Inv X pins σ H s) (h : H p = some (.lst xs)) :
    ∃ (its : List Value) (n : Nat), Vals xs its ∧ s.heap.get? p = some { cls := .type "list", data := .seq its.toArray n } ∧ xs.length ≤ sizeLine := by
  obtain ⟨z, its, n, r, e⟩ := I.hok p _ h
  exact ⟨its, n, r, e, z⟩
/-- the list at p is written by an update of its object -/
theorem Inv.lstUpd {pins : List (Addr × Obj)} {σ : St} {H : Hp} {s : Shared} {p : Addr} {xs ys : List V} {its its' : List Value} {n n' : Nat} {f : Obj → Obj} (I : Inv X pins σ H s) (h : H p = some (.lst xs))
    (ho : s.heap.get? p = some { cls := .type "list", data := .seq its.toArray n }) (hf : f { cls := .type "list", data := .seq its.toArray n } = { cls := .type "list", data := .seq its'.toArray n' }) (r : Vals ys its') (hz : ys.length ≤ sizeLine) (t : Nat) :
    Inv X pins σ (upd H p (.lst ys)) { s with heap := s.heap.update p f, toks := t } := by
  have e : (s.heap.update p f).get? p = some { cls := .type "list", data := .seq its'.toArray n' } := by
    rw [Heap.get?_update_self f ho (by rw [hf] <;> rfl), hf]
  refine I.write (x := p) (e := p) (by rw [h]; trivial) (.inl rfl) (fun b u hb q => (Heap.get?_update_other _ _ (Ne.symm hb)).trans q) ⟨_, e⟩ ?_
  exact ⟨hz, its', n', r, e⟩
def rSetL : V → V → V → Hp → (Hp → Prop) → Prop := fun o i v H Q => ∃ p xs k j, o = .ref p ∧ i = .int k ∧ H p = some (.lst xs) ∧ ixN xs.length k = some j ∧ Q (upd H p (.lst (xs.set j v)))
theorem set_list : PSet X rSetL := by
  intro pins s σ H o i v ov iv u Q I ro ri rv h
  obtain ⟨p, xs, k, j, rfl, rfl, hp, hj, q⟩ := h
  cases ro
  obtain ⟨t, rfl⟩ := ri
  obtain ⟨its, n, r, ho, hz⟩ := I.lst hp
  obtain ⟨h1, h2, h3, h4⟩ := ixN_seq hj
  have hl := r.length
  have hn := line63
  have I' : Inv X pins σ (upd H p (.lst (xs.set j v))) { s with heap := s.heap.update p (Obj.mapSeq (·.setIfInBounds j u)) } :=
    I.lstUpd hp ho (mapSeq_set its n j u) (r.set rv j) (by rw [List.length_set]; exact hz) s.toks
  by_cases h0 : 0 ≤ k
  · have hk : k.toNat = j := by
      rw [seqIndex_of h0 h4] at h1
      exact Option.some.inj h1
    exact PySem.W.ki_setAt ho h0 (by omega) (by rw [List.size_toArray, ← hl]; exact h4) (by rw [hk]; exact ⟨_, I', q⟩)
  · have hk : (k + (its.toArray.size : Int)).toNat = j := by
      rw [seqIndex_neg (by omega) h3] at h1
      rw [List.size_toArray, ← hl]
      exact Option.some.inj h1
    exact PySem.W.ki_setBack ho (by omega) (by rw [List.size_toArray, ← hl]; exact h3) (by omega) (by rw [hk]; exact ⟨_, I', q⟩)

/-! ### slices -/
theorem slice_bounds (lo hi : Option Int) (n : Nat) : (sliceBounds lo hi none n).1 = ((HT.sIx n 0 lo : Nat) : Int) ∧ (sliceBounds lo hi none n).2.1 = ((HT.sIx n n hi : Nat) : Int) ∧ (sliceBounds lo hi none n).2.2 = 1 := by
  refine ⟨?_, ?_, rfl⟩
  · cases lo with
    | none => simp [sliceBounds, HT.sIx]
    | some i =>
      simp only [sliceBounds, HT.sIx, Option.getD_none, show (1 : Int) > 0 by decide, if_true]
      by_cases h : i < 0
      · simp only [h, if_true] <;> omega
      · simp only [h, if_false] <;> omega
  · cases hi with
    | none => simp [sliceBounds, HT.sIx]
    | some i =>
      simp only [sliceBounds, HT.sIx, Option.getD_none, show (1 : Int) > 0 by decide, if_true]
      by_cases h : i < 0
      · simp only [h, if_true] <;> omega
      · simp only [h, if_false] <;> omega
theorem slicePick_cut (its : List Value) (lo hi : Option Int) : slicePick its.toArray lo hi none = ((its.drop (HT.sIx its.length 0 lo)).take (HT.sIx its.length its.length hi - HT.sIx its.length 0 lo)).toArray := by
  obtain ⟨h1, h2, h3⟩ := slice_bounds lo hi its.toArray.size
  unfold slicePick
  rw [h1, h2, h3]
  simp only [sliceRange_one, pick_run, List.size_toArray] <;> rfl
/-- xs[lo:hi] of a list: a new list -/
def rSlL (K : PySem.W.Frag) : V → Option Int → Option Int → Hp → VK → Prop := fun x lo hi H Q => ∃ a xs, x = .ref a ∧ SqL K H a xs ∧ ∀ p, H p = none → Q (.ref p) (upd H p (.lst (cutV xs lo hi)))
theorem sl_list : SlR X (rSlL X.K) := by
  intro pins s σ H x v vl vu lo hi sl Q I rx hs pl pu h
  obtain ⟨a, xs, rfl, hx, q⟩ := h
  cases rx
  obtain ⟨its, r, ht, hz⟩ := I.list hx
  have hlen := r.length
  refine ⟨"list", _, slot_list_getitem.lookup, ht.isList.typeIs, ?_⟩
  refine wpAny_getItem_list_slice ht.isList hs pl pu .none (by simp) ?_ (by rw [List.size_toArray] <;> omega)
  rw [slicePick_cut, ← hlen]
  refine ⟨.ref s.heap.objs.size, _, I.laid (t' := s.toks) (o := .lst (cutV xs lo hi)) (fun b ob q => Heap.get?_push_of_some _ q) (Nat.le_refl _) ?_, rfl, q _ (I.hok.fresh (Nat.le_refl _))⟩
  exact ⟨Nat.le_trans (cutV_length xs lo hi) hz, _, 0, (r.drop (HT.sIx xs.length 0 lo)).take (HT.sIx xs.length xs.length hi - HT.sIx xs.length 0 lo), Heap.get?_push_size _ rfl⟩

/-! ### in, not in: flat items -/
def flatV : V → Bool
  | .non => true
  | .bl _ => true
  | .int _ => true
  | .str _ => true
  | _ => false
/-- == of flat values -/
def eqV : V → V → Bool
  | .non, .non => true
  | .bl a, .bl b => a == b
  | .bl a, .int b => (if a then 1 else 0) == b
  | .int a, .bl b => a == (if b then 1 else 0)
  | .int a, .int b => a == b
  | .str a, .str b => a == b
  | _, _ => false
theorem eqAt_V {A : Around} {s : Shared} {y x : V} {u v : Value} (ry : RelV y u) (rx : RelV x v) (fy : flatV y = true) (fx : flatV x = true) : SeqAt.EqAt A s u v (eqV y x) := by
  cases y with
  | non =>
    cases ry
    cases x with
    | non => cases rx; exact SeqAt.EqAt.same _
    | bl b => cases rx; exact SeqAt.EqAt.none_bool b
    | int b => obtain ⟨t, rfl⟩ := rx; exact SeqAt.EqAt.none_int b t
    | str b => obtain ⟨t, rfl⟩ := rx; exact SeqAt.EqAt.none_str b t
    | _ => exact absurd (show false = true from fx) Bool.false_ne_true
  | bl a =>
    cases ry
    cases x with
    | non => cases rx; exact SeqAt.EqAt.bool_none a
    | bl b => cases rx; exact SeqAt.EqAt.bool_bool a b
    | int b => obtain ⟨t, rfl⟩ := rx; exact SeqAt.EqAt.bool_int a b t
    | str b => obtain ⟨t, rfl⟩ := rx; exact SeqAt.EqAt.bool_str a b t
    | _ => exact absurd (show false = true from fx) Bool.false_ne_true
  | int a =>
    obtain ⟨t', rfl⟩ := ry
    cases x with
    | non => cases rx; exact SeqAt.EqAt.int_none a t'
    | bl b => cases rx; exact SeqAt.EqAt.int_bool a t' b
    | int b => obtain ⟨t, rfl⟩ := rx; exact SeqAt.EqAt.int_int a t' b t
    | str b => obtain ⟨t, rfl⟩ := rx; exact SeqAt.EqAt.int_str a t' b t
    | _ => exact absurd (show false = true from fx) Bool.false_ne_true
  | str a =>
    obtain ⟨t', rfl⟩ := ry
    cases x with
    | non => cases rx; exact SeqAt.EqAt.str_none a t'
    | bl b => cases rx; exact SeqAt.EqAt.str_bool a t' b
    | int b => obtain ⟨t, rfl⟩ := rx; exact SeqAt.EqAt.str_int a t' b t
    | str b => obtain ⟨t, rfl⟩ := rx; exact SeqAt.EqAt.str_str a t' b t
    | _ => exact absurd (show false = true from fx) Bool.false_ne_true
  | _ => exact absurd (show false = true from fy) Bool.false_ne_true
/-- the items' answers, read off the values (a value's own answer does not lean on its token) -/
def eqU (x : V) (u : Value) : Bool := match u with
  | .none => eqV .non x
  | .bool b => eqV (.bl b) x
  | .int i _ => eqV (.int i) x
  | .str z _ => eqV (.str z) x
  | _ => false
theorem eqU_of {x y : V} {u : Value} (r : RelV y u) (f : flatV y = true) : eqU x u = eqV y x := by
  cases y with
  | non => cases r; rfl
  | bl b => cases r; rfl
  | int i => obtain ⟨t, rfl⟩ := r; rfl
  | str z => obtain ⟨t, rfl⟩ := r; rfl
  | _ => exact absurd (show false = true from f) Bool.false_ne_true
theorem any_eqU {x : V} : ∀ {xs : List V} {us : List Value}, Vals xs us → xs.all flatV = true → us.any (eqU x) = xs.any fun y => eqV y x
  | _, _, .nil, _ => rfl
  | y :: xs, u :: us, .cons r t, f => by
    rw [List.all_cons, Bool.and_eq_true] at f
    rw [List.any_cons, List.any_cons, eqU_of r f.1, any_eqU t f.2]
theorem mem_eqAt {A : Around} {s : Shared} {x : V} {v : Value} (rx : RelV x v) (fx : flatV x = true) : ∀ {xs : List V} {us : List Value}, Vals xs us → xs.all flatV = true → ∀ u ∈ us, SeqAt.EqAt A s u v (eqU x u)
  | _, _, .nil, _ => fun u hu => by cases hu
  | y :: xs, u :: us, .cons r t, f => fun u' hu => by
    rw [List.all_cons, Bool.and_eq_true] at f
    rcases List.mem_cons.mp hu with rfl | hu
    · rw [eqU_of r f.1]; exact eqAt_V r rx f.1 fx
    · exact mem_eqAt rx fx t f.2 u' hu
def inV (x : V) (xs : List V) : Bool := xs.any fun y => eqV y x
/-- x in a list or tuple of flat items -/
def rIn (K : PySem.W.Frag) (neg : Bool) : R2 := fun x y H Q => ∃ p xs, y = .ref p ∧ (SqL K H p xs ∨ SqT K H p xs) ∧ flatV x = true ∧ xs.all flatV = true ∧ Q (.bl (if neg then !inV x xs else inV x xs)) H
theorem op_in_seq : OpR X (compareOp .In) (rIn X.K false) := by
  intro pins s σ H x y v u Q I rx ry h
  obtain ⟨p, xs, rfl, hq, fx, fs, q⟩ := h
  cases ry
  rcases hq with hq | hq
  · obtain ⟨its, r, pl, hz⟩ := I.list hq
    refine SeqAt.in_listAt (eqU x) pl.isList (fun w hw => mem_eqAt rx fx r fs w (by simpa using hw)) ⟨.bl _, H, I, rfl, ?_⟩
    rw [show its.toArray.any (eqU x) = its.any (eqU x) by simp, any_eqU r fs]
    exact q
  · obtain ⟨its, r, pl, hz⟩ := I.tuple hq
    refine SeqAt.in_tupleAt (eqU x) pl (fun w hw => mem_eqAt rx fx r fs w (by simpa using hw)) ⟨.bl _, H, I, rfl, ?_⟩
    rw [show its.toArray.any (eqU x) = its.any (eqU x) by simp, any_eqU r fs]
    exact q
theorem op_notIn_seq : OpR X (compareOp .NotIn) (rIn X.K true) := by
  intro pins s σ H x y v u Q I rx ry h
  obtain ⟨p, xs, rfl, hq, fx, fs, q⟩ := h
  cases ry
  rcases hq with hq | hq
  · obtain ⟨its, r, pl, hz⟩ := I.list hq
    refine SeqAt.notIn_listAt (eqU x) pl.isList (fun w hw => mem_eqAt rx fx r fs w (by simpa using hw)) ⟨.bl _, H, I, rfl, ?_⟩
    rw [show its.toArray.any (eqU x) = its.any (eqU x) by simp, any_eqU r fs]
    exact q
  · obtain ⟨its, r, pl, hz⟩ := I.tuple hq
    refine SeqAt.notIn_tupleAt (eqU x) pl (fun w hw => mem_eqAt rx fx r fs w (by simpa using hw)) ⟨.bl _, H, I, rfl, ?_⟩
    rw [show its.toArray.any (eqU x) = its.any (eqU x) by simp, any_eqU r fs]
    exact q
theorem op_notIn_str : OpR X (compareOp .NotIn) (fun x y H Q => ∃ i j, x = .str i ∧ y = .str j ∧ Q (.bl (!(!(Builtin.Str.occurrences j i 0 j.length 1).isEmpty))) H) := by
  intro pins s σ H x y v u Q I rx ry h
  obtain ⟨i, j, rfl, rfl, q⟩ := h
  obtain ⟨t, rfl⟩ := rx
  obtain ⟨t', rfl⟩ := ry
  exact notIn_str ⟨.bl _, H, I, rfl, q⟩

/-! ### len, list(x), tuple(x) of any list or tuple that is read -/
theorem call_len_seq : CallR X (.builtin "len") (fun xs H Q => ∃ p ys, xs = [.ref p] ∧ (SqL X.K H p ys ∨ SqT X.K H p ys) ∧ Q (.int ys.length) H) := by
  intro pins s σ H xs us Q I r h
  obtain ⟨p, ys, rfl, hq, q⟩ := h
  obtain ⟨u, rfl, rx⟩ := vals1 r
  cases rx
  have hn := line63
  rcases hq with hq | hq
  · obtain ⟨its, r', pl, hz⟩ := I.list hq
    have hlen := r'.length
    exact Calls.call_len_list pl.isList (by simp only [List.size_toArray] <;> omega) ⟨.int ys.length, H, I.tok _, ⟨s.toks + 1, by rw [List.size_toArray, hlen]⟩, q⟩
  · obtain ⟨its, r', pl, hz⟩ := I.tuple hq
    have hlen := r'.length
    exact len_tuple pl (by simp only [List.size_toArray] <;> omega) ⟨.int ys.length, H, I.tok _, ⟨s.toks + 1, by rw [List.size_toArray, hlen]⟩, q⟩
theorem call_len_str : CallR X (.builtin "len") (fun xs H Q => ∃ z, xs = [.str z] ∧ z.length ≤ sizeLine ∧ Q (.int z.length) H) := by
  intro pins s σ H xs us Q I r h
  obtain ⟨z, rfl, hz, q⟩ := h
  obtain ⟨u, rfl, t, rfl⟩ := vals1 r
  have hn := line63
  exact len_str (by omega) ⟨.int z.length, H, I.tok _, ⟨_, rfl⟩, q⟩
theorem CallR.or {f : Value} {r r' : List V → Hp → VK → Prop} (h : CallR X f r) (h' : CallR X f r') : CallR X f (fun xs H Q => r xs H Q ∨ r' xs H Q) := by
  intro pins s σ H xs us Q I rs q
  rcases q with q | q
  · exact h pins s σ H xs us Q I rs q
  · exact h' pins s σ H xs us Q I rs q
theorem call_list_of : CallR X (.type "list") (fun xs H Q => ∃ p ys, xs = [.ref p] ∧ (SqL X.K H p ys ∨ SqT X.K H p ys) ∧ ∀ l, H l = none → Q (.ref l) (upd H l (.lst ys))) := by
  intro pins s σ H xs us Q I r h
  obtain ⟨p, ys, rfl, hq, q⟩ := h
  obtain ⟨u, rfl, rx⟩ := vals1 r
  cases rx
  have fin : ∀ (its : List Value), Vals ys its → ys.length ≤ sizeLine → ∀ (h' : Heap) (c' : Nat), (∀ b o', s.heap.get? b = some o' → h'.get? b = some o') →
      h'.get? s.heap.objs.size = some { cls := .type "list", dict := none, data := .seq its.toArray c', slots := #[] } → EP X pins σ Q (.ref s.heap.objs.size) { s with heap := h' } := fun its r' hz h' c' kp e =>
    ⟨.ref s.heap.objs.size, _, I.laid (t' := s.toks) kp (Nat.le_refl _) (show ObjOk X.prog X.w _ h' _ (.lst ys) from ⟨hz, its, c', r', e⟩), rfl, q _ (I.hok.fresh (Nat.le_refl _))⟩
  rcases hq with hq | hq
  · obtain ⟨its, r', pl, hz⟩ := I.list hq
    have hlen := r'.length
    obtain ⟨o, ho, hc, n, hd⟩ := pl.isList
    exact call_list_seq p (.inl rfl) ho hc hd (fun h' c' kp e => fin its r' hz h' c' kp e) (by simp only [List.size_toArray] <;> omega)
  · obtain ⟨its, r', pl, hz⟩ := I.tuple hq
    have hlen := r'.length
    obtain ⟨o, ho, hc, n, hd⟩ := pl
    exact call_list_seq p (.inr rfl) ho hc hd (fun h' c' kp e => fin its r' hz h' c' kp e) (by simp only [List.size_toArray] <;> omega)
theorem call_tuple_of : CallR X (.type "tuple") (fun xs H Q => ∃ p ys, xs = [.ref p] ∧ ((SqL X.K H p ys ∧ ∀ l, H l = none → Q (.ref l) (upd H l (.tup ys))) ∨ (SqT X.K H p ys ∧ Q (.ref p) H))) := by
  intro pins s σ H xs us Q I r h
  obtain ⟨p, ys, rfl, h⟩ := h
  obtain ⟨u, rfl, rx⟩ := vals1 r
  cases rx
  rcases h with ⟨hq, q⟩ | ⟨hq, q⟩
  · obtain ⟨its, r', pl, hz⟩ := I.list hq
    have hlen := r'.length
    refine call_tuple_list pl.isList (fun h' kp => ?_) (by simp only [List.size_toArray] <;> omega)
    have I1 : Inv X pins σ H { s with heap := h' } := I.kept (t' := s.toks) kp
    have I2 : Inv X pins σ (upd H h'.objs.size (.tup ys)) { s with heap := h'.push { cls := .type "tuple", data := .seq its.toArray } } :=
      I1.laid (t' := s.toks) (fun b o e => Heap.get?_push_of_some _ e) (Nat.le_refl _) (show ObjOk X.prog X.w _ _ _ (.tup ys) from ⟨hz, its, r', IsTup.new _ _⟩)
    exact ⟨.ref h'.objs.size, _, I2, rfl, q _ (I1.hok.fresh (Nat.le_refl _))⟩
  · obtain ⟨its, r', pl, hz⟩ := I.tuple hq
    exact call_tuple_same pl ⟨.ref p, H, I, rfl, q⟩

/-! ### the call of a builtin's method: o.m(..) -/
/-- the value is of that builtin type -/
def tyV (K : PySem.W.Frag) (T : String) (x : V) (H : Hp) : Prop := match x with
  | .str _ => T = "str"
  | .int _ => T = "int"
  | .ref p => (T = "list" ∧ ∃ xs, SqL K H p xs) ∨ (T = "tuple" ∧ ∃ o, K.lookup p = some o ∧ o.cls = .type "tuple" ∧ o.dict = none) ∨
      (T = "dict" ∧ ((∃ kvs, H p = some (.dK kvs)) ∨ ∃ kvs, H p = some (.dT kvs))) ∨ (T = "set" ∧ ∃ S n, H p = some (.set S n))
  | _ => False
theorem tyV_is {pins : List (Addr × Obj)} {σ : St} {H : Hp} {s : Shared} {T : String} {x : V} {v : Value} (I : Inv X pins σ H s) (r : RelV x v) (ty : tyV X.K T x H) :
    s.TypeIs v T ∧ ∀ a, v = .ref a → ∃ ob, s.heap.get? a = some ob ∧ ob.dict = none := by
  cases x with
  | str z =>
    obtain ⟨t, rfl⟩ := r
    cases (show T = "str" from ty)
    exact ⟨typeIs_str s z t, fun _ e => nomatch e⟩
  | int i =>
    obtain ⟨t, rfl⟩ := r
    cases (show T = "int" from ty)
    exact ⟨typeIs_int s i t, fun _ e => nomatch e⟩
  | ref p =>
    cases r
    rcases ty with ⟨rfl, xs, hq⟩ | ⟨rfl, o, hk, hc, hd⟩ | ⟨rfl, hk⟩ | ⟨rfl, S, n, hk⟩
    · obtain ⟨its, _, pl, _⟩ := I.list hq
      refine ⟨pl.isList.typeIs, fun a e => ?_⟩
      cases e
      obtain ⟨o, n, e, c, hd, _⟩ := pl
      exact ⟨o, e, hd⟩
    · refine ⟨⟨o, I.kIn p o hk, hc⟩, fun a e => ?_⟩
      cases e
      exact ⟨o, I.kIn _ o hk, hd⟩
    · have z : ∃ o, s.heap.get? p = some o ∧ o.ExactDict := by
        rcases hk with ⟨kvs, hk⟩ | ⟨kvs, hk⟩
        · obtain ⟨_, _, _, _, o, _, _, e, ex, _⟩ := I.hok p _ hk
          exact ⟨o, e, ex⟩
        · obtain ⟨_, _, _, _, o, _, _, e, ex, _⟩ := I.hok p _ hk
          exact ⟨o, e, ex⟩
      obtain ⟨o, e, ex⟩ := z
      refine ⟨⟨o, e, ex.1⟩, fun a e2 => ?_⟩
      cases e2
      exact ⟨o, e, ex.2.1⟩
    · obtain ⟨o, _, _, _, e, ex, _⟩ := I.hok p _ hk
      refine ⟨⟨o, e, ex.1⟩, fun a e2 => ?_⟩
      cases e2
      exact ⟨o, e, ex.2.1⟩
  | _ => exact False.elim ty
def tBM0 (K : PySem.W.Frag) (T : String) (r : V → List V → Hp → VK → Prop) (to : TE) : TE := fun σ H Q => to σ H fun x H1 => tyV K T x H1 ∧ r x [] H1 Q
def tBM (K : PySem.W.Frag) (T : String) (r : V → List V → Hp → VK → Prop) (to : TE) (t : TA) : TE := fun σ H Q => to σ H fun x H1 => tyV K T x H1 ∧ t σ H1 fun xs H2 => r x xs H2 Q
variable {o e : Expr} {es : List Expr} {to : TE} {t : TA} {name : Str} {apos cpos : Pos} {T id : String} {r : V → List V → Hp → VK → Prop}
theorem pe_bm0 (pa : PlainAttrs T) (slot : Slot T name id) (hty : typeOf (.builtin id) = pure (.type "method_descriptor")) (hm : MtR X id r) (ho : PE X o to)
    (hbase : attributeBase o name X.env (eval o X.env) = eval o X.env := by rfl) (hline : (apos.endLine == cpos.line) = true := by rfl) : PE X (.Call (.Attribute o name apos) [] [] cpos) (tBM0 X.K T r to) := by
  intro pins s σ H Q I h
  refine wpAny_Call_method0_late hbase hline (thn (ho pins s σ H _ I h) fun v s1 ⟨x, H1, I1, r1, ty, q1⟩ => ?_)
  obtain ⟨h1, h2⟩ := tyV_is I1 r1 ty
  exact ⟨T, id, pa, slot, hty, h1, h2, Calls.callWith_builtin rfl (PySem.evalArgs_none (hm pins s1 σ H1 x [] v [] Q I1 r1 .nil q1))⟩
theorem pe_bm (pa : PlainAttrs T) (slot : Slot T name id) (hty : typeOf (.builtin id) = pure (.type "method_descriptor")) (hm : MtR X id r) (ho : PE X o to) (ha : PA X (e :: es) t)
    (hbase : attributeBase o name X.env (eval o X.env) = eval o X.env := by rfl)
    (hfew : ((backTo cpos (starEach (e :: es) X.env)).all (fun x => !x.1) && (backToKw cpos (keywordEach [] X.env)).all (fun x => x.1.isSome)
      && decide ((e :: es).length + ([] : List Keyword).length + (if ([] : List Keyword).isEmpty then 0 else 1) < 30)) = true := by rfl)
    (hline : (apos.endLine == cpos.line) = true := by rfl) (hs : starEach (e :: es) X.env = (false, eval e X.env) :: starEach es X.env := by rfl) (hplain : (backTo cpos (starEach es X.env)).any (·.1) = false := by rfl) :
    PE X (.Call (.Attribute o name apos) (e :: es) [] cpos) (tBM X.K T r to t) := by
  intro pins s σ H Q I h
  refine wpAny_Call_method_late hbase hfew hline rfl (thn (ho pins s σ H _ I h) fun v s1 ⟨x, H1, I1, r1, ty, q1⟩ => ?_)
  obtain ⟨h1, h2⟩ := tyV_is I1 r1 ty
  refine ⟨T, id, pa, slot, hty, h1, h2, ?_⟩
  have hA := ha cpos pins s1 σ H1 _ I1 q1
  rw [hs] at hA ⊢
  refine Calls.callWith_builtin (by show (false || (backTo cpos (starEach es X.env)).any (·.1)) = false; rw [hplain] <;> rfl) (Calls.evalArgs_plain ?_)
  exact thn hA fun us s2 ⟨vs, H2, I2, r2, q2⟩ => hm pins s2 σ H2 x vs v us Q I2 r1 r2 q2
/- xs.append(e), list.index on a module's tuple .. are MtR facts of 06m -/
end
end L2

namespace L2
open PySem PySem.Spec PyProof.Rows

def MtM (X : Cx) (id : String) (r : V → List V → Hp → VK → Prop) : Prop :=
  ∀ (pins : List (Addr × Obj)) (s : Shared) (σ : St) (H : Hp) (x : V) (xs : List V) (v : Value) (us : List Value) (Q : VK), Inv X pins σ H s → RelV x v → Vals xs us → r x xs H Q →
    wpAny (model X.prog X.w) X.A (call (.builtin id) (v :: us)) (EP X pins σ Q) X.xe s

/-! ### lists of values -/
theorem Vals.one : ∀ {x : V} {us : List Value}, Vals [x] us → ∃ u, us = [u] ∧ RelV x u
  | _, _, .cons r .nil => ⟨_, rfl, r⟩
theorem Vals.two : ∀ {x y : V} {us : List Value}, Vals [x, y] us → ∃ u v, us = [u, v] ∧ RelV x u ∧ RelV y v
  | _, _, _, .cons r (.cons q .nil) => ⟨_, _, rfl, r, q⟩
theorem Vals.zero : ∀ {us : List Value}, Vals [] us → us = []
  | _, .nil => rfl
theorem Vals.dropLast {xs : List V} {us : List Value} (h : Vals xs us) : Vals xs.dropLast us.dropLast := by
  induction h with
  | nil => exact .nil
  | cons r t ih =>
    cases t with
    | nil => exact .nil
    | cons q t' => exact .cons r ih
theorem Vals.eraseIdx : ∀ {xs : List V} {us : List Value} (i : Nat), Vals xs us → Vals (xs.eraseIdx i) (us.eraseIdx i)
  | _, _, _, .nil => .nil
  | _, _, 0, .cons _ t => t
  | _, _, i + 1, .cons r t => .cons r (Vals.eraseIdx i t)
theorem Vals.reverse {xs : List V} {us : List Value} (h : Vals xs us) : Vals xs.reverse us.reverse := by
  induction h with
  | nil => exact .nil
  | cons r t ih => rw [List.reverse_cons, List.reverse_cons]; exact Vals.append ih (.cons r .nil)
theorem Vals.rep {xs : List V} {us : List Value} (h : Vals xs us) : ∀ k : Nat, Vals (List.replicate k xs).flatten (List.replicate k us).flatten
  | 0 => .nil
  | k + 1 => by
    rw [List.replicate_succ, List.replicate_succ, List.flatten_cons, List.flatten_cons]
    exact Vals.append h (Vals.rep h k)
theorem erase_last {α : Type} (l : List α) : l.eraseIdx (l.length - 1) = l.dropLast := by
  induction l with
  | nil => rfl
  | cons a r ih =>
    cases r with
    | nil => rfl
    | cons b r =>
      have e : (a :: b :: r).length - 1 = ((b :: r).length - 1) + 1 := by
        have h1 : (a :: b :: r).length = r.length + 2 := rfl
        have h2 : (b :: r).length = r.length + 1 := rfl
        omega
      rw [e, List.eraseIdx_cons_succ, ih]
      all_goals rfl
theorem len_erase {α : Type} : ∀ (l : List α) (i : Nat), (l.eraseIdx i).length ≤ l.length
  | [], _ => Nat.le_refl _
  | _ :: _, 0 => Nat.le_succ _
  | _ :: r, i + 1 => Nat.succ_le_succ (len_erase r i)
theorem foldl_rep (its : List Value) : ∀ (k : Nat) (acc : List Value),
    List.foldl (fun x1 x2 => x1 ++ x2) acc.toArray (List.replicate k its.toArray) = (acc ++ (List.replicate k its).flatten).toArray
  | 0, acc => by simp
  | k + 1, acc => by
    have e : acc.toArray ++ its.toArray = (acc ++ its).toArray := by simp
    have e2 : (acc ++ its) ++ (List.replicate k its).flatten = acc ++ (List.replicate (k + 1) its).flatten := by
      rw [List.replicate_succ, List.flatten_cons, List.append_assoc]
    rw [← e2, ← foldl_rep its k (acc ++ its), ← e, List.replicate_succ, List.foldl_cons]

section
variable {X : Cx} {pins : List (Addr × Obj)} {σ : St} {H : Hp} {s : Shared} {l b : Addr} {xs ys zs : List V}

/-! ### the two steps: a tracked list is rewritten, a new list is laid -/
theorem Inv.lset {its its' : List Value} {n : Nat} {f : Array Value → Array Value} {t' : Nat} (I : Inv X pins σ H s) (hH : H l = some (.lst xs))
    (e : s.heap.get? l = some { cls := .type "list", data := .seq its.toArray n }) (hf : f its.toArray = its'.toArray) (hv : Vals ys its') (hz : ys.length ≤ sizeLine) :
    Inv X pins σ (upd H l (.lst ys)) { s with heap := s.heap.update l (Obj.mapSeq f), toks := t' } := by
  have q := PySem.IsL.update e f
  rw [hf] at q
  refine I.write (x := l) (e := l) (by rw [hH]; exact trivial) (.inl rfl) (fun b' u hb hu => (Heap.get?_update_other s.heap (Obj.mapSeq f) (Ne.symm hb)).trans hu) ⟨_, q⟩ ?_
  exact ⟨hz, its', _, hv, q⟩
theorem Inv.lnew {its : List Value} {t' : Nat} (I : Inv X pins σ H s) (hv : Vals ys its) (hz : ys.length ≤ sizeLine) :
    Inv X pins σ (upd H s.heap.objs.size (.lst ys)) { s with heap := s.heap.push { cls := .type "list", data := .seq its.toArray }, toks := t' } :=
  I.laid (fun _ _ q => Heap.get?_push_of_some _ q) (Nat.le_refl _) ⟨hz, its, 0, hv, Heap.get?_push_size _ rfl⟩
theorem Inv.fresh (I : Inv X pins σ H s) : H s.heap.objs.size = none := I.hok.fresh (Nat.le_refl _)
theorem Inv.lstM (I : Inv X pins σ H s) (hH : H l = some (.lst xs)) : xs.length ≤ sizeLine ∧ ∃ (its : List Value) (n : Nat), Vals xs its ∧ xs.length = its.length ∧ s.heap.get? l = some { cls := .type "list", data := .seq its.toArray n } := by
  obtain ⟨z, its, n, r, e⟩ := I.hok l _ hH
  exact ⟨z, its, n, r, r.length, e⟩

theorem notLongL {n : Nat} (h : n ≤ sizeLine) : Builtin.List.listTooLong n = false := by
  unfold Builtin.List.listTooLong
  exact decide_eq_false (by omega)
end

section
variable {X : Cx}

/-! ### methods -/
def rAppend : V → List V → Hp → VK → Prop := fun x vs H Q => ∃ l xs y, x = .ref l ∧ vs = [y] ∧ H l = some (.lst xs) ∧ xs.length < sizeLine ∧ Q .non (upd H l (.lst (xs ++ [y])))
theorem mt_append : MtM X "list.append" rAppend := by
  intro pins s σ H x vs v us Q I rx rv h
  obtain ⟨l, xs, y, rfl, rfl, hH, hz, q⟩ := h
  cases rx
  obtain ⟨u, rfl, ru⟩ := rv.one
  obtain ⟨z, its, n, r, hl, e⟩ := I.lstM hH
  refine call_meets F.slot_list_append ⟨_, e, rfl⟩ F.entry_list_append (F.args_list_append_2 _ _) (PySem.list_append l its.toArray n u (by rw [List.size_toArray]; omega)) ⟨e, ?_⟩
  refine ⟨.non, _, I.lset (its' := its ++ [u]) hH e (by simp) (r.append (.cons ru .nil)) ?_, rfl, q⟩
  rw [List.length_append, List.length_singleton]
  omega

def rExtend : V → List V → Hp → VK → Prop := fun x vs H Q => ∃ l b xs zs, x = .ref l ∧ vs = [.ref b] ∧ H l = some (.lst xs) ∧ H b = some (.lst zs) ∧ xs.length + zs.length ≤ sizeLine ∧ Q .non (upd H l (.lst (xs ++ zs)))
theorem mt_extend : MtM X "list.extend" rExtend := by
  intro pins s σ H x vs v us Q I rx rv h
  obtain ⟨l, b, xs, zs, rfl, rfl, hH, hB, hz, q⟩ := h
  cases rx
  obtain ⟨u, rfl, ru⟩ := rv.one
  cases ru
  obtain ⟨z, its, n, r, hl, e⟩ := I.lstM hH
  obtain ⟨z2, its2, n2, r2, hl2, e2⟩ := I.lstM hB
  have hsz : its.toArray.size + its2.toArray.size ≤ sizeLine := by rw [List.size_toArray, List.size_toArray]; omega
  have hlong : ¬ (!its.toArray.isEmpty && Builtin.List.listTooLong (its.toArray.size + its2.toArray.size)) = true := by
    rw [notLongL hsz, Bool.and_false]
    exact Bool.false_ne_true
  refine call_meets F.slot_list_extend ⟨_, e, rfl⟩ F.entry_list_extend (F.args_list_extend_2 _ _)
    (AutoSeq1.list_extend_list_list_0 l its.toArray n b its2.toArray n2 hlong (by rw [List.size_toArray]; omega) (by omega)) ⟨e, e2, ?_⟩
  refine ⟨.non, _, I.lset (its' := its ++ its2) hH e (by simp) (r.append r2) ?_, rfl, q⟩
  rw [List.length_append]
  omega

def rPop : V → List V → Hp → VK → Prop := fun x vs H Q => ∃ l xs y, x = .ref l ∧ vs = [] ∧ H l = some (.lst xs) ∧ xs[xs.length - 1]? = some y ∧ Q y (upd H l (.lst xs.dropLast))
theorem mt_pop : MtM X "list.pop" rPop := by
  intro pins s σ H x vs v us Q I rx rv h
  obtain ⟨l, xs, y, rfl, rfl, hH, hy, q⟩ := h
  cases rx
  have hus := rv.zero
  subst hus
  obtain ⟨z, its, n, r, hl, e⟩ := I.lstM hH
  obtain ⟨u, hu, ru⟩ := r.get hy
  have hy' : its.toArray[its.toArray.size - 1]? = some u := by
    show its.toArray[its.length - 1]? = some u
    rw [← Array.getElem?_toList, ← hl]
    exact hu
  refine call_meets F.slot_list_pop ⟨_, e, rfl⟩ F.entry_list_pop (F.args_list_pop_1 _) (MeetsSeq.list_pop_last l its.toArray n u hy' (by rw [List.size_toArray]; omega)) ⟨e, ?_⟩
  refine ⟨y, _, I.lset (its' := its.dropLast) hH e ?_ r.dropLast ?_, ru, q⟩
  · show its.toArray.eraseIdxIfInBounds (its.toArray.size - 1) = its.dropLast.toArray
    rw [List.size_toArray, List.eraseIdxIfInBounds_toArray, erase_last]
  · rw [List.length_dropLast]
    omega

def rPopAt : V → List V → Hp → VK → Prop := fun x vs H Q => ∃ l xs i k y, x = .ref l ∧ vs = [.int i] ∧ H l = some (.lst xs) ∧ -(2 ^ 63) ≤ i ∧ i < 2 ^ 63 ∧ seqIndex? i xs.length = some k ∧ xs[k]? = some y ∧ Q y (upd H l (.lst (xs.eraseIdx k)))
theorem mt_popAt : MtM X "list.pop" rPopAt := by
  intro pins s σ H x vs v us Q I rx rv h
  obtain ⟨l, xs, i, k, y, rfl, rfl, hH, h1, h2, hk, hy, q⟩ := h
  cases rx
  obtain ⟨u, rfl, ru⟩ := rv.one
  obtain ⟨t, rfl⟩ := ru
  obtain ⟨z, its, n, r, hl, e⟩ := I.lstM hH
  obtain ⟨w, hw, rw'⟩ := r.get hy
  refine call_meets F.slot_list_pop ⟨_, e, rfl⟩ F.entry_list_pop (F.args_list_pop_2 _ _)
    (MeetsSeq.list_pop_at l its.toArray n i t k w (fitsIndex_both h1 h2) (by rw [List.size_toArray, ← hl]; exact hk) (by rw [← Array.getElem?_toList]; exact hw) (by rw [List.size_toArray]; omega)) ⟨e, ?_⟩
  refine ⟨y, _, I.lset (its' := its.eraseIdx k) hH e ?_ (r.eraseIdx k) ?_, rw', q⟩
  · show its.toArray.eraseIdxIfInBounds k = (its.eraseIdx k).toArray
    rw [List.eraseIdxIfInBounds_toArray]
  · have := len_erase xs k
    omega

def rReverse : V → List V → Hp → VK → Prop := fun x vs H Q => ∃ l xs, x = .ref l ∧ vs = [] ∧ H l = some (.lst xs) ∧ Q .non (upd H l (.lst xs.reverse))
theorem mt_reverse : MtM X "list.reverse" rReverse := by
  intro pins s σ H x vs v us Q I rx rv h
  obtain ⟨l, xs, rfl, rfl, hH, q⟩ := h
  cases rx
  have hus := rv.zero
  subst hus
  obtain ⟨z, its, n, r, hl, e⟩ := I.lstM hH
  refine call_meets F.slot_list_reverse ⟨_, e, rfl⟩ F.entry_list_reverse (F.args_list_reverse_1 _) (AutoSeq1.list_reverse_list_0 l its.toArray n (by rw [List.size_toArray]; omega)) ⟨e, ?_⟩
  refine ⟨.non, _, I.lset (its' := its.reverse) hH e (by simp) r.reverse ?_, rfl, q⟩
  rw [List.length_reverse]
  omega

def rClear : V → List V → Hp → VK → Prop := fun x vs H Q => ∃ l xs, x = .ref l ∧ vs = [] ∧ H l = some (.lst xs) ∧ Q .non (upd H l (.lst []))
theorem mt_clear : MtM X "list.clear" rClear := by
  intro pins s σ H x vs v us Q I rx rv h
  obtain ⟨l, xs, rfl, rfl, hH, q⟩ := h
  cases rx
  have hus := rv.zero
  subst hus
  obtain ⟨z, its, n, r, hl, e⟩ := I.lstM hH
  refine call_meets F.slot_list_clear ⟨_, e, rfl⟩ F.entry_list_clear (F.args_list_clear_1 _) (AutoSeq1.list_clear_list_0 l its.toArray n (by rw [List.size_toArray]; omega)) ⟨e, ?_⟩
  exact ⟨.non, _, I.lset (its' := []) (ys := []) hH e rfl .nil (Nat.zero_le _), rfl, q⟩

/-! ### list + list, list += list, list * int -/
def rCat : R2 := fun x y H Q => ∃ l b xs zs, x = .ref l ∧ y = .ref b ∧ H l = some (.lst xs) ∧ H b = some (.lst zs) ∧ xs.length + zs.length ≤ sizeLine ∧ ∀ p, H p = none → Q (.ref p) (upd H p (.lst (xs ++ zs)))
theorem op_cat : OpR X (binaryOp .Add) rCat := by
  intro pins s σ H x y v u Q I rx ry h
  obtain ⟨l, b, xs, zs, rfl, rfl, hH, hB, hz, q⟩ := h
  cases rx
  cases ry
  obtain ⟨z, its, n, r, hl, e⟩ := I.lstM hH
  obtain ⟨z2, its2, n2, r2, hl2, e2⟩ := I.lstM hB
  refine PySem.P.add_list e e2 ?_ (by rw [List.size_toArray, List.size_toArray]; omega)
  have ea : its.toArray ++ its2.toArray = (its ++ its2).toArray := by simp
  rw [ea]
  exact ⟨.ref _, _, I.lnew (t' := s.toks) (r.append r2) (by rw [List.length_append]; omega), rfl, q _ I.fresh⟩
/-- a list times an int (a negative one is nothing) -/
def rRep : R2 := fun x y H Q => ∃ l k xs, x = .ref l ∧ y = .int k ∧ H l = some (.lst xs) ∧ -(2 ^ 63) ≤ k ∧ k < 2 ^ 63 ∧ xs.length * k.toNat ≤ sizeLine ∧
  ∀ p, H p = none → Q (.ref p) (upd H p (.lst (List.replicate k.toNat xs).flatten))
theorem len_rep {α : Type} (xs : List α) (k : Nat) : (List.replicate k xs).flatten.length = k * xs.length := by
  induction k with
  | zero => simp
  | succ k ih => rw [List.replicate_succ, List.flatten_cons, List.length_append, ih, Nat.succ_mul, Nat.add_comm]
theorem op_rep : OpR X (binaryOp .Mult) rRep := by
  intro pins s σ H x y v u Q I rx ry h
  obtain ⟨l, k, xs, rfl, rfl, hH, h1, h2, hz, q⟩ := h
  cases rx
  obtain ⟨t, rfl⟩ := ry
  obtain ⟨z, its, n, r, hl, e⟩ := I.lstM hH
  have hlen : its.toArray.size * k.toNat ≤ sizeLine := by rw [List.size_toArray, ← hl]; exact hz
  have hcap : ¬ its.toArray.size * k.toNat > (2 ^ 63 - 1) / 8 := by
    have : (sizeLine : Nat) ≤ (2 ^ 63 - 1) / 8 := by decide
    omega
  have hfit : ¬ (!Builtin.List.listFitsIndex k) = true := by
    rw [fitsIndex_both h1 h2]
    exact Bool.false_ne_true
  have hlong : ¬ Builtin.List.listTooLong (its.toArray.size * k.toNat) = true := by
    rw [notLongL hlen]
    exact Bool.false_ne_true
  have hnew : List.foldl (fun x1 x2 => x1 ++ x2) #[] (List.replicate (if its.toArray.isEmpty = true then 0 else k.toNat) its.toArray) = (List.replicate k.toNat its).flatten.toArray := by
    have f0 : ∀ m : Nat, List.foldl (fun x1 x2 => x1 ++ x2) #[] (List.replicate m its.toArray) = (List.replicate m its).flatten.toArray := fun m => by
      have := foldl_rep its m []
      rw [List.nil_append] at this
      exact this
    rw [f0]
    cases its with
    | nil => simp
    | cons a r' => rw [if_neg (by simp)]
  refine wpAny_binaryOp_repeat_ref (T := "list") (U := "int") (by decide) ⟨_, e, rfl⟩ (fun s' => typeIs_int s' k t) noFill_list_mul F.fills_int_mul F.slot_int_rmul repeat_list F.slot_int_index.lookup
    (call_meets F.slot_int_rmul (typeIs_int s k t) F.entry_int_rmul (F.args_int_rmul_2 _ _) (int___rmul___int_list k t l its.toArray n)
      ⟨e, rfl, ⟨_, e, rfl⟩, call_meets F.slot_list_mul ⟨_, e, rfl⟩ F.entry_list_mul (F.args_list_mul_2 _ _) (AutoListH.list___mul___list_int_3 l its.toArray n k t hfit hcap hlong) ⟨e, ?_⟩⟩)
  rw [hnew]
  exact ⟨.ref _, _, I.lnew (t' := s.toks) (r.rep k.toNat) (by rw [len_rep, Nat.mul_comm]; exact hz), rfl, q _ I.fresh⟩

/-! ### del xs[i] -/
theorem del_list {pins : List (Addr × Obj)} {s : Shared} {σ : St} {H : Hp} {l : Addr} {xs : List V} {i : Int} {t : Tok} {k : Nat} {Q : Unit → Shared → Prop} (I : Inv X pins σ H s) (hH : H l = some (.lst xs))
    (h1 : -(2 ^ 63) ≤ i) (h2 : i < 2 ^ 63) (hk : seqIndex? i xs.length = some k) (h : ∀ s', Inv X pins σ (upd H l (.lst (xs.eraseIdx k))) s' → Q () s') :
    wpAny (model X.prog X.w) X.A (delItem (.ref l) (.int i t)) Q X.xe s := by
  obtain ⟨z, its, n, r, hl, e⟩ := I.lstM hH
  refine PySem.P.delItem_list (k := k) e (fitsIndex_both h1 h2) (by rw [List.size_toArray, ← hl]; exact hk) (h _ ?_) (by rw [List.size_toArray]; omega)
  refine I.lset (its' := its.eraseIdx k) (t' := s.toks) hH e ?_ (r.eraseIdx k) ?_
  · show its.toArray.eraseIdxIfInBounds k = (its.eraseIdx k).toArray
    rw [List.eraseIdxIfInBounds_toArray]
  · have := len_erase xs k
    omega
end

/-! ### xs[a:b] = ys -/
section
variable {prog : Program} {w : World} {A : Around} {E : Value → Shared → Prop} {s : Shared}
theorem splice_eq (its its2 : List Value) (a c : Nat) : its.toArray.extract 0 a ++ its2.toArray ++ its.toArray.extract c its.toArray.size = (its.take a ++ its2 ++ its.drop c).toArray := by
  apply Array.toList_inj.mp
  first
    | (simp
       exact List.take_of_length_le (by simp))
    | simp [List.take_of_length_le]
    | simp
theorem bounds_run {a c n : Nat} (hac : a ≤ c) (hc : c ≤ n) : sliceBounds (some (a : Int)) (some (c : Int)) none n = ((a : Int), (c : Int), 1) := by
  simp only [sliceBounds, Option.getD_none]
  have h1 : ¬ ((a : Int) < 0) := by omega
  have h2 : ¬ ((c : Int) < 0) := by omega
  simp only [h1, h2, if_false, show (1 : Int) > 0 by decide, if_true]
  congr 1
  · omega
  · congr 1; omega
set_option maxRecDepth 100000 in
/-- list.__setitem__ with a slice of step one and another list -/
theorem setItem_slice {l b sl : Addr} {items new : Array Value} {n n2 : Nat} {vl vu : Value} {a c : Nat} {Q : Unit → Shared → Prop}
    (e : s.heap.get? l = some { cls := .type "list", data := .seq items n }) (e2 : s.heap.get? b = some { cls := .type "list", data := .seq new n2 }) (hne : l ≠ b)
    (hs : s.heap.IsSliceOf sl vl vu .none) (pl : IsPart vl (some (a : Int))) (pu : IsPart vu (some (c : Int))) (hac : a ≤ c) (hc : c ≤ items.size)
    (hsz : items.size + new.size ≤ sizeLine) (h : Q () { s with heap := s.heap.update l (Obj.mapSeq fun xs => xs.extract 0 a ++ new ++ xs.extract c xs.size) }) :
    wpAny (model prog w) A (setItem (.ref l) (.ref sl) (.ref b)) Q E s := by
  have hl : s.heap.IsList l items := PySem.IsL.isList e
  have hb : s.heap.IsList b new := PySem.IsL.isList e2
  obtain ⟨os, hos, hcs, hds⟩ := id hs
  have hTs : s.TypeIs (.ref sl) "slice" := ⟨os, hos, hcs⟩
  have hstep : ¬ ((rawPart none == rawInt 0) = true) := Bool.false_ne_true
  have hsame : Builtin.List.listSameRef (.ref l) (.ref b) = false := by
    unfold Builtin.List.listSameRef
    exact beq_eq_false_iff_ne.mpr hne
  have hmax : (max (a : Int) (c : Int)).toNat = c := by omega
  have hz' : ((fun xs : Array Value => xs.extract 0 a ++ new ++ xs.extract c xs.size) items).size ≤ sizeLine + 1 := by
    simp only [Array.size_append, Array.size_extract]
    omega
  unfold setItem
  try with_reducible refine wpAny_holding ?_
  first | refine wpAny_bind (wpAny_pure ?_) | skip
  refine wpAny_bind (wpAny_sequenceKey hl.typeIs (by decide) ?_)
  refine wpAny_bind (wpAny_callSpecial?_slot (name := Str.ofString "__setitem__") hl.typeIs slot_list_setitem
    (wpAny_call_entry slot_list_setitem hl.typeIs entry_list_setitem ?_ (args_list_setitem _ _ _)))
  show wpAny _ _ (Builtin.List.listSubscript? (.ref sl) >>= _) _ _ s
  refine wpAny_bind ?_
  unfold Builtin.List.listSubscript?
  refine wpAny_bind (wpAny_specialOf hTs slice_no_index ?_)
  simp only [Option.isNone_none, if_true]
  refine wpAny_pure ?_
  show wpAny _ _ (typeOf (.ref sl) >>= _) _ _ s
  refine wpAny_bind (wpAny_typeOf hTs ?_)
  first
    | rw [if_neg (by decide)]
    | refine PySem.W.KFB.if_not (by decide) ?_
  rw [listSliceParts_eq]
  refine wpAny_bind (wpAny_bind (wpAny_field hos hds (x := .none) rfl (wpAny_bind (wpAny_listPart .none ?_))))
  rw [if_neg hstep]
  refine wpAny_bind (wpAny_field hos hds (x := vl) rfl (wpAny_bind (wpAny_listPart pl ?_)))
  refine wpAny_bind (wpAny_field hos hds (x := vu) rfl (wpAny_bind (wpAny_listPart pu (wpAny_pure ?_))))
  first
    | simp only [hsame, Bool.false_eq_true, if_false]
    | refine PySem.W.KFB.if_not hsame ?_
    | (dsimp only
       rw [if_neg (by rw [hsame]; exact Bool.false_ne_true)])
  refine wpAny_bind (m := Builtin.List.listAllItems (.ref b) "must assign iterable to extended slice") ?_
  unfold Builtin.List.listAllItems
  refine wpAny_bind (wpAny_typeOf hb.typeIs ?_)
  first
    | refine PySem.W.KFB.if_so (by decide) ?_
    | rw [if_pos (by decide)]
    | simp only [beq_self_eq_true, Bool.true_or, if_true]
  unfold Builtin.List.listItems
  refine wpAny_bind (wpAny_seqItems e2 rfl (wpAny_pure ?_))
  refine wpAny_bind (wpAny_bind (wpAny_seqItems e rfl (wpAny_pure ?_)))
  refine wpAny_bind (wpAny_of_eq ((sliceIndices_raw (some (a : Int)) (some (c : Int)) none items.size (by simp)).trans (congrArg (pure : Int × Int × Int → Sem (Int × Int × Int)) (bounds_run hac hc))) ?_)
  show wpAny _ _ (if ((1 : Int) == 1) = true then _ else _) _ _ s
  rw [if_pos (by decide)]
  refine wpAny_bind (wpAny_rule ?_)
  first
    | simp only [notLongL hsz, Bool.false_eq_true, if_false]
    | refine PySem.W.KFB.if_not (notLongL hsz) ?_
  first | refine wpAny_bind (wpAny_pure ?_) | skip
  show wpAny _ _ (updateSeq l (fun xs => xs.extract 0 ((a : Int)).toNat ++ new ++ xs.extract (max (a : Int) (c : Int)).toNat xs.size) >>= _) _ _ s
  rw [hmax, Int.toNat_natCast]
  refine wpAny_bind (wpAny_updateSeq (hz := Nat.le_trans (Nat.le_add_right _ _) hsz) (_hz' := hz') e rfl ?_)
  refine wpAny_bind (wpAny_letGo ?_)
  first
    | exact wpAny_bind (wpAny_pure (wpAny_pure ⟨.none, rfl, wpAny_pure h⟩))
    | exact wpAny_pure ⟨.none, rfl, wpAny_pure h⟩
end

section
variable {X : Cx}
/-- xs[a:c] = ys of another list, at the value level: sl is the slice object that was just made -/
theorem set_slice {pins : List (Addr × Obj)} {s : Shared} {σ : St} {H : Hp} {l b sl : Addr} {xs ys : List V} {a c : Int} {vl vu : Value} {Q : Unit → Shared → Prop} (I : Inv X pins σ H s)
    (hH : H l = some (.lst xs)) (hB : H b = some (.lst ys)) (hne : l ≠ b) (hs : s.heap.IsSliceOf sl vl vu .none) (ra : RelV (.int a) vl) (rc : RelV (.int c) vu) (h0 : 0 ≤ a) (hac : a ≤ c) (hc : c ≤ xs.length)
    (hz : xs.length + ys.length ≤ sizeLine) (h : ∀ s', Inv X pins σ (upd H l (.lst (xs.take a.toNat ++ ys ++ xs.drop c.toNat))) s' → Q () s') :
    wpAny (model X.prog X.w) X.A (setItem (.ref l) (.ref sl) (.ref b)) Q X.xe s := by
  obtain ⟨ta, rfl⟩ := ra
  obtain ⟨tc, rfl⟩ := rc
  obtain ⟨z, its, n, r, hl, e⟩ := I.lstM hH
  obtain ⟨z2, its2, n2, r2, hl2, e2⟩ := I.lstM hB
  obtain ⟨a', rfl⟩ := Int.eq_ofNat_of_zero_le h0
  obtain ⟨c', rfl⟩ := Int.eq_ofNat_of_zero_le (Int.le_trans h0 hac)
  simp only [Int.toNat_natCast] at h
  refine setItem_slice (a := a') (c := c') e e2 hne hs (.int _ _) (.int _ _) (by omega) (by rw [List.size_toArray]; omega) (by rw [List.size_toArray, List.size_toArray]; omega) (h _ ?_)
  refine I.lset (its' := its.take a' ++ its2 ++ its.drop c') (t' := s.toks) hH e ?_ (Vals.append (Vals.append (r.take _) r2) (r.drop _)) ?_
  · exact splice_eq its its2 a' c'
  · rw [List.length_append, List.length_append, List.length_take, List.length_drop]
    omega
end
end L2

namespace Att
open PySem PySem.W PySem.Calls PyProof.Rows

/-! ### the script -/
theorem ints_of_wellAll {P : Params} {h : Heap} : ∀ (ns : List Int) (vs : List Value), WellAll P h vs (ns.map WData.int) → IntsAre vs ns := by
  intro ns
  induction ns with
  | nil =>
    intro vs w
    rw [List.map_nil] at w
    cases w
    exact .nil
  | cons n ns ih =>
    intro vs w
    rw [List.map_cons] at w
    cases w with
    | cons a b =>
      cases a
      exact .cons _ _ (ih _ b)

theorem script_of {l : OpenLaw} {n : Nat} (hn : l.most = some n) {P : Params} {h : Heap} {args : List WData} {vals : List Value}
    (hpre : l.row.toRowW.claim.pre args = true) (hwl : WellAll P h vals args) :
    ∃ a vs ns, vals = [Value.ref a] ∧ args = [WData.list (ns.map WData.int)] ∧ h.get? a = some { cls := .type "list", data := .seq vs.toArray } ∧ IntsAre vs ns ∧ ns.length ≤ n := by
  have hsh : WShape.hasAll [] args [.list .int] = true := (pre_splitW hpre).1
  have hc : l.pre.holds [] { args := args } = true := (pre_splitW hpre).2
  obtain ⟨d, r, rfl, h1, h2⟩ := hasAllW_cons hsh
  obtain rfl := hasAllW_nil h2
  obtain ⟨xs, rfl, h3⟩ := hasW_list h1
  obtain ⟨ns, rfl⟩ := items_int h3
  have hlen : ns.length ≤ n := by
    unfold OpenLaw.pre at hc
    have h4 : (WTm.not (.lt (.lit (.int (n : Int))) (.len (.arg 0)))).holds [] { args := [.list (ns.map .int)] } = true := by
      have h4 := (holds_andW hc).1
      rw [hn] at h4
      exact h4
    have h5 := condW_of h4 (w_not (w_lt w_lit (w_len_list (w_arg rfl))))
    rw [List.length_map] at h5
    refine Nat.le_of_not_lt fun q => ?_
    have q' : (n : Int) < ((ns.length : Nat) : Int) := by omega
    first
      | (rw [decide_eq_true q'] at h5; exact absurd h5 (by decide))
      | (simp at h5; omega)
  cases hwl with
  | cons w1 w2 =>
    cases w2
    cases w1 with
    | list ho hall => exact ⟨_, _, ns, rfl, rfl, ho, ints_of_wellAll ns _ hall, hlen⟩

theorem post_true (l : OpenLaw) (args : List WData) : l.row.toRowW.claim.post args (.bool true) args = true :=
  postW_of (r := l.row.toRowW) (X := (true == true))
    (show WShape.has [] (.bool true) .bool = true by first | rfl | decide | simp [WShape.has, WShape.arms, WShape.armsAll])
    (show (WTm.eq .res (.lit (.bool true))).value [] { args := args, res := some (.bool true), after := args } = some (.bool (true == true)) from w_eq_bool (w_res rfl) w_lit) rfl

/-! ### the attachment: holds_open's last premise (the goal 'hc' behind k_head) from a wpAny of the law's body -/
theorem attach {l : OpenLaw} {n : Nat} {q : Program} {loose : List Str} {XP : (Str → Option Value) → Heap → Prop} {YP : World → Heap → Prop} {d : DefRec} {x : Str}
    (hn : l.most = some n) (hdf : d.params.defaults = [])
    (hbind : ∀ pm cd doc v : Value, bindArgs (docDef d.name d.params d.body d.scope pm cd doc) ⟨[v], []⟩ = pure [(x, v)])
    (hx : d.scope.names.lookup x = some .local ∨ d.scope.names.lookup x = some .cell)
    (hk : d.scope.kind = .function) (hco : d.scope.isCoroutine = false) (hgen : d.scope.isGenerator = false)
    (body : ∀ (w : World) (s₀ s₁ s : Shared) (mg mb : Str → Option Value) (fa : Addr) (o : Obj) (pm cd doc : Value) (a : Addr) (vs : List Value) (ns : List Int),
      Ground q loose [] XP w s₀ mg mb s₁.heap → YP w s₁.heap →
      s₁.heap.get? fa = some o → o.data = .func (docDef d.name d.params d.body d.scope pm cd doc) → s₁.heap.CodeRec cd d.name → mg d.name = some (.ref fa) →
      s₁.heap.get? a = some { cls := .type "list", data := .seq vs.toArray } → IntsAre vs ns → ns.length ≤ n →
      s.gens = #[] → s.os = s₁.os →
      Fr s₁.heap s₁.heap.objs.size s.heap (bindL (envOfC d.name d.scope s₁.heap.objs.size fa cd).kindOf [(x, .ref a)] fun _ => none) →
      Cl s₁.heap.objs.size (cellsFrom (s₁.heap.objs.size + 1) d.scope.names []) s.heap (bindC (envOfC d.name d.scope s₁.heap.objs.size fa cd).kindOf [(x, .ref a)] fun _ => none) →
      wpAny (model l.prog w) (callerA.deeper (envOfC d.name d.scope s₁.heap.objs.size fa cd)) (execs d.body (envOfC d.name d.scope s₁.heap.objs.size fa cd))
        (fun f s' => f = .ret (.bool true) ∧ OldK s₁.heap s'.heap ∧ s'.os = s₁.os ∧ AllBare s'.gens) (fun _ _ => False) s) :
    WalkO q loose XP YP l.row.toRowW d [] (fun f vs => PySem.call f vs) := by
  intro w s₀ s₁ mg mb G Y fa o pm cd doc dV kV ho hd hcd hD hmg hg args vals as hpre hlay hrd hwl hlo
  obtain rfl : dV = .none := Dflts.none hD hdf
  obtain rfl : kV = .none := Dflts.noKw hD
  obtain ⟨a, vs, ns, rfl, rfl, hobj, hints, hlen⟩ := script_of hn hpre hwl
  refine enter_call ?_
  refine call_cells_ret (o := o) (by rw [depth_caller]; decide) ho (fd_plain hd) G.T.nolimit hcd (hbind pm cd doc (.ref a)) (fun y hy => ?_) (fun h₁ tk F X => ?_) hco hgen hk
  · obtain rfl : y = (x, Value.ref a) := List.mem_singleton.mp hy
    rcases hx with e | e
    · exact .inl e
    · exact .inr ⟨e, cellsFrom_some _ _ _ (.inl e)⟩
  · refine wpAny_mono (body w s₀ s₁ { s₁ with heap := h₁, toks := tk } mg mb fa o pm cd doc a vs ns G Y ho (fd_plain hd) hcd hmg hobj hints hlen hg rfl F X) (fun f s' hq => ?_) (fun _ _ hq => hq)
    obtain ⟨rfl, h2, h3, h4⟩ := hq
    exact ⟨.inl ⟨.bool true, .bool true, [], rfl, fun _ => rfl, .bool true, post_true l _, fun _ => ⟨List.Pairwise.nil, fun _ hm => (nomatch hm)⟩⟩, h2, h3, h4⟩

/-- the same from a codeAny of the CALL (for a layer whose function contracts speak of calls) -/
theorem attach_call {l : OpenLaw} {n : Nat} {q : Program} {loose : List Str} {XP : (Str → Option Value) → Heap → Prop} {YP : World → Heap → Prop} {d : DefRec}
    (hn : l.most = some n) (hdf : d.params.defaults = [])
    (call : ∀ (w : World) (s₀ s₁ : Shared) (mg mb : Str → Option Value) (fa : Addr) (o : Obj) (pm cd doc : Value) (a : Addr) (vs : List Value) (ns : List Int),
      Ground q loose [] XP w s₀ mg mb s₁.heap → YP w s₁.heap →
      s₁.heap.get? fa = some o → o.data = .func (docDef d.name d.params d.body d.scope pm cd doc) → s₁.heap.CodeRec cd d.name → mg d.name = some (.ref fa) →
      s₁.heap.get? a = some { cls := .type "list", data := .seq vs.toArray } → IntsAre vs ns → ns.length ≤ n → s₁.gens = #[] →
      codeAny (model l.prog w) callerA (.call (.ref fa) ⟨[.ref a], []⟩) (fun r s' => r = .ok (.ret (.bool true)) ∧ OldK s₁.heap s'.heap ∧ s'.os = s₁.os ∧ AllBare s'.gens) s₁) :
    WalkO q loose XP YP l.row.toRowW d [] (fun f vs => PySem.call f vs) := by
  intro w s₀ s₁ mg mb G Y fa o pm cd doc dV kV ho hd hcd hD hmg hg args vals as hpre hlay hrd hwl hlo
  obtain rfl : dV = .none := Dflts.none hD hdf
  obtain rfl : kV = .none := Dflts.noKw hD
  obtain ⟨a, vs, ns, rfl, rfl, hobj, hints, hlen⟩ := script_of hn hpre hwl
  refine enter_call (codeAny_mono (call w s₀ s₁ mg mb fa o pm cd doc a vs ns G Y ho (fd_plain hd) hcd hmg hobj hints hlen hg) fun r s' hq => ?_)
  obtain ⟨rfl, h2, h3, h4⟩ := hq
  exact ⟨.inl ⟨.bool true, .bool true, [], rfl, fun _ => rfl, .bool true, post_true l _, fun _ => ⟨List.Pairwise.nil, fun _ hm => (nomatch hm)⟩⟩, h2, h3, h4⟩

/-- the same where the top left finished generators (o_head chose holds_openN): nothing may have changed at all and no generator may be left -/
theorem attachN {l : OpenLaw} {n : Nat} {q : Program} {loose : List Str} {XP : (Str → Option Value) → Heap → Prop} {YP : World → Heap → Prop} {d : DefRec} {x : Str}
    (hn : l.most = some n) (hdf : d.params.defaults = [])
    (hbind : ∀ pm cd doc v : Value, bindArgs (docDef d.name d.params d.body d.scope pm cd doc) ⟨[v], []⟩ = pure [(x, v)])
    (hx : d.scope.names.lookup x = some .local ∨ d.scope.names.lookup x = some .cell)
    (hk : d.scope.kind = .function) (hco : d.scope.isCoroutine = false) (hgen : d.scope.isGenerator = false)
    (body : ∀ (w : World) (s₀ s₁ s : Shared) (mg mb : Str → Option Value) (fa : Addr) (o : Obj) (pm cd doc : Value) (a : Addr) (vs : List Value) (ns : List Int),
      Ground q loose [] XP w s₀ mg mb s₁.heap → YP w s₁.heap →
      s₁.heap.get? fa = some o → o.data = .func (docDef d.name d.params d.body d.scope pm cd doc) → s₁.heap.CodeRec cd d.name → mg d.name = some (.ref fa) →
      s₁.heap.get? a = some { cls := .type "list", data := .seq vs.toArray } → IntsAre vs ns → ns.length ≤ n →
      s.gens = #[] → s.os = s₁.os →
      Fr s₁.heap s₁.heap.objs.size s.heap (bindL (envOfC d.name d.scope s₁.heap.objs.size fa cd).kindOf [(x, .ref a)] fun _ => none) →
      Cl s₁.heap.objs.size (cellsFrom (s₁.heap.objs.size + 1) d.scope.names []) s.heap (bindC (envOfC d.name d.scope s₁.heap.objs.size fa cd).kindOf [(x, .ref a)] fun _ => none) →
      wpAny (model l.prog w) (callerA.deeper (envOfC d.name d.scope s₁.heap.objs.size fa cd)) (execs d.body (envOfC d.name d.scope s₁.heap.objs.size fa cd))
        (fun f s' => f = .ret (.bool true) ∧ (∀ b o, s₁.heap.get? b = some o → s'.heap.get? b = some o) ∧ s'.os = s₁.os ∧ s'.gens = #[]) (fun _ _ => False) s) :
    WalkN q loose XP YP l.row.toRowW d [] (fun f vs => PySem.call f vs) := by
  intro w s₀ s₁ mg mb G Y fa o pm cd doc dV kV ho hd hcd hD hmg hg args vals as hpre hlay hrd hwl hlo
  obtain rfl : dV = .none := Dflts.none hD hdf
  obtain rfl : kV = .none := Dflts.noKw hD
  obtain ⟨a, vs, ns, rfl, rfl, hobj, hints, hlen⟩ := script_of hn hpre hwl
  refine enter_callW ?_
  refine call_cells_ret (o := o) (by rw [depth_caller]; decide) ho (fd_plain hd) G.T.nolimit hcd (hbind pm cd doc (.ref a)) (fun y hy => ?_) (fun h₁ tk F X => ?_) hco hgen hk
  · obtain rfl : y = (x, Value.ref a) := List.mem_singleton.mp hy
    rcases hx with e | e
    · exact .inl e
    · exact .inr ⟨e, cellsFrom_some _ _ _ (.inl e)⟩
  · refine wpAny_mono (body w s₀ s₁ { s₁ with heap := h₁, toks := tk } mg mb fa o pm cd doc a vs ns G Y ho (fd_plain hd) hcd hmg hobj hints hlen hg rfl F X) (fun f s' hq => ?_) (fun _ _ hq => hq)
    obtain ⟨rfl, h2, h3, h4⟩ := hq
    exact ⟨.inl ⟨.bool true, .bool true, [], rfl, fun _ => rfl, .bool true, post_true l _, fun _ => ⟨List.Pairwise.nil, fun _ hm => (nomatch hm)⟩⟩, h2, h3, h4⟩

/-! ### rules over ANY heap (no ledger) from facts about the written part K: the library's own take a ledger (News) for what they write -/
section
variable {prog : Program} {w : World} {A : Around} {E : Value → Shared → Prop} {s : Shared} {K : Frag}

/-- a def of the module, or a method (qual 'C.m'), entered: the frame is the next address; cells behind it -/
theorem call_fn {R : Result → Shared → Prop} {name qual : Str} {params : Arguments} {body : List Stmt} {scope : Scope} {dV kV doc pm cdv ct oc : Value} {an od : Option Addr} {osl : Array (Option Value)} {f : Addr} {args : Args} {binds : List (Str × Value)}
    (X : K.In s.heap) (hlim : s.heap.NoLimit) (ho : K.lookup f = some ⟨oc, od, .func (fnOf name qual params body scope dV kV doc pm an cdv ct), osl⟩) (hcd : codeIn K cdv qual = true) (hroom : A.depth < recursionLimit)
    (hbind : BindsTo s (fnOf name qual params body scope dV kV doc pm an cdv ct) args binds)
    (hkind : (binds.all fun y => scope.names.lookup y.1 == some .local || scope.names.lookup y.1 == some .cell) = true)
    (h : ∀ s₁, InCallC s s.heap.objs.size (bindL (envOfC qual scope s.heap.objs.size f cdv).kindOf binds fun _ => none) (cellsFrom (s.heap.objs.size + 1) scope.names [])
        (bindC (envOfC qual scope s.heap.objs.size f cdv).kindOf binds fun _ => none) s₁ →
      wpAny (model prog w) (A.deeper (envOfC qual scope s.heap.objs.size f cdv)) (execs body (envOfC qual scope s.heap.objs.size f cdv))
        (fun fl s' => R (.ok (.ret (match fl with | .ret v => v | _ => .none))) s')
        (fun e s' => wpAny (model prog w) (A.deeper (envOfC qual scope s.heap.objs.size f cdv)) (leaving (envOfC qual scope s.heap.objs.size f cdv) e) (fun _ s'' => R (.error e) s'') (fun e' s'' => R (.error e') s'') s') s₁)
    (hco : scope.isCoroutine = false) (hgen : scope.isGenerator = false) (hk : scope.kind = .function) : codeAny (model prog w) A (.call (.ref f) args) R s := by
  refine codeAny_call_function hroom (X _ _ ho) rfl hco hgen rfl (codeRec_of X hcd) (hbind _ _ _ _ ?_)
  refine wpAny_newFunctionEnv_cells hk (kindsX hkind _) fun env he s₁ x => ?_
  subst he
  exact ⟨hlim.keeps x.toInCall.keep, codeAny_func (h s₁ x)⟩

/-- C(..): dict at size, instance at size + 1, then __init__ -/
theorem make_obj {R : Result → Shared → Prop} {C fI : Addr} {rest : List Value} {kw : List (Str × Value)}
    (X : K.In s.heap) (hm : makesIn K C = true) (hi : findIn K (.ref C) "__init__" = some (some (.ref fI))) (hf : isFn K (.ref fI) = true)
    (h : codeAny (model prog w) (A.under (.builtin "type.__call__" ⟨.ref C :: rest, kw⟩)) (.call (.ref fI) ⟨.ref (s.heap.objs.size + 1) :: rest, kw⟩) (InitBack (s.heap.objs.size + 1) R)
      { s with heap := (s.heap.push emptyDict).push (instObj C s.heap.objs.size) }) : codeAny (model prog w) A (.call (.ref C) ⟨rest, kw⟩) R s := by
  obtain ⟨hh, g, d, t, os⟩ := s
  exact make_core (makes_of X hm) (looks_findIn X hi) (fun self => bind_fn X self (beq_iff_eq.mp hf)) (.inl rfl) h

/-- x.name where the instance's dict holds the name and the class does not -/
theorem get_field {x C : Addr} {ox : Obj} {es : List DictEntry} {n : Nat} {name : Str} {expr : Bool} {v : Value} {Q : Value → Shared → Prop}
    (X : K.In s.heap) (I : PySem.W.InstAt s.heap x ox C (some (dictOf es n))) (hg : plainGet K C name = true) (hh : hasDictIn K C = true) (ha : findIn K (.ref C) name = some none)
    (hl : getL name es = some (some v)) (hv : handedIn v = true) (h : Q v { s with toks := s.toks + 1 }) : wpAny (model prog w) A (getAttr (.ref x) name expr) Q E s :=
  get_value X I (plainGet_of hg).1 (findObj_own hh ha rfl hl) hv h

/-- x.m(..): the method found in the class -/
theorem get_method {x C f : Addr} {ox : Obj} {es : List DictEntry} {n : Nat} {name : Str} {pl : Sem Bool} {Q : Value × List Value → Shared → Prop}
    (X : K.In s.heap) (I : PySem.W.InstAt s.heap x ox C (some (dictOf es n))) (hg : plainGet K C name = true) (hf : findIn K (.ref C) name = some (some (.ref f))) (ht : isFn K (.ref f) = true)
    (hl : getL name es = some none) (h : Q (.ref f, [.ref x]) s) : wpAny (model prog w) A (getMethod (.ref x) name pl) Q E s :=
  method_fn X I (plainGet_of hg).1 (plainGet_of hg).2 hf (beq_iff_eq.mp ht) (by show (lookIn name (dictOf es n)).map _ = _; rw [lookIn_dict, hl]; rfl) h

/-! the whole heap as the ledger: makes every rule that writes through a ledger a rule over any heap -/
def noObjs (h : Heap) : Heap := { h with objs := #[] }
theorem noObjs_get (h : Heap) (b : Addr) : (noObjs h).get? b = none := by
  cases e : (noObjs h).get? b with
  | none => rfl
  | some o => exact absurd (Heap.lt_size e) (Nat.not_lt_zero _)
def ledger (h : Heap) (L d : Addr) : List (Addr × Obj) := (List.range h.objs.size).filterMap fun a => if a = L ∨ a = d then none else (h.get? a).map fun o => (a, o)
theorem mem_ledger {h : Heap} {L d a : Addr} {o : Obj} : (a, o) ∈ ledger h L d ↔ a ≠ L ∧ a ≠ d ∧ h.get? a = some o := by
  unfold ledger
  rw [List.mem_filterMap]
  constructor
  · rintro ⟨b, _, e⟩
    split at e
    · cases e
    · rename_i hb
      obtain ⟨o', ho, e'⟩ := Option.map_eq_some_iff.mp e
      cases e'
      exact ⟨fun q => hb (.inl q), fun q => hb (.inr q), ho⟩
  · rintro ⟨n1, n2, ho⟩
    refine ⟨a, List.mem_range.mpr (Heap.lt_size ho), ?_⟩
    rw [if_neg (show ¬ (a = L ∨ a = d) from fun q => q.elim n1 n2), ho] <;> rfl
theorem news_ledger {h : Heap} {L d : Addr} {od : Obj} (hne : d ≠ L) (ho : h.get? d = some od) : News (noObjs h) L h ([] ++ (d, od) :: ledger h L d) := by
  rintro ⟨a, o⟩ hp
  rcases List.mem_cons.mp hp with e | hp
  · cases e
    exact ⟨ho, hne, noObjs_get _ _⟩
  · obtain ⟨n1, n2, e⟩ := mem_ledger.mp hp
    exact ⟨e, n1, noObjs_get _ _⟩
theorem fr_all {h : Heap} {L : Addr} {m : Str → Option Value} (n : h.Ns L m) : Fr (noObjs h) L h m :=
  ⟨n, fun b o e => (by rw [noObjs_get] at e; cases e), Nat.zero_le _⟩
/-- Upd of the head entry (for append_K, setItem_K ..) -/
theorem upd_ledger {h : Heap} {L d : Addr} {o o' : Obj} : Upd d o o' ((d, o) :: ledger h L d) ((d, o') :: ledger h L d) :=
  .head fun ⟨_, _⟩ hp => (mem_ledger.mp hp).2.1

/-- x.name = v over any heap: L is any namespace of the heap (the frame's, say): its map stays, its object is not told; all else but the dict stays -/
theorem set_field {x C dx L : Addr} {ox : Obj} {m : Str → Option Value} {es es' : List DictEntry} {n n' : Nat} {name : Str} {v : Value} {Q : Unit → Shared → Prop}
    (X : K.In s.heap) (I : PySem.W.InstAt s.heap x ox C (some (dictOf es n))) (hd : ox.dict = some dx) (hL : s.heap.Ns L m) (hne : dx ≠ L)
    (hs : findIn K (.ref C) "__setattr__" = some (some (.builtin "object.__setattr__"))) (hp : plainOver K C = true) (ht : takerIn K C name = some none) (hh : hasDictIn K C = true) (hl : (getL name es).isSome = true)
    (e : (putL name (PyData.keyHash w.params name) (.str name (s.toks + 1)) v es, putN name es n) = (es', n')) (hz : es'.length ≤ 1000)
    (h : ∀ h' : Heap, h'.Ns L m → h'.get? dx = some (dictOf es' n') → (∀ b o, b ≠ dx → b ≠ L → s.heap.get? b = some o → h'.get? b = some o) → Q () { s with heap := h', toks := s.toks + 2 }) :
    wpAny (model prog w) A (setAttr (.ref x) name v) Q E s := by
  obtain ⟨e1, e2⟩ := Prod.mk.inj e
  have hdx : s.heap.get? dx = some (dictOf es n) := by
    have := I.dict
    rw [hd] at this
    exact this
  refine set_plain X I hs (osa_dict (s := { s with toks := s.toks + 1 }) (h₀ := noObjs s.heap) (L := L) (m := m) (od := dictOf es n) (od' := dictOf es' n') (es := es') (n := n') (pre := []) (post := ledger s.heap L dx)
    (fr_all hL) (news_ledger hne hdx) X I hd hp ht hh hl (fun _ q => nomatch q) (fun ⟨_, _⟩ q => (mem_ledger.mp q).2.1) (by rw [putName_dict, e1, e2]) rfl hz fun h' F' N' => ?_)
  exact h h' F'.ns (N'.get (List.Mem.head _)) fun b o n1 n2 ho => N'.get (List.Mem.tail _ (mem_ledger.mpr ⟨n2, n1, ho⟩))
end
end Att

namespace L2
open PySem PySem.Spec PyProof.Rows

theorem vals_ints : ∀ {vs : List Value} {ns : List Int}, IntsAre vs ns → Vals (ns.map V.int) vs
  | _, _, .nil => .nil
  | _, _, .cons n t h => .cons ⟨t, rfl⟩ (vals_ints h)

/-- nothing is tracked but the script, known to the object (or it is an object of the module) -/
def Only (H : Hp) : Prop := ∀ b, H b = none ∨ ∃ o xs, H b = some (.frz o (.lst xs))

/-- THE HEAD: the law's promise, at the heap behind the top. F, the promise of the law's def, may use that base is part of the heap (so K.In base, base.Ns mainGlobals mg stand in Mod) -/
theorem law_call {P : Program} {w : World} {K : PySem.W.Frag} {mg mb : Str → Option Value} {CX : CXT} {k : Nat} {fa a : Addr} {fd : FuncData} {x : Str} {sp : Sp} {s₁ : Shared} {vs : List Value} {ns : List Int}
    (KX : K.In s₁.heap) (hns : s₁.heap.Ns mainGlobals mg) (hb : s₁.heap.Ns builtinsNs mb) (hbb : ∀ x : Str, x ≠ "__name__" → mb x = bootBuiltins x) (hlim : s₁.heap.NoLimit) (hg : s₁.gens = #[])
    (ha : s₁.heap.get? a = some { cls := .type "list", data := .seq vs.toArray }) (hi : IntsAre vs ns) (hl : ns.length ≤ sizeLine) (hr : Room k callerA)
    (F : ∀ base : Heap, K.In base → base.Ns mainGlobals mg → FnOk P w K mg base CX k fa fd [x] sp) (hbind : ∀ (s : Shared) (u : Value), BindsTo s fd ⟨[u], []⟩ [(x, u)])
    (hsp : ∀ H : Hp, Only H → SqL K H a (ns.map V.int) → sp [.ref a] H (fun v _ => v = .bl true) fun _ _ _ => False)
    (hCX : ∀ H e s', CX [] H s₁ (fun _ _ _ => False) e s' → False) :
    codeAny (model P w) callerA (.call (.ref fa) ⟨[.ref a], []⟩) (fun r s' => r = .ok (.ret (.bool true)) ∧ OldK s₁.heap s'.heap ∧ s'.os = s₁.os ∧ AllBare s'.gens) s₁ := by
  have rv := vals_ints hi
  have lenV := hi.length
  -- from an abstract heap in which nothing but the script may be tracked
  have core : ∀ H : Hp, Only H → SqL K H a (ns.map V.int) → HOk P w H s₁.heap → (∀ b, H b ≠ none → b = a) → (H a ≠ none → K.lookup a = none) →
      codeAny (model P w) callerA (.call (.ref fa) ⟨[.ref a], []⟩) (fun r s' => r = .ok (.ret (.bool true)) ∧ OldK s₁.heap s'.heap ∧ s'.os = s₁.os ∧ AllBare s'.gens) s₁ := by
    intro H hO hS hok hA hK
    have base_of : ∀ {b : Addr} {o : Obj}, s₁.heap.get? b = some o → H b = none → (hidT s₁.heap H).get? b = some o := fun e n => hidT_get e n
    have noA : ∀ {b : Addr} {o : Obj} {es : Array DictEntry} {ep : Nat}, s₁.heap.get? b = some o → o.data = .dict es ep → H b = none := fun {b o es ep} e d => by
      cases q : H b with
      | none => rfl
      | some u =>
        have e' : b = a := hA b (by rw [q]; simp)
        subst e'
        rw [ha] at e; cases e
        have d' : Data.seq vs.toArray _ = Data.dict es ep := d
        cases d'
    have nsK : ∀ {b : Addr} {m : Str → Option Value}, s₁.heap.Ns b m → (hidT s₁.heap H).Ns b m := fun {b m} ⟨o, es, ep, e, d, r⟩ => ⟨o, es, ep, base_of e (noA e d), d, r⟩
    have hKb : K.In (hidT s₁.heap H) := fun b o e => base_of (KX b o e) (by
      cases q : H b with
      | none => rfl
      | some u =>
        have e' : b = a := hA b (by rw [q]; simp)
        subst e'
        rw [hK (by rw [q]; simp)] at e; cases e)
    have hM : Mod K mg (hidT s₁.heap H) := ⟨hKb, nsK hns, ⟨mb, nsK hb, hbb⟩, let ⟨mc, h1, h2⟩ := hlim; ⟨mc, nsK h1, h2⟩⟩
    have e0 : Env0 P w K mg (hidT s₁.heap H) callerA [] s₁ H := ⟨rfl, hM, fun b o e => of_hidT e, Nat.le_of_eq (hidT_size _ _), trivial, fun b hb => absurd (show b ∈ ([] : List Addr) from hb) (by simp), hok, .of_eq hg⟩
    refine codeAny_mono ((F _ hKb (nsK hns)).run callerA [] s₁ H ⟨[.ref a], []⟩ [.ref a] [.ref a] _ _ hr e0 (hbind s₁ (.ref a)) (.cons rfl .nil) (hsp H hO hS)) fun r s' h => ?_
    cases r with
    | error e => exact (hCX H e s' h).elim
    | ok fl =>
      cases fl with
      | next => exact False.elim h
      | brk => exact False.elim h
      | cont => exact False.elim h
      | ret u =>
        obtain ⟨v, H', os, bare, un, hok', r', q⟩ := h
        have q' : v = .bl true := q
        subst q'
        obtain rfl : u = Value.bool true := r'
        refine ⟨rfl, OldK.of_keep fun b o e => ?_, os, bare⟩
        cases q : H b with
        | none => exact un.keep b o e q (by intro z; exact absurd (show b ∈ ([] : List Addr) from z) (by simp)) (by simp)
        | some u =>
          rcases hO b with z | ⟨ob, xs, z⟩
          · rw [q] at z; cases z
          · have z2 := un.frzs b ob _ z
            obtain ⟨e1, _⟩ := hok b _ z
            obtain ⟨e2, _⟩ := hok' b _ z2
            rw [e] at e1; cases e1
            exact e2
  cases hk : K.lookup a with
  | some o =>
    -- the script is one of the module's own objects
    have e := KX a o hk
    rw [ha] at e
    cases e
    refine core (fun _ => none) (fun _ => .inl rfl) (.inr ⟨_, vs.toArray, _, hk, rfl, rfl, rfl, by rw [List.size_toArray, lenV]; exact hl, by simpa using rv⟩) (fun b u z => by have z' : (none : Option HO) = some u := z; cases z') (fun b z => absurd rfl z) fun z => absurd rfl z
  | none =>
    refine core (fun b => if b = a then some (.frz { cls := .type "list", data := .seq vs.toArray } (.lst (ns.map V.int))) else none) (fun b => ?_) (.inl (.inr ⟨{ cls := .type "list", data := .seq vs.toArray }, if_pos rfl⟩)) (fun b u z => ?_) (fun b z => ?_) fun _ => hk
    · by_cases hb : b = a
      · exact .inr ⟨_, _, if_pos hb⟩
      · exact .inl (if_neg hb)
    · by_cases hb : b = a
      · have z' := (if_pos hb).symm.trans z
        cases z'
        subst hb
        exact ⟨ha, by rw [List.length_map]; exact hl, vs, _, rv, ha⟩
      · have z' := (if_neg hb).symm.trans z
        cases z'
    · by_cases hb : b = a
      · exact hb
      · exact absurd (if_neg hb) z
end L2

namespace L2
open PySem PySem.Spec PyProof.Rows

abbrev KOf {K : PySem.W.Frag} {h : Heap} (_ : K.In h) : PySem.W.Frag := K

/-- the goal that k_head leaves (case hc), from the law's promise. F gives the function object fd (K's own) once, then the promise over every base -/
theorem walk_of {l : PySem.W.OpenLaw} {n k : Nat} {q : Program} {loose : List Str} {XP : (Str → Option Value) → Heap → Prop} {YP : World → Heap → Prop} {d : DefRec} {K : Params → PySem.W.Frag} {CX : World → CXT} {sp : World → Sp} {x : Str}
    (hn : l.most = some n) (hn2 : n ≤ sizeLine) (hdf : d.params.defaults = []) (hr : Room k callerA)
    (hY : ∀ (w : World) (h : Heap), YP w h → (K w.params).In h)
    (F : ∀ (w : World) (mg : Str → Option Value) (fa : Addr) (h : Heap), (K w.params).In h → h.Ns mainGlobals mg → mg d.name = some (.ref fa) →
      ∃ fd : FuncData, (∀ (s : Shared) (u : Value), BindsTo s fd ⟨[u], []⟩ [(x, u)]) ∧
        ∀ base : Heap, (K w.params).In base → base.Ns mainGlobals mg → FnOk l.prog w (K w.params) mg base (CX w) k fa fd [x] (sp w))
    (hsp : ∀ (w : World) (H : Hp) (a : Addr) (ns : List Int), ns.length ≤ n → Only H → SqL (K w.params) H a (ns.map V.int) → sp w [.ref a] H (fun v _ => v = .bl true) fun _ _ _ => False)
    (hCX : ∀ (w : World) (H : Hp) (s : Shared) (e : Value) (s' : Shared), CX w [] H s (fun _ _ _ => False) e s' → False) :
    PySem.W.WalkO q loose XP YP l.row.toRowW d [] (fun f vs => PySem.call f vs) := by
  refine Att.attach_call hn hdf fun w s₀ s₁ mg mb fa o pm cd doc a vs ns G Y ho hd hcd hmg hobj hints hlen hg => ?_
  have KX := hY w _ Y
  obtain ⟨fd, hb, hF⟩ := F w mg fa _ KX G.T.g hmg
  exact law_call KX G.T.g G.T.b G.T.builtins G.T.nolimit hg hobj hints (Nat.le_trans hlen hn2) hr hF hb (fun H hO hS => hsp w H a ns hlen hO hS) fun H e s' => hCX w H s₁ e s'
/-- the same where the promise hangs on the written part alone: (sp := My.sp_law), no hole under a binder -/
theorem walk_ofK {l : PySem.W.OpenLaw} {n k : Nat} {q : Program} {loose : List Str} {XP : (Str → Option Value) → Heap → Prop} {YP : World → Heap → Prop} {d : DefRec} {K : Params → PySem.W.Frag} {CX : CXT} {sp : PySem.W.Frag → Sp} {x : Str}
    (hn : l.most = some n) (hn2 : n ≤ sizeLine) (hdf : d.params.defaults = []) (hr : Room k callerA)
    (hY : ∀ (w : World) (h : Heap), YP w h → (K w.params).In h)
    (F : ∀ (w : World) (mg : Str → Option Value) (fa : Addr) (h : Heap), (K w.params).In h → h.Ns mainGlobals mg → mg d.name = some (.ref fa) →
      ∃ fd : FuncData, (∀ (s : Shared) (u : Value), BindsTo s fd ⟨[u], []⟩ [(x, u)]) ∧
        ∀ base : Heap, (K w.params).In base → base.Ns mainGlobals mg → FnOk l.prog w (K w.params) mg base CX k fa fd [x] (sp (K w.params)))
    (hsp : ∀ (K : PySem.W.Frag) (H : Hp) (a : Addr) (ns : List Int), ns.length ≤ n → Only H → SqL K H a (ns.map V.int) → sp K [.ref a] H (fun v _ => v = .bl true) fun _ _ _ => False)
    (hCX : ∀ (H : Hp) (s : Shared) (e : Value) (s' : Shared), CX [] H s (fun _ _ _ => False) e s' → False) :
    PySem.W.WalkO q loose XP YP l.row.toRowW d [] (fun f vs => PySem.call f vs) :=
  walk_of (K := K) (CX := fun _ => CX) (sp := fun w => sp (K w.params)) hn hn2 hdf hr hY F (fun w H a ns h1 h2 h3 => hsp (K w.params) H a ns h1 h2 h3) fun _ H s e s' => hCX H s e s'
end L2

/- THE LAST THEOREM (shape; LID, My.* are yours):
   My.Adr: a structure of the addresses that your layer names (classes, functions); My.Txt K t: a structure (Prop) of the equations over K;
   My.txt_mk : {K} {implicit addresses ..} (e1 : nsIn K mainGlobals "law" = some (some (.ref f))) (e2 : K.lookup f = some ⟨oc, od, .func (fnOf "law" "law" params body scope dV kV doc pm an cdv ct), sl⟩) (e3 : codeIn K cdv "law" = true) .. : ∃ t, My.Txt K t

set_option maxRecDepth 100000 in
set_option maxHeartbeats 0 in
theorem PySem.Challenge.cw_LID_holds : PySem.Challenge.rw_LID.Holds := by
  w_on; o_law; k_head; (case hw => w_witness2)
  k_fill
  refine L2.walk_of (l := PySem.Challenge.rw_LID) (n := 63) (k := 40) (x := "script") (CX := fun w => ..) (sp := fun _ => My.sp_law) rfl (by decide) rfl ⟨rfl, by decide, by decide⟩ (fun w h Y => PySem.W.kIn_of Y) ?F ?S ?C
  case F =>
    intro w mg fa h KX G hmg
    have T : ∃ t, My.Txt (L2.KOf KX) t := by
      dsimp only [L2.KOf]                          -- K must stand as «<heap const> w.params» for k_is
      refine' My.txt_mk ?e1 ?e2 ?e3 ..
      (case e1 => PySem.W.k_is)                    -- in the order: a name -> its address -> its object -> its parts
      (case e2 => PySem.W.k_is)
      ..
    obtain ⟨t, T⟩ := T
    have e0 := hmg.symm.trans (PySem.W.mg_of KX G T.law)
    cases e0                                       -- fa is the law's own address
    exact ⟨_, fun s u => .of_eq rfl, fun base kb nb => My.law_fn T kb nb⟩     -- if «.of_eq rfl» comes too early: refine' ⟨_, ?b, fun base kb nb => My.law_fn T kb nb⟩; exact fun s u => .of_eq rfl
  case S => exact fun w H a ns hl hO hS => ..
  case C => exact ..
(the tactic k_is has no namespace: write k_is) -/

/-! SHORT WORDS over the layer: a def of the text, its body, what a loop and a test want. -/
namespace L2
open PySem PySem.Spec PyProof.Rows

/-! ### the text by places -/
/-- the j-th statement of a class's body -/
def inClass (s : Stmt) (j : Nat) : Stmt := match s with
  | .ClassDef _ _ _ body _ _ _ _ _ _ _ => body.getD j (.Pass ⟨0, 0, 0, 0⟩)
  | _ => .Pass ⟨0, 0, 0, 0⟩
def defArgs (s : Stmt) : Arguments := match s with
  | .FunctionDef _ a _ _ _ _ _ _ _ _ => a
  | _ => { posonlyargs := [], args := [], vararg := none, kwonlyargs := [], kw_defaults := [], kwarg := none, defaults := [] }
def defBody (s : Stmt) : List Stmt := match s with
  | .FunctionDef _ _ b _ _ _ _ _ _ _ => b
  | _ => []
def defScope (s : Stmt) : Scope := match s with
  | .FunctionDef _ _ _ _ _ _ sc _ _ _ => sc
  | _ => { kind := .function, names := [], isGenerator := false, isCoroutine := false }

/-! ### no exception leaves a def -/
abbrev CX0 : CXT := fun _ _ _ _ _ _ => False
abbrev E0 : XK := fun _ _ _ => False
theorem pass0 {X : Cx} : Passes CX0 X E0 := fun _ _ _ _ _ _ _ h => h.elim

/-! ### a def (or method) of the text as it stands behind the top -/
structure Fun (K : PySem.W.Frag) (x qual : Str) (st : Stmt) (f : Addr) (fd : FuncData) : Prop where
  ex : ∃ (oc : Value) (od : Option Addr) (kV doc pm : Value) (an : Option Addr) (cdv ct : Value) (osl : Array (Option Value)),
    fd = PySem.W.fnOf x qual (defArgs st) (defBody st) (defScope st) .none kV doc pm an cdv ct ∧ K.lookup f = some ⟨oc, od, .func fd, osl⟩ ∧ PySem.W.codeIn K cdv qual = true
  kp : PySem.W.keepIn K (.ref f) = true
section
variable {P : Program} {w : World} {K : PySem.W.Frag} {mg : Str → Option Value} {base : Heap}
/-- THE RULE for a def: its body as a term of rules, and the reading of that term -/
theorem Fun.ok {x qual : Str} {st : Stmt} {f : Addr} {fd : FuncData} {N ps : List Str} {k : Nat} {sp : Sp} (F : Fun K x qual st f fd) (S : FnScope N ps (defScope st)) (len : ∀ vs H Q E, sp vs H Q E → vs.length = ps.length)
    (hbody : ∀ (cdv : Value) (A : Around) (outer : List Env) (s : Shared) (H : Hp) (vs : List V) (Q : VK) (E : XK), Room k (A.deeper (envOfC qual (defScope st) s.heap.objs.size f cdv)) → sp vs H Q E →
      ∃ t, PSs (cxOf CX0 P w K mg base N qual (defScope st) f cdv A outer s H E).nox (defBody st) t ∧ t { nx := fun _ H' => Q .non H', rt := Q } (start N vs) H) : FnOk P w K mg base CX0 (k + 1) f fd ps sp := by
  obtain ⟨oc, od, kV, doc, pm, an, cdv, ct, osl, rfl, lk, hcd⟩ := F.ex
  refine fn_of lk hcd S len fun A outer s H vs Q E hr hsp => ?_
  obtain ⟨t, h, q⟩ := hbody cdv A outer s H vs Q E hr hsp
  exact ⟨t, h.nox, q⟩
/-- how its arguments bind (no defaults): h is «fun _ _ _ _ _ _ us hl => match us, hl with | [_, _], _ => rfl», one _ a parameter -/
theorem Fun.binds {x qual : Str} {st : Stmt} {f : Addr} {fd : FuncData} {ps : List Str} (F : Fun K x qual st f fd)
    (h : ∀ (kV doc pm : Value) (an : Option Addr) (cdv ct : Value) (us : List Value), us.length = ps.length → bindArgs (PySem.W.fnOf x qual (defArgs st) (defBody st) (defScope st) .none kV doc pm an cdv ct) ⟨us, []⟩ = pure (ps.zip us)) : Binds K fd ps [] := by
  obtain ⟨oc, od, kV, doc, pm, an, cdv, ct, osl, rfl, lk, hcd⟩ := F.ex
  exact .all (h kV doc pm an cdv ct)
theorem fun_mk {x qual : Str} {st : Stmt} {f : Addr} {oc : Value} {od an : Option Addr} {osl : Array (Option Value)} {kV doc pm cdv ct : Value} (l : K.lookup f = some ⟨oc, od, .func (PySem.W.fnOf x qual (defArgs st) (defBody st) (defScope st) .none kV doc pm an cdv ct), osl⟩)
    (c : PySem.W.codeIn K cdv qual = true) (k : PySem.W.keepIn K (.ref f) = true) : Fun K x qual st f (PySem.W.fnOf x qual (defArgs st) (defBody st) (defScope st) .none kV doc pm an cdv ct) := ⟨⟨oc, od, kV, doc, pm, an, cdv, ct, osl, rfl, l, c⟩, k⟩
end
theorem hu_of {A : Around} {k : Nat} (hr : Room k A) : A.units + 1 < cLine := Nat.lt_of_le_of_lt (Nat.add_le_add_left (by decide : 1 ≤ 64) _) hr.units
theorem small1000 {n : Nat} (h : n ≤ 1000) : n < sizeLine := Nat.lt_of_le_of_lt h (by decide)

/-! ### expressions in short: the name that stands in the i-th slot -/
section
variable {X : Cx}
theorem pv (i : Nat) {x : Str} {pos : Pos} (hN : X.N[i]? = some x := by rfl) (hv : Vis X.env.scope x := by first | exact Or.inl rfl | exact Or.inr (Or.inl rfl) | exact Or.inr (Or.inr rfl)) (hd : (x == ("__debug__" : Str)) = false := by decide)
    (hcd : (x == ("__classdict__" : Str)) = false := by decide) : PE X (.Name x pos) (tVar i) := pe_var hN hv hd hcd
end

/-! ### tests -/
theorem iteF {A B : Prop} (h : B) : if false = true then A else B := by
  rw [if_neg Bool.false_ne_true]
  exact h
theorem iteT {A B : Prop} (h : A) : if true = true then A else B := by
  rw [if_pos rfl]
  exact h
theorem ite2 {c A B : Prop} [Decidable c] (h1 : c → A) (h2 : ¬ c → B) : if c then A else B := by
  by_cases h : c
  · rw [if_pos h]
    exact h1 h
  · rw [if_neg h]
    exact h2 h
theorem iteNS {c A B : Prop} [Decidable c] (hc : c) (h : B) : if (!decide c) = true then A else B := by
  rw [decide_eq_true hc]
  exact iteF h

/-! ### heaps -/
/-- all that was tracked is as it was -/
def Same (H H' : Hp) : Prop := ∀ b o, H b = some o → H' b = some o
theorem Same.refl (H : Hp) : Same H H := fun _ _ h => h
theorem Same.trans {H H1 H2 : Hp} (a : Same H H1) (b : Same H1 H2) : Same H H2 := fun c o h => b c o (a c o h)
theorem Same.free {H H' : Hp} (e : Same H H') {l : Addr} (h : H' l = Option.none) : H l = Option.none := by
  cases q : H l with
  | none => rfl
  | some o =>
    rw [e l o q] at h
    cases h
theorem Same.seq {K : PySem.W.Frag} {H H' : Hp} {a : Addr} {xs : List V} (e : Same H H') (h : SqL K H a xs) : SqL K H' a xs := by
  rcases h with (h | ⟨o, h⟩) | h
  · exact .inl (.inl (e _ _ h))
  · exact .inl (.inr ⟨o, e _ _ h⟩)
  · exact .inr h

end L2

set_option Elab.async false
set_option linter.all false
/-! closures and the environment of a comprehension's block (with cells of its own) -/
namespace CT
open PySem

/-- the closure of a comprehension's scope: the cells of its free names -/
def clOf (env : Env) : List (Str × NameKind) → List (Str × Addr) → List (Str × Addr)
  | [], acc => acc
  | (n, k) :: r, acc => if k == .free then clOf env r ((n, (env.cells.lookup n).getD 0) :: acc) else clOf env r acc

theorem clFor {env : Env} (f : Str × NameKind → List (Str × Addr) → Sem (ForInStep (List (Str × Addr))))
    (hf : ∀ n k acc, f (n, k) acc = if k == .free then (do let c ← cellOf env n; pure (.yield ((n, c) :: acc))) else pure (.yield acc)) :
    ∀ (names : List (Str × NameKind)) (acc : List (Str × Addr)), (∀ x ∈ names, x.2 = .free → ∃ c, env.cells.lookup x.1 = some c) → forIn names acc f = pure (clOf env names acc)
  | [], acc, _ => by rw [List.forIn_nil]; rfl
  | (n, k) :: r, acc, h => by
    have hr : ∀ x ∈ r, x.2 = .free → ∃ c, env.cells.lookup x.1 = some c := fun x hx => h x (List.mem_cons_of_mem _ hx)
    rw [List.forIn_cons, hf]
    unfold clOf
    by_cases hk : (k == NameKind.free) = true
    · rw [if_pos hk, if_pos hk]
      obtain ⟨c, hc⟩ := h (n, k) List.mem_cons_self (beq_iff_eq.mp hk)
      have hc' : env.cells.lookup n = some c := hc
      rw [hc']
      simp only [cellOf, hc', pure_bind, Option.getD_some]
      exact clFor f hf r _ hr
    · rw [if_neg hk, if_neg hk]
      simp only [pure_bind]
      exact clFor f hf r _ hr
theorem closureFor_eq {scope : Scope} {env : Env} (h : ∀ x ∈ scope.names, x.2 = .free → ∃ c, env.cells.lookup x.1 = some c) : closureFor scope env = pure (clOf env scope.names []) := by
  simp only [closureFor]
  rw [clFor (env := env) _ (fun n k acc => by cases hk : k == NameKind.free <;> simp [hk]) _ _ h]
  rfl

theorem lookup_app {α : Type} {x : Str} : ∀ {l m : List (Str × α)}, (l ++ m).lookup x = (l.lookup x).or (m.lookup x)
  | [], m => by simp
  | (k, v) :: r, m => by
    rw [List.cons_append, List.lookup_cons, List.lookup_cons]
    cases x == k with
    | true => rfl
    | false => exact lookup_app
theorem lookup_of_mem {α : Type} {x : Str} {v : α} : ∀ {l : List (Str × α)}, (l.map (·.1)).Nodup → (x, v) ∈ l → l.lookup x = some v
  | (k, u) :: r, hn, hm => by
    rw [List.map_cons, List.nodup_cons] at hn
    rw [List.lookup_cons]
    rcases List.mem_cons.mp hm with e | hm
    · cases e; simp
    · have : x ≠ k := fun e => hn.1 (e ▸ List.mem_map.mpr ⟨(x, v), hm, rfl⟩)
      rw [beq_false_of_ne this]
      exact lookup_of_mem hn.2 hm
theorem some_of_mem {α : Type} {x : Str} {v : α} : ∀ {l : List (Str × α)}, (x, v) ∈ l → ∃ u, l.lookup x = some u
  | (k, u) :: r, hm => by
    rw [List.lookup_cons]
    rcases List.mem_cons.mp hm with e | hm
    · cases e; exact ⟨v, by simp⟩
    · cases x == k with
      | true => exact ⟨u, rfl⟩
      | false => exact some_of_mem hm

theorem clOf_acc {env : Env} {p : Str × Addr} : ∀ {names : List (Str × NameKind)} {acc : List (Str × Addr)}, p ∈ acc → p ∈ clOf env names acc
  | [], _, h => h
  | (n, k) :: r, acc, h => by
    unfold clOf
    split
    · exact clOf_acc (List.mem_cons_of_mem _ h)
    · exact clOf_acc h
theorem clOf_mem {env : Env} {n : Str} {c : Addr} : ∀ {names : List (Str × NameKind)} {acc : List (Str × Addr)}, (∀ x ∈ names, x.2 = .free → ∃ c, env.cells.lookup x.1 = some c) → (n, c) ∈ clOf env names acc →
    (n, c) ∈ acc ∨ (env.cells.lookup n = some c ∧ (n, NameKind.free) ∈ names)
  | [], _, _, h => .inl h
  | (m, k) :: r, acc, hf, h => by
    have hr : ∀ x ∈ r, x.2 = .free → ∃ c, env.cells.lookup x.1 = some c := fun x hx => hf x (List.mem_cons_of_mem _ hx)
    unfold clOf at h
    split at h
    · rename_i hk
      have hk' : k = .free := beq_iff_eq.mp hk
      obtain ⟨c', hc⟩ := hf (m, k) List.mem_cons_self hk'
      have hc' : env.cells.lookup m = some c' := hc
      rcases clOf_mem hr h with h | ⟨h1, h2⟩
      · rcases List.mem_cons.mp h with e | h
        · rw [hc'] at e; cases e
          exact .inr ⟨hc', by rw [hk']; exact List.mem_cons_self⟩
        · exact .inl h
      · exact .inr ⟨h1, List.mem_cons_of_mem _ h2⟩
    · rcases clOf_mem hr h with h | ⟨h1, h2⟩
      · exact .inl h
      · exact .inr ⟨h1, List.mem_cons_of_mem _ h2⟩
theorem clOf_has {env : Env} {n : Str} {c : Addr} (hc : env.cells.lookup n = some c) : ∀ {names : List (Str × NameKind)} {acc : List (Str × Addr)}, (n, NameKind.free) ∈ names → (n, c) ∈ clOf env names acc
  | (m, k) :: r, acc, h => by
    unfold clOf
    rcases List.mem_cons.mp h with e | h
    · cases e
      rw [if_pos (by decide), hc]
      exact clOf_acc List.mem_cons_self
    · split <;> exact clOf_has hc h

theorem cellsFrom_app : ∀ (names : List (Str × NameKind)) (n : Nat) (acc : List (Str × Addr)), cellsFrom n names acc = cellsFrom n names [] ++ acc
  | [], _, _ => rfl
  | (m, k) :: r, n, acc => by
    unfold cellsFrom
    split
    · rw [cellsFrom_app r (n + 1) ((m, n) :: acc), cellsFrom_app r (n + 1) [(m, n)], List.append_assoc]; rfl
    · exact cellsFrom_app r n acc
theorem cellsFrom_mem {x : Str} {c : Addr} : ∀ {names : List (Str × NameKind)} {n : Nat} {acc : List (Str × Addr)}, (x, c) ∈ cellsFrom n names acc → (x, c) ∈ acc ∨ (x, NameKind.cell) ∈ names
  | [], _, _, h => .inl h
  | (m, k) :: r, n, acc, h => by
    unfold cellsFrom at h
    split at h
    · rename_i hk
      have hk' : k = .cell := beq_iff_eq.mp hk
      rcases cellsFrom_mem h with h | h
      · rcases List.mem_cons.mp h with e | h
        · cases e; exact .inr (by rw [hk']; exact List.mem_cons_self)
        · exact .inl h
      · exact .inr (List.mem_cons_of_mem _ h)
    · rcases cellsFrom_mem h with h | h
      · exact .inl h
      · exact .inr (List.mem_cons_of_mem _ h)
theorem cellsFrom_has {x : Str} : ∀ {names : List (Str × NameKind)} {n : Nat} {acc : List (Str × Addr)}, (x, NameKind.cell) ∈ names → ∃ c, (x, c) ∈ cellsFrom n names acc
  | (m, k) :: r, n, acc, h => by
    unfold cellsFrom
    rcases List.mem_cons.mp h with e | h
    · cases e
      rw [if_pos (by decide), cellsFrom_app]
      exact ⟨n, List.mem_append_right _ List.mem_cons_self⟩
    · split
      · exact cellsFrom_has h
      · exact cellsFrom_has h

theorem lookup_map2 {α β : Type} {f : Str → α → β} {x : Str} : ∀ {l : List (Str × α)}, (l.map fun p => (p.1, f p.1 p.2)).lookup x = (l.lookup x).map (f x)
  | [] => rfl
  | (n, k) :: r => by
    rw [List.map_cons, List.lookup_cons, List.lookup_cons]
    by_cases hx : x = n
    · subst hx; simp
    · rw [beq_false_of_ne hx]; exact lookup_map2
/-- a name's kind in the block -/
def kin (env : Env) (x : Str) (k : NameKind) : NameKind := if (k == NameKind.free && env.scope.kind == .function && env.kindOf x == some .cell) = true then .cell else k
theorem relabel_lookup {env : Env} {x : Str} {names : List (Str × NameKind)} :
    (names.map fun (n, k) => if (k == NameKind.free && env.scope.kind == .function && env.kindOf n == some .cell) then (n, NameKind.cell) else (n, k)).lookup x = (names.lookup x).map (kin env x) := by
  rw [← lookup_map2 (f := kin env)]
  congr 1
  refine List.map_congr_left fun p _ => ?_
  obtain ⟨n, k⟩ := p
  show (if _ then _ else _) = (n, if _ then _ else _)
  split <;> rfl

theorem wpAny_compEnv {M : Model} {A : Around} {E : Value → Shared → Prop} {s : Shared} {scope : Scope} {globals : Addr} {cl : List (Str × Addr)} {qual : Str} {env : Env} {Q : Env → Shared → Prop}
    (h : Q { scope := scope, locals := s.heap.objs.size, globals := globals, cells := cellsFrom (s.heap.objs.size + 1) scope.names cl, qual := qual, func := none, code := env.code, frame := env.frame, builtins := env.builtins }
      { s with heap := pushCells (s.heap.push { cls := .type "dict", data := .dict #[] }) scope.names }) :
    wpAny M A (newFunctionEnv scope globals cl [] qual none .none (some env)) Q E s := by
  simp only [newFunctionEnv, Option.isSome_some, if_true]
  refine wpAny_bind (wpAny_alloc ?_)
  refine wpAny_bind (wpAny_layCells _ (fun name kind cells => by cases hkc : kind == NameKind.cell <;> simp [hkc]) _ _ _ _ ?_)
  rw [show ({ s with heap := s.heap.push { cls := .type "dict", data := .dict #[] } } : Shared).heap.objs.size = s.heap.objs.size + 1 from Heap.size_push ..]
  simp only [List.forIn_nil, pure_bind]
  exact wpAny_pure h

/-- what is done in a turn of clause d behind the tests -/
def insideOf (elt : Expr) (gens : List Comprehension) (scope : Scope) (pos : Pos) (d : Nat) (acc : Value) (env : Env) : Sem Unit :=
  match gens[d + 1]? with
  | some g' => do
    let x ← eval g'.iter env
    standAt g'.iter.pos
    let x ← if g'.is_async != 0 then foldedIterable g'.iter x else foldedSetIterable g'.iter env x
    let _ ← runOwn (.compStart (.ListComp elt gens scope pos) (d + 1) (← holding [x] (if g'.is_async != 0 then asyncIter x else pyIter x)) acc env) env
  | none => do let _ ← call (.builtin "list.append") [acc, ← eval elt env]
theorem compTurn_at (elt : Expr) (gens : List Comprehension) (scope : Scope) (pos : Pos) (d : Nat) (it acc : Value) (env : Env) {tg iter : Expr} {ifs : List Expr} (hg : gens[d]? = some ⟨tg, iter, ifs, 0⟩) :
    compTurn (.ListComp elt gens scope pos) d it acc env = (standAt iter.pos >>= fun _ => pyNext it >>= fun r => match r with
      | none => pure (.done .next)
      | some v => letOwnedTupleGo tg it v >>= fun _ => assign tg env v >>= fun _ =>
        (forIn ifs true fun c r => if r = true then do let ok ← isTrue c env (eval c env); pure (ForInStep.yield ok) else pure (ForInStep.yield r)) >>= fun ok =>
          (if ok = true then insideOf elt gens scope pos d acc env else pure ()) >>= fun _ => again (.compLoop (.ListComp elt gens scope pos) d it acc env)) := by
  unfold compTurn insideOf
  simp only [hg, show ((0 : Int) != 0) = false from rfl, Bool.false_eq_true, if_false]
  congr 1
  funext _
  congr 1
  funext r
  cases r with
  | none => rfl
  | some v =>
    dsimp only
    congr 1; funext _
    congr 1; funext _
    congr 1; funext ok
    cases ok with
    | false => simp
    | true =>
      simp only [if_true]
      cases gens[d + 1]? with
      | none => rfl
      | some g' =>
        by_cases ha : (g'.is_async != 0) = true
        · simp [ha, bind_assoc]
        · simp [ha, bind_assoc]

section
variable {prog : Program} {w : World} {A : Around} {R : Result → Shared → Prop} {s : Shared}
theorem compStart_at {elt : Expr} {gens : List Comprehension} {scope : Scope} {pos : Pos} {d : Nat} {it acc : Value} {env : Env} {tg iter : Expr} {ifs : List Expr} (hg : gens[d]? = some ⟨tg, iter, ifs, 0⟩)
    (h0 : codeAny (model prog w) A (.compLoop (.ListComp elt gens scope pos) d it acc env) R s)
    (h : wpAny (model prog w) A (pyIter it) (fun it' s' => codeAny (model prog w) A (.compLoop (.ListComp elt gens scope pos) d it' acc env) R s') (notedBy (model prog w) A env fun x s' => R (.error x) s') s) :
    codeAny (model prog w) A (.compStart (.ListComp elt gens scope pos) d it acc env) R s := by
  refine codeAny_of_tree ?_
  show wpAny _ _ ((compStart (.ListComp elt gens scope pos) d it acc env).onRaise (fun x => do noteFrame x env; standAt theWindowsPlace)) _ _ s
  refine wpAny_notedAt ?_
  unfold compStart
  have e : (clausesOf (.ListComp elt gens scope pos))[d]? = some ⟨tg, iter, ifs, 0⟩ := hg
  rw [e]
  show wpAny _ _ (ask >>= _) _ _ s
  refine wpAny_bind (wpAny_askSetting (wpAny_ite ?_))
  split
  · first
      | exact wpAny_bind (wpAny_pure (wpAny_pure (And.intro rfl h0)))
      | exact wpAny_pure (And.intro rfl h0)
  · first
      | exact wpAny_bind (wpAny_rule (wpAny_bind (wpAny_standAt (wpAny_bind (wpAny_mono h (fun it' s' h' => wpAny_pure (And.intro rfl h')) fun _ _ x => x)))))
      | (refine wpAny_bind (wpAny_rule ?_); show wpAny _ _ (standAt iter.pos >>= _) _ _ s; exact wpAny_bind (wpAny_standAt (wpAny_bind (wpAny_mono h (fun it' s' h' => wpAny_pure (And.intro rfl h')) fun _ _ x => x))))
end
end CT

set_option Elab.async false
set_option linter.all false
set_option maxRecDepth 100000
set_option maxHeartbeats 4000000
namespace CT
open PySem

/-- an iterator over a list (false) or a tuple (true) -/
def Sit (h : Heap) (b : Bool) (i a : Addr) (k : Nat) : Prop := match b with | true => h.IsTupleIter i a k | false => h.IsListIter i a k
def Ssq (h : Heap) (b : Bool) (a : Addr) (xs : Array Value) : Prop := match b with | true => h.IsTuple a xs | false => h.IsList a xs
theorem Sit.at {h h' : Heap} {b : Bool} {i a : Addr} {k : Nat} (x : Sit h b i a k) (e : ∀ o, h.get? i = some o → h'.get? i = some o) : Sit h' b i a k := by
  cases b with
  | true => obtain ⟨o, ho, r⟩ := x; exact ⟨o, e o ho, r⟩
  | false => exact Heap.IsListIter.at x e
theorem Ssq.at {h h' : Heap} {b : Bool} {a : Addr} {xs : Array Value} (x : Ssq h b a xs) (e : ∀ o, h.get? a = some o → h'.get? a = some o) : Ssq h' b a xs := by
  cases b with
  | true => obtain ⟨o, ho, r⟩ := x; exact ⟨o, e o ho, r⟩
  | false => exact Heap.IsList.at x e
theorem Sit.rec {h : Heap} {b : Bool} {i a : Addr} {k : Nat} (x : Sit h b i a k) : ∃ o n vs, h.get? i = some o ∧ o.cls = .type n ∧ o.data = .fields vs := by
  cases b with
  | true => obtain ⟨o, ho, c, d⟩ := x; exact ⟨o, _, _, ho, c, d⟩
  | false => obtain ⟨o, ho, c, d⟩ := x; exact ⟨o, _, _, ho, c, d⟩
section
variable {prog : Program} {w : World} {A : Around} {E : Value → Shared → Prop} {s : Shared}
theorem nextOf_tuple_item {it t : Addr} {i : Nat} {items} {x : Value} {Q : Value → Shared → Prop} (hit : s.heap.IsTupleIter it t i) (ht : s.heap.IsTuple t items) (hx : items[i]? = some x)
    (hQ : ∀ h', h'.IsTupleIter it t (i + 1) → Heap.SameBut it s.heap h' → Q x { s with heap := h' }) : wpAny (model prog w) A (Builtin.SmallTypes.nextOf (.ref it)) Q E s := by
  obtain ⟨o, ho, hc, hd⟩ := id hit
  obtain ⟨ol, hol, _, nl, hdl⟩ := ht
  unfold Builtin.SmallTypes.nextOf
  refine wpAny_bind (wpAny_callSpecial?_slot (name := Str.ofString "__next__") hit.typeIs F.slot_tuple_iterator_next
    (wpAny_call_entry F.slot_tuple_iterator_next hit.typeIs F.entry_tuple_iterator_next ?_ (F.args_tuple_iterator_next_1 _)))
  show wpAny _ _ (field (.ref it) 0 >>= _) _ _ s
  refine wpAny_bind (wpAny_field ho hd (x := .ref t) rfl ?_)
  show wpAny _ _ (if (Value.ref t == Value.none) = true then _ else _) _ _ s
  rw [if_neg (show ¬ ((Value.ref t == Value.none) = true) from Bool.false_ne_true)]
  show wpAny _ _ (field (.ref it) 1 >>= _) _ _ s
  refine wpAny_bind (wpAny_field ho hd (x := .int i 0) rfl ?_)
  show wpAny _ _ (seqItems? (.ref t) >>= _) _ _ s
  refine wpAny_bind (wpAny_seqItems hol hdl ?_)
  simp only [Int.toNat_natCast, hx]
  refine wpAny_bind (wpAny_setField ho hd (by simp) (wpAny_pure ⟨x, rfl, wpAny_pure (hQ _ ?_ (Heap.SameBut.update ..))⟩))
  exact ⟨_, Heap.get?_update_self _ ho (Obj.isFreed_of_fields (Obj.data_mapFields hd _)), (Obj.cls_mapFields ..).trans hc, by
    rw [Obj.data_mapFields hd]; simp [rawInt]⟩
theorem nextOf_tuple_end {it t : Addr} {i : Nat} {items} {Q : Value → Shared → Prop} (hh : A.handled = none) (hit : s.heap.IsTupleIter it t i) (ht : s.heap.IsTuple t items) (hx : items[i]? = none)
    (hE : ∀ h' e, Heap.ExtBut it s.heap h' → (∃ o, h'.get? e = some o ∧ o.cls = .type "StopIteration") → E (.ref e) { s with heap := h' }) :
    wpAny (model prog w) A (Builtin.SmallTypes.nextOf (.ref it)) Q E s := by
  obtain ⟨o, ho, hc, hd⟩ := id hit
  obtain ⟨ol, hol, _, nl, hdl⟩ := ht
  unfold Builtin.SmallTypes.nextOf
  refine wpAny_bind (wpAny_callSpecial?_slot (name := Str.ofString "__next__") hit.typeIs F.slot_tuple_iterator_next
    (wpAny_call_entry F.slot_tuple_iterator_next hit.typeIs F.entry_tuple_iterator_next ?_ (F.args_tuple_iterator_next_1 _)))
  show wpAny _ _ (field (.ref it) 0 >>= _) _ _ s
  refine wpAny_bind (wpAny_field ho hd (x := .ref t) rfl ?_)
  show wpAny _ _ (if (Value.ref t == Value.none) = true then _ else _) _ _ s
  rw [if_neg (show ¬ ((Value.ref t == Value.none) = true) from Bool.false_ne_true)]
  show wpAny _ _ (field (.ref it) 1 >>= _) _ _ s
  refine wpAny_bind (wpAny_field ho hd (x := .int i 0) rfl ?_)
  show wpAny _ _ (seqItems? (.ref t) >>= _) _ _ s
  refine wpAny_bind (wpAny_seqItems hol hdl ?_)
  simp only [Int.toNat_natCast, hx]
  refine wpAny_bind (wpAny_rule (wpAny_bind (wpAny_setField ho hd (by simp) ?_)))
  show wpAny _ _ (newExc (.type "StopIteration") [] >>= _) _ _ _
  refine wpAny_bind ?_
  simp only [newExc, newTuple]
  refine wpAny_bind (wpAny_newObj_type ?_ (by size_fits))
  refine wpAny_bind (m := firstArgMember _ _) (wpAny_of_eq (a := Value.none) (by first | rfl | (simp only [firstArgMember]; rfl)) ?_)
  refine wpAny_newObj_type ?_ (by size_fits)
  simp only [raiseNew]
  refine wpAny_bind (wpAny_handled ?_)
  first | rw [show A.in1.handled = none from hh] | rw [hh]
  refine wpAny_bind (wpAny_pure (wpAny_throw ?_))
  exact hE _ _ (((Heap.SameBut.update ..).extBut.push _).push _) ⟨_, Heap.get?_push_size _ rfl, rfl⟩
theorem nextS_item {b : Bool} {it a : Addr} {i : Nat} {items : Array Value} {x : Value} {Q : Value → Shared → Prop} (hit : Sit s.heap b it a i) (hl : Ssq s.heap b a items) (hx : items[i]? = some x)
    (hQ : ∀ h', Sit h' b it a (i + 1) → Heap.SameBut it s.heap h' → Q x { s with heap := h' }) : wpAny (model prog w) A (Builtin.SmallTypes.nextOf (.ref it)) Q E s := by
  cases b with
  | true => exact nextOf_tuple_item hit hl hx hQ
  | false => exact wpAny_nextOf_list_item hit hl hx hQ
theorem nextS_end {b : Bool} {it a : Addr} {i : Nat} {items : Array Value} {Q : Value → Shared → Prop} (hh : A.handled = none) (hit : Sit s.heap b it a i) (hl : Ssq s.heap b a items) (hx : items[i]? = none)
    (hE : ∀ h' e, Heap.ExtBut it s.heap h' → (∃ o, h'.get? e = some o ∧ o.cls = .type "StopIteration") → E (.ref e) { s with heap := h' }) : wpAny (model prog w) A (Builtin.SmallTypes.nextOf (.ref it)) Q E s := by
  cases b with
  | true => exact nextOf_tuple_end hh hit hl hx hE
  | false => exact wpAny_nextOf_list_end hh hit hl hx hE
abbrev IsTupAt (h : Heap) (T : Addr) (vs : Array Value) : Prop := h.get? T = some { cls := .type "tuple", data := .seq vs }
theorem small8 : 8 ≤ sizeLine := by rw [sizeLine_eq]; decide
theorem updateSeq_tup {T : Addr} {vs : Array Value} {x : Value} {k : Nat} {Q : Unit → Shared → Prop} (hT : IsTupAt s.heap T vs) (hv : vs.size ≤ 8)
    (h : ∀ h', IsTupAt h' T (vs.setIfInBounds k x) → Heap.SameBut T s.heap h' → Q () { s with heap := h' }) : wpAny (model prog w) A (updateSeq T (·.setIfInBounds k x)) Q E s := by
  have h8 := small8
  refine wpAny_updateSeq hT rfl (h _ ?_ (Heap.SameBut.update ..)) (hz := by omega) (_hz' := by simp; omega)
  show Heap.get? _ _ = _
  rw [Heap.get?_update_self _ hT rfl]
  simp [Obj.mapSeq]

theorem ne3 {l : List Addr} {a b : Addr} (ha : a ∉ l) (hb : b ∈ l) : a ≠ b := fun e => ha (e ▸ hb)

/-! ### two -/
theorem zip2_item {z TI TO i1 i2 a1 a2 : Addr} {b1 b2 : Bool} {k : Nat} {xs ys ts : Array Value} {x y : Value} {Q : Value → Shared → Prop}
    (nd : [z, TI, TO, i1, i2].Nodup) (n1 : a1 ∉ [z, TO, i1, i2]) (n2 : a2 ∉ [z, TO, i1, i2])
    (hz : IsZip s.heap z TI TO .none) (hTI : IsTupAt s.heap TI #[.ref i1, .ref i2]) (hTO : IsTupAt s.heap TO ts) (hts : ts.size = 2)
    (h1 : Sit s.heap b1 i1 a1 k) (h2 : Sit s.heap b2 i2 a2 k) (hl1 : Ssq s.heap b1 a1 xs) (hl2 : Ssq s.heap b2 a2 ys) (hx : xs[k]? = some x) (hy : ys[k]? = some y)
    (hQ : ∀ h', IsZip h' z TI TO (rawInt s.heap.objs.size) → IsTupAt h' TO #[x, y] → Sit h' b1 i1 a1 (k + 1) → Sit h' b2 i2 a2 (k + 1) → IsTupAt h' s.heap.objs.size #[x, y] → h'.objs.size = s.heap.objs.size + 1 →
      (∀ c o, c ∉ [z, TO, i1, i2] → s.heap.get? c = some o → h'.get? c = some o) → Q (.ref s.heap.objs.size) { s with heap := h' }) :
    wpAny (model prog w) A (Builtin.«zip.__next__» ⟨[.ref z], []⟩) (fun fin s' => ∃ v, fin = .done (.ret v) ∧ Q v s') E s := by
  simp only [List.nodup_cons, List.mem_cons, List.not_mem_nil, or_false, not_or, List.nodup_nil, and_true, not_false_eq_true] at nd
  obtain ⟨⟨zTI, zTO, zi1, zi2⟩, ⟨TITO, TIi1, TIi2⟩, ⟨TOi1, TOi2⟩, i12⟩ := nd
  simp only [List.mem_cons, List.not_mem_nil, or_false, not_or] at n1 n2
  obtain ⟨a1z, a1T, a1i, a1j⟩ := n1
  obtain ⟨a2z, a2T, a2i, a2j⟩ := n2
  show wpAny _ _ (field (.ref z) 2 >>= _) _ _ _
  refine wpAny_bind (wpAny_field hz rfl (x := .bool false) rfl ?_)
  show wpAny _ _ (field (.ref z) 3 >>= _) _ _ _
  refine wpAny_bind (wpAny_field hz rfl (x := .ref TI) rfl ?_)
  refine wpAny_bind (wpAny_seqItems hTI rfl ?_)
  show wpAny _ _ (Builtin.SmallTypes.ownedTupleIsFree (.ref z) >>= _) _ _ _
  refine wpAny_bind ?_
  unfold Builtin.SmallTypes.ownedTupleIsFree
  refine wpAny_bind (wpAny_field hz rfl (x := .none) rfl (wpAny_pure ?_))
  simp only [if_true]
  refine wpAny_bind (wpAny_rule ?_)
  refine wpAny_bind (wpAny_field hz rfl (x := .ref TO) rfl ?_)
  refine wpAny_bind (wpAny_setField_rec hz (by simp) fun h₁ hz₁ hs₁ => ?_)
  replace hz₁ : IsZip h₁ z TI TO .ellipsis := hz₁
  refine wpAny_bind ?_
  simp only [List.zipIdx_cons, List.zipIdx_nil, List.forIn_cons, List.forIn_nil]
  refine wpAny_bind (wpAny_bind (wpAny_onRaise ?_))
  show wpAny _ _ (Builtin.SmallTypes.nextOf (.ref i1) >>= _) _ _ _
  refine wpAny_bind (nextS_item (h1.at fun o e => hs₁.extBut _ _ (Ne.symm zi1) e) (hl1.at fun o e => hs₁.extBut _ _ a1z e) hx fun h₂ h1₂ hs₂ => wpAny_pure ?_)
  have hTO₂ : IsTupAt h₂ TO ts := hs₂.extBut _ _ TOi1 (hs₁.extBut _ _ (Ne.symm zTO) hTO)
  refine wpAny_bind (wpAny_seqItems hTO₂ rfl ?_)
  refine wpAny_bind (updateSeq_tup hTO₂ (by omega) fun h₃ hTO₃ hs₃ => ?_)
  refine wpAny_bind (wpAny_letGo (wpAny_pure ?_))
  refine wpAny_bind (wpAny_bind (wpAny_onRaise ?_))
  show wpAny _ _ (Builtin.SmallTypes.nextOf (.ref i2) >>= _) _ _ _
  refine wpAny_bind (nextS_item (h2.at fun o e => hs₃.extBut _ _ (Ne.symm TOi2) (hs₂.extBut _ _ (Ne.symm i12) (hs₁.extBut _ _ (Ne.symm zi2) e)))
    (hl2.at fun o e => hs₃.extBut _ _ a2T (hs₂.extBut _ _ a2i (hs₁.extBut _ _ a2z e))) hy fun h₄ h2₄ hs₄ => wpAny_pure ?_)
  have hTO₄ := hs₄.extBut _ _ TOi2 hTO₃
  refine wpAny_bind (wpAny_seqItems hTO₄ rfl ?_)
  refine wpAny_bind (updateSeq_tup hTO₄ (by simp; omega) fun h₅ hTO₅ hs₅ => ?_)
  refine wpAny_bind (wpAny_letGo (wpAny_pure (wpAny_pure ?_)))
  have ets : ((ts.setIfInBounds 0 x).setIfInBounds 1 y) = #[x, y] := by
    match ts, hts with
    | ⟨[p, q]⟩, _ => rfl
  replace hTO₅ : IsTupAt h₅ TO #[x, y] := by rw [← ets]; exact hTO₅
  refine wpAny_bind (wpAny_seqItems hTO₅ rfl ?_)
  refine wpAny_bind (wpAny_newTuple ?_)
  have hsz : h₅.objs.size = s.heap.objs.size := by rw [hs₅.1, hs₄.1, hs₃.1, hs₂.1, hs₁.1]
  have hz₅ : IsZip h₅ z TI TO .ellipsis := hs₅.extBut _ _ zTO (hs₄.extBut _ _ zi2 (hs₃.extBut _ _ zTO (hs₂.extBut _ _ zi1 hz₁)))
  have hk₅ : ∀ c o, c ∉ [z, TO, i1, i2] → s.heap.get? c = some o → h₅.get? c = some o := fun c o hc e =>
    hs₅.extBut _ _ (ne3 hc (by simp)) (hs₄.extBut _ _ (ne3 hc (by simp)) (hs₃.extBut _ _ (ne3 hc (by simp)) (hs₂.extBut _ _ (ne3 hc (by simp)) (hs₁.extBut _ _ (ne3 hc (by simp)) e))))
  have h1₅ : Sit h₅ b1 i1 a1 (k + 1) := h1₂.at fun o e => hs₅.extBut _ _ (Ne.symm TOi1) (hs₄.extBut _ _ i12 (hs₃.extBut _ _ (Ne.symm TOi1) e))
  have h2₅ : Sit h₅ b2 i2 a2 (k + 1) := h2₄.at fun o e => hs₅.extBut _ _ (Ne.symm TOi2) e
  have hzlt : z < h₅.objs.size := Heap.lt_size hz₅
  have hTOlt : TO < h₅.objs.size := Heap.lt_size hTO₅
  show wpAny _ _ (Builtin.SmallTypes.ownedTupleHandOut (.ref z) (.ref h₅.objs.size) >>= _) _ _ _
  refine wpAny_bind ?_
  unfold Builtin.SmallTypes.ownedTupleHandOut
  have hz₆ : IsZip (h₅.push { cls := .type "tuple", data := .seq #[x, y] }) z TI TO .ellipsis := Heap.get?_push_of_some _ hz₅
  refine wpAny_bind (wpAny_setField_rec hz₆ (by simp) fun h₇ hz₇ hs₇ => ?_)
  replace hz₇ : IsZip h₇ z TI TO (rawInt h₅.objs.size) := hz₇
  refine wpAny_setField_rec hz₇ (by simp) fun h₈ hz₈ hs₈ => ?_
  replace hz₈ : IsZip h₈ z TI TO (rawInt h₅.objs.size) := hz₈
  have up : ∀ c o, c ≠ z → h₅.get? c = some o → h₈.get? c = some o := fun c o c1 e => hs₈.extBut _ _ c1 (hs₇.extBut _ _ c1 (Heap.get?_push_of_some _ e))
  have hT₈ : IsTupAt h₈ h₅.objs.size #[x, y] := hs₈.extBut _ _ (Nat.ne_of_gt hzlt) (hs₇.extBut _ _ (Nat.ne_of_gt hzlt) (Heap.get?_push_size _ rfl))
  have hz8 : h₈.objs.size = h₅.objs.size + 1 := by rw [hs₈.1, hs₇.1, Heap.size_push]
  rw [hsz] at hz₈ hT₈ hz8
  refine wpAny_pure ⟨_, rfl, ?_⟩
  show Q (.ref h₅.objs.size) _
  rw [hsz]
  exact hQ h₈ hz₈ (up _ _ (Ne.symm zTO) hTO₅) (h1₅.at fun o e => up _ o (Ne.symm zi1) e) (h2₅.at fun o e => up _ o (Ne.symm zi2) e) hT₈ hz8 fun c o hc e => up c o (ne3 hc (by simp)) (hk₅ c o hc e)

theorem zip2_end {z TI TO i1 i2 a1 a2 : Addr} {b1 b2 : Bool} {k : Nat} {xs ys ts : Array Value} {Q : PySem.Fin → Shared → Prop} (hh : A.handled = none)
    (nd : [z, TI, TO, i1, i2].Nodup) (n1 : a1 ∉ [z, TO, i1, i2]) (n2 : a2 ∉ [z, TO, i1, i2])
    (hz : IsZip s.heap z TI TO .none) (hTI : IsTupAt s.heap TI #[.ref i1, .ref i2]) (hTO : IsTupAt s.heap TO ts) (hts : ts.size = 2)
    (h1 : Sit s.heap b1 i1 a1 k) (h2 : Sit s.heap b2 i2 a2 k) (hl1 : Ssq s.heap b1 a1 xs) (hl2 : Ssq s.heap b2 a2 ys) (hend : xs[k]? = none ∨ ys[k]? = none)
    (hE : ∀ h' e, (∀ c o, c ∉ [z, TO, i1, i2] → s.heap.get? c = some o → h'.get? c = some o) → (∃ o, h'.get? e = some o ∧ o.cls = .type "StopIteration") → E (.ref e) { s with heap := h' }) :
    wpAny (model prog w) A (Builtin.«zip.__next__» ⟨[.ref z], []⟩) Q E s := by
  simp only [List.nodup_cons, List.mem_cons, List.not_mem_nil, or_false, not_or, List.nodup_nil, and_true, not_false_eq_true] at nd
  obtain ⟨⟨zTI, zTO, zi1, zi2⟩, ⟨TITO, TIi1, TIi2⟩, ⟨TOi1, TOi2⟩, i12⟩ := nd
  simp only [List.mem_cons, List.not_mem_nil, or_false, not_or] at n1 n2
  obtain ⟨a1z, a1T, a1i, a1j⟩ := n1
  obtain ⟨a2z, a2T, a2i, a2j⟩ := n2
  show wpAny _ _ (field (.ref z) 2 >>= _) _ _ _
  refine wpAny_bind (wpAny_field hz rfl (x := .bool false) rfl ?_)
  show wpAny _ _ (field (.ref z) 3 >>= _) _ _ _
  refine wpAny_bind (wpAny_field hz rfl (x := .ref TI) rfl ?_)
  refine wpAny_bind (wpAny_seqItems hTI rfl ?_)
  show wpAny _ _ (Builtin.SmallTypes.ownedTupleIsFree (.ref z) >>= _) _ _ _
  refine wpAny_bind ?_
  unfold Builtin.SmallTypes.ownedTupleIsFree
  refine wpAny_bind (wpAny_field hz rfl (x := .none) rfl (wpAny_pure ?_))
  simp only [if_true]
  refine wpAny_bind (wpAny_rule ?_)
  refine wpAny_bind (wpAny_field hz rfl (x := .ref TO) rfl ?_)
  refine wpAny_bind (wpAny_setField_rec hz (by simp) fun h₁ hz₁ hs₁ => ?_)
  replace hz₁ : IsZip h₁ z TI TO .ellipsis := hz₁
  refine wpAny_bind ?_
  simp only [List.zipIdx_cons, List.zipIdx_nil, List.forIn_cons, List.forIn_nil]
  refine wpAny_bind (wpAny_bind (wpAny_onRaise ?_))
  show wpAny _ _ (Builtin.SmallTypes.nextOf (.ref i1) >>= _) _ _ _
  have hi1 := h1.at (h' := h₁) fun o e => hs₁.extBut _ _ (Ne.symm zi1) e
  have hL1 := hl1.at (h' := h₁) fun o e => hs₁.extBut _ _ a1z e
  cases hx : xs[k]? with
  | none =>
    refine wpAny_bind (nextS_end hh hi1 hL1 hx fun h₂ e hs₂ he => ?_)
    obtain ⟨oe, hoe, hce⟩ := he
    have hz₂ : IsZip h₂ z TI TO .ellipsis := hs₂ _ _ zi1 hz₁
    have hez : e ≠ z := fun x => by subst x; rw [hz₂] at hoe; cases hoe; simp at hce
    refine wpAny_setField_rec hz₂ (by simp) fun h₃ _ hs₃ => hE h₃ e (fun c o hc x => hs₃.extBut _ _ (ne3 hc (by simp)) (hs₂ _ _ (ne3 hc (by simp)) (hs₁.extBut _ _ (ne3 hc (by simp)) x))) ⟨oe, hs₃.extBut _ _ hez hoe, hce⟩
  | some x =>
    have hy : ys[k]? = none := by rcases hend with h | h; rw [hx] at h; cases h; exact h
    refine wpAny_bind (nextS_item hi1 hL1 hx fun h₂ h1₂ hs₂ => wpAny_pure ?_)
    have hTO₂ : IsTupAt h₂ TO ts := hs₂.extBut _ _ TOi1 (hs₁.extBut _ _ (Ne.symm zTO) hTO)
    refine wpAny_bind (wpAny_seqItems hTO₂ rfl ?_)
    refine wpAny_bind (updateSeq_tup hTO₂ (by omega) fun h₃ hTO₃ hs₃ => ?_)
    refine wpAny_bind (wpAny_letGo (wpAny_pure ?_))
    refine wpAny_bind (wpAny_bind (wpAny_onRaise ?_))
    show wpAny _ _ (Builtin.SmallTypes.nextOf (.ref i2) >>= _) _ _ _
    refine wpAny_bind (nextS_end hh (h2.at fun o e => hs₃.extBut _ _ (Ne.symm TOi2) (hs₂.extBut _ _ (Ne.symm i12) (hs₁.extBut _ _ (Ne.symm zi2) e)))
      (hl2.at fun o e => hs₃.extBut _ _ a2T (hs₂.extBut _ _ a2i (hs₁.extBut _ _ a2z e))) hy fun h₄ e hs₄ he => ?_)
    obtain ⟨oe, hoe, hce⟩ := he
    have hz₄ : IsZip h₄ z TI TO .ellipsis := hs₄ _ _ zi2 (hs₃.extBut _ _ zTO (hs₂.extBut _ _ zi1 hz₁))
    have hez : e ≠ z := fun x => by subst x; rw [hz₄] at hoe; cases hoe; simp at hce
    refine wpAny_setField_rec hz₄ (by simp) fun h₅ _ hs₅ => hE h₅ e (fun c o hc x => hs₅.extBut _ _ (ne3 hc (by simp)) (hs₄ _ _ (ne3 hc (by simp)) (hs₃.extBut _ _ (ne3 hc (by simp)) (hs₂.extBut _ _ (ne3 hc (by simp)) (hs₁.extBut _ _ (ne3 hc (by simp)) x))))) ⟨oe, hs₅.extBut _ _ hez hoe, hce⟩

/-! ### three -/
theorem zip3_item {z TI TO i1 i2 i3 a1 a2 a3 : Addr} {b1 b2 b3 : Bool} {k : Nat} {xs ys us ts : Array Value} {x y u : Value} {Q : Value → Shared → Prop}
    (nd : [z, TI, TO, i1, i2, i3].Nodup) (n1 : a1 ∉ [z, TO, i1, i2, i3]) (n2 : a2 ∉ [z, TO, i1, i2, i3]) (n3 : a3 ∉ [z, TO, i1, i2, i3])
    (hz : IsZip s.heap z TI TO .none) (hTI : IsTupAt s.heap TI #[.ref i1, .ref i2, .ref i3]) (hTO : IsTupAt s.heap TO ts) (hts : ts.size = 3)
    (h1 : Sit s.heap b1 i1 a1 k) (h2 : Sit s.heap b2 i2 a2 k) (h3 : Sit s.heap b3 i3 a3 k) (hl1 : Ssq s.heap b1 a1 xs) (hl2 : Ssq s.heap b2 a2 ys) (hl3 : Ssq s.heap b3 a3 us)
    (hx : xs[k]? = some x) (hy : ys[k]? = some y) (hu : us[k]? = some u)
    (hQ : ∀ h', IsZip h' z TI TO (rawInt s.heap.objs.size) → IsTupAt h' TO #[x, y, u] → Sit h' b1 i1 a1 (k + 1) → Sit h' b2 i2 a2 (k + 1) → Sit h' b3 i3 a3 (k + 1) → IsTupAt h' s.heap.objs.size #[x, y, u] → h'.objs.size = s.heap.objs.size + 1 →
      (∀ c o, c ∉ [z, TO, i1, i2, i3] → s.heap.get? c = some o → h'.get? c = some o) → Q (.ref s.heap.objs.size) { s with heap := h' }) :
    wpAny (model prog w) A (Builtin.«zip.__next__» ⟨[.ref z], []⟩) (fun fin s' => ∃ v, fin = .done (.ret v) ∧ Q v s') E s := by
  simp only [List.nodup_cons, List.mem_cons, List.not_mem_nil, or_false, not_or, List.nodup_nil, and_true, not_false_eq_true] at nd
  obtain ⟨⟨zTI, zTO, zi1, zi2, zi3⟩, ⟨TITO, TIi1, TIi2, TIi3⟩, ⟨TOi1, TOi2, TOi3⟩, ⟨i12, i13⟩, i23⟩ := nd
  simp only [List.mem_cons, List.not_mem_nil, or_false, not_or] at n1 n2 n3
  obtain ⟨a1z, a1T, a1i, a1j, a1k⟩ := n1
  obtain ⟨a2z, a2T, a2i, a2j, a2k⟩ := n2
  obtain ⟨a3z, a3T, a3i, a3j, a3k⟩ := n3
  show wpAny _ _ (field (.ref z) 2 >>= _) _ _ _
  refine wpAny_bind (wpAny_field hz rfl (x := .bool false) rfl ?_)
  show wpAny _ _ (field (.ref z) 3 >>= _) _ _ _
  refine wpAny_bind (wpAny_field hz rfl (x := .ref TI) rfl ?_)
  refine wpAny_bind (wpAny_seqItems hTI rfl ?_)
  show wpAny _ _ (Builtin.SmallTypes.ownedTupleIsFree (.ref z) >>= _) _ _ _
  refine wpAny_bind ?_
  unfold Builtin.SmallTypes.ownedTupleIsFree
  refine wpAny_bind (wpAny_field hz rfl (x := .none) rfl (wpAny_pure ?_))
  simp only [if_true]
  refine wpAny_bind (wpAny_rule ?_)
  refine wpAny_bind (wpAny_field hz rfl (x := .ref TO) rfl ?_)
  refine wpAny_bind (wpAny_setField_rec hz (by simp) fun h₁ hz₁ hs₁ => ?_)
  replace hz₁ : IsZip h₁ z TI TO .ellipsis := hz₁
  refine wpAny_bind ?_
  simp only [List.zipIdx_cons, List.zipIdx_nil, List.forIn_cons, List.forIn_nil]
  refine wpAny_bind (wpAny_bind (wpAny_onRaise ?_))
  show wpAny _ _ (Builtin.SmallTypes.nextOf (.ref i1) >>= _) _ _ _
  refine wpAny_bind (nextS_item (h1.at fun o e => hs₁.extBut _ _ (Ne.symm zi1) e) (hl1.at fun o e => hs₁.extBut _ _ a1z e) hx fun h₂ h1₂ hs₂ => wpAny_pure ?_)
  have hTO₂ : IsTupAt h₂ TO ts := hs₂.extBut _ _ TOi1 (hs₁.extBut _ _ (Ne.symm zTO) hTO)
  refine wpAny_bind (wpAny_seqItems hTO₂ rfl ?_)
  refine wpAny_bind (updateSeq_tup hTO₂ (by omega) fun h₃ hTO₃ hs₃ => ?_)
  refine wpAny_bind (wpAny_letGo (wpAny_pure ?_))
  refine wpAny_bind (wpAny_bind (wpAny_onRaise ?_))
  show wpAny _ _ (Builtin.SmallTypes.nextOf (.ref i2) >>= _) _ _ _
  refine wpAny_bind (nextS_item (h2.at fun o e => hs₃.extBut _ _ (Ne.symm TOi2) (hs₂.extBut _ _ (Ne.symm i12) (hs₁.extBut _ _ (Ne.symm zi2) e)))
    (hl2.at fun o e => hs₃.extBut _ _ a2T (hs₂.extBut _ _ a2i (hs₁.extBut _ _ a2z e))) hy fun h₄ h2₄ hs₄ => wpAny_pure ?_)
  have hTO₄ := hs₄.extBut _ _ TOi2 hTO₃
  refine wpAny_bind (wpAny_seqItems hTO₄ rfl ?_)
  refine wpAny_bind (updateSeq_tup hTO₄ (by simp; omega) fun h₅ hTO₅ hs₅ => ?_)
  refine wpAny_bind (wpAny_letGo (wpAny_pure ?_))
  refine wpAny_bind (wpAny_bind (wpAny_onRaise ?_))
  show wpAny _ _ (Builtin.SmallTypes.nextOf (.ref i3) >>= _) _ _ _
  refine wpAny_bind (nextS_item (h3.at fun o e => hs₅.extBut _ _ (Ne.symm TOi3) (hs₄.extBut _ _ (Ne.symm i23) (hs₃.extBut _ _ (Ne.symm TOi3) (hs₂.extBut _ _ (Ne.symm i13) (hs₁.extBut _ _ (Ne.symm zi3) e)))))
    (hl3.at fun o e => hs₅.extBut _ _ a3T (hs₄.extBut _ _ a3j (hs₃.extBut _ _ a3T (hs₂.extBut _ _ a3i (hs₁.extBut _ _ a3z e))))) hu fun h₆ h3₆ hs₆ => wpAny_pure ?_)
  have hTO₆ := hs₆.extBut _ _ TOi3 hTO₅
  refine wpAny_bind (wpAny_seqItems hTO₆ rfl ?_)
  refine wpAny_bind (updateSeq_tup hTO₆ (by simp; omega) fun h₇ hTO₇ hs₇ => ?_)
  refine wpAny_bind (wpAny_letGo (wpAny_pure (wpAny_pure ?_)))
  have ets : (((ts.setIfInBounds 0 x).setIfInBounds 1 y).setIfInBounds 2 u) = #[x, y, u] := by
    match ts, hts with
    | ⟨[p, q, r]⟩, _ => rfl
  replace hTO₇ : IsTupAt h₇ TO #[x, y, u] := by rw [← ets]; exact hTO₇
  refine wpAny_bind (wpAny_seqItems hTO₇ rfl ?_)
  refine wpAny_bind (wpAny_newTuple ?_)
  have hsz : h₇.objs.size = s.heap.objs.size := by rw [hs₇.1, hs₆.1, hs₅.1, hs₄.1, hs₃.1, hs₂.1, hs₁.1]
  have hz₅ : IsZip h₇ z TI TO .ellipsis := hs₇.extBut _ _ zTO (hs₆.extBut _ _ zi3 (hs₅.extBut _ _ zTO (hs₄.extBut _ _ zi2 (hs₃.extBut _ _ zTO (hs₂.extBut _ _ zi1 hz₁)))))
  have hk₅ : ∀ c o, c ∉ [z, TO, i1, i2, i3] → s.heap.get? c = some o → h₇.get? c = some o := fun c o hc e =>
    hs₇.extBut _ _ (ne3 hc (by simp)) (hs₆.extBut _ _ (ne3 hc (by simp)) (hs₅.extBut _ _ (ne3 hc (by simp)) (hs₄.extBut _ _ (ne3 hc (by simp)) (hs₃.extBut _ _ (ne3 hc (by simp)) (hs₂.extBut _ _ (ne3 hc (by simp)) (hs₁.extBut _ _ (ne3 hc (by simp)) e))))))
  have h1₅ : Sit h₇ b1 i1 a1 (k + 1) := h1₂.at fun o e => hs₇.extBut _ _ (Ne.symm TOi1) (hs₆.extBut _ _ i13 (hs₅.extBut _ _ (Ne.symm TOi1) (hs₄.extBut _ _ i12 (hs₃.extBut _ _ (Ne.symm TOi1) e))))
  have h2₅ : Sit h₇ b2 i2 a2 (k + 1) := h2₄.at fun o e => hs₇.extBut _ _ (Ne.symm TOi2) (hs₆.extBut _ _ i23 (hs₅.extBut _ _ (Ne.symm TOi2) e))
  have h3₅ : Sit h₇ b3 i3 a3 (k + 1) := h3₆.at fun o e => hs₇.extBut _ _ (Ne.symm TOi3) e
  have hzlt : z < h₇.objs.size := Heap.lt_size hz₅
  have hTOlt : TO < h₇.objs.size := Heap.lt_size hTO₇
  show wpAny _ _ (Builtin.SmallTypes.ownedTupleHandOut (.ref z) (.ref h₇.objs.size) >>= _) _ _ _
  refine wpAny_bind ?_
  unfold Builtin.SmallTypes.ownedTupleHandOut
  have hz₆ : IsZip (h₇.push { cls := .type "tuple", data := .seq #[x, y, u] }) z TI TO .ellipsis := Heap.get?_push_of_some _ hz₅
  refine wpAny_bind (wpAny_setField_rec hz₆ (by simp) fun h₈ hz₈ hs₈ => ?_)
  replace hz₈ : IsZip h₈ z TI TO (rawInt h₇.objs.size) := hz₈
  refine wpAny_setField_rec hz₈ (by simp) fun h₉ hz₉ hs₉ => ?_
  replace hz₉ : IsZip h₉ z TI TO (rawInt h₇.objs.size) := hz₉
  have up : ∀ c o, c ≠ z → h₇.get? c = some o → h₉.get? c = some o := fun c o c1 e => hs₉.extBut _ _ c1 (hs₈.extBut _ _ c1 (Heap.get?_push_of_some _ e))
  have hT₈ : IsTupAt h₉ h₇.objs.size #[x, y, u] := hs₉.extBut _ _ (Nat.ne_of_gt hzlt) (hs₈.extBut _ _ (Nat.ne_of_gt hzlt) (Heap.get?_push_size _ rfl))
  have hz8 : h₉.objs.size = h₇.objs.size + 1 := by rw [hs₉.1, hs₈.1, Heap.size_push]
  rw [hsz] at hz₉ hT₈ hz8
  refine wpAny_pure ⟨_, rfl, ?_⟩
  show Q (.ref h₇.objs.size) _
  rw [hsz]
  exact hQ h₉ hz₉ (up _ _ (Ne.symm zTO) hTO₇) (h1₅.at fun o e => up _ o (Ne.symm zi1) e) (h2₅.at fun o e => up _ o (Ne.symm zi2) e) (h3₅.at fun o e => up _ o (Ne.symm zi3) e) hT₈ hz8 fun c o hc e => up c o (ne3 hc (by simp)) (hk₅ c o hc e)

theorem zip3_end {z TI TO i1 i2 i3 a1 a2 a3 : Addr} {b1 b2 b3 : Bool} {k : Nat} {xs ys us ts : Array Value} {Q : PySem.Fin → Shared → Prop} (hh : A.handled = none)
    (nd : [z, TI, TO, i1, i2, i3].Nodup) (n1 : a1 ∉ [z, TO, i1, i2, i3]) (n2 : a2 ∉ [z, TO, i1, i2, i3]) (n3 : a3 ∉ [z, TO, i1, i2, i3])
    (hz : IsZip s.heap z TI TO .none) (hTI : IsTupAt s.heap TI #[.ref i1, .ref i2, .ref i3]) (hTO : IsTupAt s.heap TO ts) (hts : ts.size = 3)
    (h1 : Sit s.heap b1 i1 a1 k) (h2 : Sit s.heap b2 i2 a2 k) (h3 : Sit s.heap b3 i3 a3 k) (hl1 : Ssq s.heap b1 a1 xs) (hl2 : Ssq s.heap b2 a2 ys) (hl3 : Ssq s.heap b3 a3 us)
    (hend : xs[k]? = none ∨ ys[k]? = none ∨ us[k]? = none)
    (hE : ∀ h' e, (∀ c o, c ∉ [z, TO, i1, i2, i3] → s.heap.get? c = some o → h'.get? c = some o) → (∃ o, h'.get? e = some o ∧ o.cls = .type "StopIteration") → E (.ref e) { s with heap := h' }) :
    wpAny (model prog w) A (Builtin.«zip.__next__» ⟨[.ref z], []⟩) Q E s := by
  simp only [List.nodup_cons, List.mem_cons, List.not_mem_nil, or_false, not_or, List.nodup_nil, and_true, not_false_eq_true] at nd
  obtain ⟨⟨zTI, zTO, zi1, zi2, zi3⟩, ⟨TITO, TIi1, TIi2, TIi3⟩, ⟨TOi1, TOi2, TOi3⟩, ⟨i12, i13⟩, i23⟩ := nd
  simp only [List.mem_cons, List.not_mem_nil, or_false, not_or] at n1 n2 n3
  obtain ⟨a1z, a1T, a1i, a1j, a1k⟩ := n1
  obtain ⟨a2z, a2T, a2i, a2j, a2k⟩ := n2
  obtain ⟨a3z, a3T, a3i, a3j, a3k⟩ := n3
  show wpAny _ _ (field (.ref z) 2 >>= _) _ _ _
  refine wpAny_bind (wpAny_field hz rfl (x := .bool false) rfl ?_)
  show wpAny _ _ (field (.ref z) 3 >>= _) _ _ _
  refine wpAny_bind (wpAny_field hz rfl (x := .ref TI) rfl ?_)
  refine wpAny_bind (wpAny_seqItems hTI rfl ?_)
  show wpAny _ _ (Builtin.SmallTypes.ownedTupleIsFree (.ref z) >>= _) _ _ _
  refine wpAny_bind ?_
  unfold Builtin.SmallTypes.ownedTupleIsFree
  refine wpAny_bind (wpAny_field hz rfl (x := .none) rfl (wpAny_pure ?_))
  simp only [if_true]
  refine wpAny_bind (wpAny_rule ?_)
  refine wpAny_bind (wpAny_field hz rfl (x := .ref TO) rfl ?_)
  refine wpAny_bind (wpAny_setField_rec hz (by simp) fun h₁ hz₁ hs₁ => ?_)
  replace hz₁ : IsZip h₁ z TI TO .ellipsis := hz₁
  refine wpAny_bind ?_
  simp only [List.zipIdx_cons, List.zipIdx_nil, List.forIn_cons, List.forIn_nil]
  refine wpAny_bind (wpAny_bind (wpAny_onRaise ?_))
  show wpAny _ _ (Builtin.SmallTypes.nextOf (.ref i1) >>= _) _ _ _
  have hi1 := h1.at (h' := h₁) fun o e => hs₁.extBut _ _ (Ne.symm zi1) e
  have hL1 := hl1.at (h' := h₁) fun o e => hs₁.extBut _ _ a1z e
  cases hx : xs[k]? with
  | none =>
    refine wpAny_bind (nextS_end hh hi1 hL1 hx fun h₂ e hs₂ he => ?_)
    obtain ⟨oe, hoe, hce⟩ := he
    have hz₂ : IsZip h₂ z TI TO .ellipsis := hs₂ _ _ zi1 hz₁
    have hez : e ≠ z := fun x => by subst x; rw [hz₂] at hoe; cases hoe; simp at hce
    refine wpAny_setField_rec hz₂ (by simp) fun h₃ _ hs₃ => hE h₃ e (fun c o hc x => hs₃.extBut _ _ (ne3 hc (by simp)) (hs₂ _ _ (ne3 hc (by simp)) (hs₁.extBut _ _ (ne3 hc (by simp)) x))) ⟨oe, hs₃.extBut _ _ hez hoe, hce⟩
  | some x =>
    have hyu : ys[k]? = none ∨ us[k]? = none := by rcases hend with h | h; rw [hx] at h; cases h; exact h
    refine wpAny_bind (nextS_item hi1 hL1 hx fun h₂ h1₂ hs₂ => wpAny_pure ?_)
    have hTO₂ : IsTupAt h₂ TO ts := hs₂.extBut _ _ TOi1 (hs₁.extBut _ _ (Ne.symm zTO) hTO)
    refine wpAny_bind (wpAny_seqItems hTO₂ rfl ?_)
    refine wpAny_bind (updateSeq_tup hTO₂ (by omega) fun h₃ hTO₃ hs₃ => ?_)
    refine wpAny_bind (wpAny_letGo (wpAny_pure ?_))
    refine wpAny_bind (wpAny_bind (wpAny_onRaise ?_))
    show wpAny _ _ (Builtin.SmallTypes.nextOf (.ref i2) >>= _) _ _ _
    have hi2 := h2.at (h' := h₃) fun o e => hs₃.extBut _ _ (Ne.symm TOi2) (hs₂.extBut _ _ (Ne.symm i12) (hs₁.extBut _ _ (Ne.symm zi2) e))
    have hL2 := hl2.at (h' := h₃) fun o e => hs₃.extBut _ _ a2T (hs₂.extBut _ _ a2i (hs₁.extBut _ _ a2z e))
    cases hy : ys[k]? with
    | none =>
      refine wpAny_bind (nextS_end hh hi2 hL2 hy fun h₄ e hs₄ he => ?_)
      obtain ⟨oe, hoe, hce⟩ := he
      have hz₄ : IsZip h₄ z TI TO .ellipsis := hs₄ _ _ zi2 (hs₃.extBut _ _ zTO (hs₂.extBut _ _ zi1 hz₁))
      have hez : e ≠ z := fun x => by subst x; rw [hz₄] at hoe; cases hoe; simp at hce
      refine wpAny_setField_rec hz₄ (by simp) fun h₅ _ hs₅ => hE h₅ e (fun c o hc x => hs₅.extBut _ _ (ne3 hc (by simp)) (hs₄ _ _ (ne3 hc (by simp)) (hs₃.extBut _ _ (ne3 hc (by simp)) (hs₂.extBut _ _ (ne3 hc (by simp)) (hs₁.extBut _ _ (ne3 hc (by simp)) x))))) ⟨oe, hs₅.extBut _ _ hez hoe, hce⟩
    | some y =>
      have hu : us[k]? = none := by rcases hyu with h | h; rw [hy] at h; cases h; exact h
      refine wpAny_bind (nextS_item hi2 hL2 hy fun h₄ h2₄ hs₄ => wpAny_pure ?_)
      have hTO₄ := hs₄.extBut _ _ TOi2 hTO₃
      refine wpAny_bind (wpAny_seqItems hTO₄ rfl ?_)
      refine wpAny_bind (updateSeq_tup hTO₄ (by simp; omega) fun h₅ hTO₅ hs₅ => ?_)
      refine wpAny_bind (wpAny_letGo (wpAny_pure ?_))
      refine wpAny_bind (wpAny_bind (wpAny_onRaise ?_))
      show wpAny _ _ (Builtin.SmallTypes.nextOf (.ref i3) >>= _) _ _ _
      refine wpAny_bind (nextS_end hh (h3.at fun o e => hs₅.extBut _ _ (Ne.symm TOi3) (hs₄.extBut _ _ (Ne.symm i23) (hs₃.extBut _ _ (Ne.symm TOi3) (hs₂.extBut _ _ (Ne.symm i13) (hs₁.extBut _ _ (Ne.symm zi3) e)))))
        (hl3.at fun o e => hs₅.extBut _ _ a3T (hs₄.extBut _ _ a3j (hs₃.extBut _ _ a3T (hs₂.extBut _ _ a3i (hs₁.extBut _ _ a3z e))))) hu fun h₆ e hs₆ he => ?_)
      obtain ⟨oe, hoe, hce⟩ := he
      have hz₆ : IsZip h₆ z TI TO .ellipsis := hs₆ _ _ zi3 (hs₅.extBut _ _ zTO (hs₄.extBut _ _ zi2 (hs₃.extBut _ _ zTO (hs₂.extBut _ _ zi1 hz₁))))
      have hez : e ≠ z := fun x => by subst x; rw [hz₆] at hoe; cases hoe; simp at hce
      refine wpAny_setField_rec hz₆ (by simp) fun h₇ _ hs₇ => hE h₇ e (fun c o hc x => hs₇.extBut _ _ (ne3 hc (by simp)) (hs₆ _ _ (ne3 hc (by simp)) (hs₅.extBut _ _ (ne3 hc (by simp)) (hs₄.extBut _ _ (ne3 hc (by simp)) (hs₃.extBut _ _ (ne3 hc (by simp)) (hs₂.extBut _ _ (ne3 hc (by simp)) (hs₁.extBut _ _ (ne3 hc (by simp)) x))))))) ⟨oe, hs₇.extBut _ _ hez hoe, hce⟩

/-! ### the protocol's next -/
theorem pyNext_zip {z TI TO : Addr} {f0 : Value} {Q : Option Value → Shared → Prop} (hz : IsZip s.heap z TI TO f0)
    (h : wpAny (model prog w) A.in1 (Builtin.«zip.__next__» ⟨[.ref z], []⟩) (fun fin s' => ∃ v, fin = .done (.ret v) ∧ Q (some v) s') (fun e s' => ∃ a o, e = .ref a ∧ s'.heap.get? a = some o ∧ o.cls = .type "StopIteration" ∧ Q none s') s) :
    wpAny (model prog w) A (pyNext (.ref z)) Q E s := by
  have hT : s.TypeIs (.ref z) "zip" := ⟨_, hz, rfl⟩
  unfold pyNext
  refine wpAny_bind (wpAny_attempt (wpAny_callSpecial?_slot (name := Str.ofString "__next__") hT F.slot_zip_next
    (wpAny_call_entry F.slot_zip_next hT F.entry_zip_next (wpAny_mono h (fun fin s' hv => ?_) fun e s' he => ?_) (F.args_zip_next_1 _))))
  · obtain ⟨v, rfl, q⟩ := hv
    exact ⟨v, rfl, wpAny_pure q⟩
  · obtain ⟨a, o, rfl, ho, hc, q⟩ := he
    refine wpAny_bind (wpAny_isInstance (T := "StopIteration") (b := true) ⟨o, ho, hc⟩ isSubtype_stop ?_)
    exact wpAny_pure q
/-! ### zip(..) -/
def itObj (b : Bool) (a : Addr) : Obj := { cls := .type (match b with | true => "tuple_iterator" | false => "list_iterator"), data := .fields #[.ref a, .int 0 0] }
theorem pyIterS {b : Bool} {a : Addr} {xs : Array Value} {Q : Value → Shared → Prop} (h : Ssq s.heap b a xs) (hQ : Q (.ref s.heap.objs.size) { s with heap := s.heap.push (itObj b a) }) : wpAny (model prog w) A (pyIter (.ref a)) Q E s := by
  cases b with
  | true => exact wpAny_pyIter_tuple h hQ
  | false => exact wpAny_pyIter_list h hQ
theorem Sit.new {h : Heap} (b : Bool) (a : Addr) : Sit (h.push (itObj b a)) b h.objs.size a 0 := by
  cases b with
  | true => exact ⟨_, Heap.get?_push_size _ rfl, rfl, rfl⟩
  | false => exact ⟨_, Heap.get?_push_size _ rfl, rfl, rfl⟩
end

theorem meets_zip2 (b1 b2 : Bool) (a1 a2 : Addr) (xs ys : Array Value) :
    Meets (Builtin.«zip.__new__» ⟨[.type "zip", .ref a1, .ref a2], []⟩) (fun _ R s => Ssq s.heap b1 a1 xs ∧ Ssq s.heap b2 a2 ys ∧
      ∀ h', IsTupAt h' (s.heap.objs.size + 2) #[.ref s.heap.objs.size, .ref (s.heap.objs.size + 1)] → IsTupAt h' (s.heap.objs.size + 3) #[.none, .none] → IsZip h' (s.heap.objs.size + 4) (s.heap.objs.size + 2) (s.heap.objs.size + 3) .none →
        Sit h' b1 s.heap.objs.size a1 0 → Sit h' b2 (s.heap.objs.size + 1) a2 0 →
        (∀ c o, s.heap.get? c = some o → h'.get? c = some o) → h'.objs.size = s.heap.objs.size + 5 → R (.ok (.ret (.ref (s.heap.objs.size + 4)))) { s with heap := h' }) :=
  .of_wp fun prog w A R s h => by
    obtain ⟨hp, g, d, tk, os⟩ := s; obtain ⟨hl1, hl2, h⟩ := h
    have hsub := sub_zip
    have hL1 : Ssq (Shared.heap ⟨hp, g, d, tk, os⟩) b1 a1 xs := hl1
    have hL2 : Ssq (Shared.heap ⟨hp.push (itObj b1 a1), g, d, tk, os⟩) b2 a2 ys := Ssq.at (h' := hp.push (itObj b1 a1)) hl2 fun o e => Heap.get?_push_of_some _ e
    wp_walk using pyIterS hL1, pyIterS hL2
    refine ⟨_, rfl, ?_⟩
    dsimp only at h ⊢
    generalize e1 : hp.push (itObj b1 a1) = h1
    generalize e2 : h1.push (itObj b2 a2) = h2
    generalize e3 : h2.push _ = h3
    generalize e4 : h3.push _ = h4
    generalize e5 : h4.push _ = h5
    have z1 : h1.objs.size = hp.objs.size + 1 := e1 ▸ Heap.size_push ..
    have z2 : h2.objs.size = hp.objs.size + 2 := by rw [← e2, Heap.size_push, z1]
    have z3 : h3.objs.size = hp.objs.size + 3 := by rw [← e3, Heap.size_push, z2]
    have z4 : h4.objs.size = hp.objs.size + 4 := by rw [← e4, Heap.size_push, z3]
    have z5 : h5.objs.size = hp.objs.size + 5 := by rw [← e5, Heap.size_push, z4]
    have k5 : ∀ c o, h4.get? c = some o → h5.get? c = some o := fun c o e => e5 ▸ Heap.get?_push_of_some _ e
    have k4 : ∀ c o, h3.get? c = some o → h5.get? c = some o := fun c o e => k5 c o (e4 ▸ Heap.get?_push_of_some _ e)
    have k3 : ∀ c o, h2.get? c = some o → h5.get? c = some o := fun c o e => k4 c o (e3 ▸ Heap.get?_push_of_some _ e)
    have k2 : ∀ c o, h1.get? c = some o → h5.get? c = some o := fun c o e => k3 c o (e2 ▸ Heap.get?_push_of_some _ e)
    have g3 := Heap.get?_push_size h2 (o := { cls := .type "tuple", data := .seq #[.ref hp.objs.size, .ref h1.objs.size] }) rfl
    have g4 := Heap.get?_push_size h3 (o := { cls := .type "tuple", data := .seq #[.none, .none] }) rfl
    have g5 := Heap.get?_push_size h4 (o := { cls := .type "zip", data := .fields #[.none, .bool false, .bool false, .ref h2.objs.size, .ref h3.objs.size] }) rfl
    have q3 : h3.get? h2.objs.size = _ := (congrArg (fun h => h.get? h2.objs.size) e3).symm.trans g3
    have q4 : h4.get? h3.objs.size = _ := (congrArg (fun h => h.get? h3.objs.size) e4).symm.trans g4
    have q5 : h5.get? h4.objs.size = _ := (congrArg (fun h => h.get? h4.objs.size) e5).symm.trans g5
    rw [z1, z2] at q3
    rw [z3] at q4
    rw [z2, z3, z4] at q5
    rw [z4]
    refine h h5 (k4 _ _ q3) (k5 _ _ q4) q5 (Sit.at (Sit.new (h := hp) b1 a1) fun o e => k2 _ _ (e1 ▸ e)) ?_ (fun c o e => k2 _ _ (e1 ▸ Heap.get?_push_of_some _ e)) z5
    rw [← z1]
    exact Sit.at (Sit.new (h := h1) b2 a2) fun o e => k3 _ _ (e2 ▸ e)
theorem meets_zip3 (b1 b2 b3 : Bool) (a1 a2 a3 : Addr) (xs ys us : Array Value) :
    Meets (Builtin.«zip.__new__» ⟨[.type "zip", .ref a1, .ref a2, .ref a3], []⟩) (fun _ R s => Ssq s.heap b1 a1 xs ∧ Ssq s.heap b2 a2 ys ∧ Ssq s.heap b3 a3 us ∧
      ∀ h', IsTupAt h' (s.heap.objs.size + 3) #[.ref s.heap.objs.size, .ref (s.heap.objs.size + 1), .ref (s.heap.objs.size + 2)] → IsTupAt h' (s.heap.objs.size + 4) #[.none, .none, .none] →
        IsZip h' (s.heap.objs.size + 5) (s.heap.objs.size + 3) (s.heap.objs.size + 4) .none →
        Sit h' b1 s.heap.objs.size a1 0 → Sit h' b2 (s.heap.objs.size + 1) a2 0 → Sit h' b3 (s.heap.objs.size + 2) a3 0 →
        (∀ c o, s.heap.get? c = some o → h'.get? c = some o) → h'.objs.size = s.heap.objs.size + 6 → R (.ok (.ret (.ref (s.heap.objs.size + 5)))) { s with heap := h' }) :=
  .of_wp fun prog w A R s h => by
    obtain ⟨hp, g, d, tk, os⟩ := s; obtain ⟨hl1, hl2, hl3, h⟩ := h
    have hsub := sub_zip
    have hL1 : Ssq (Shared.heap ⟨hp, g, d, tk, os⟩) b1 a1 xs := hl1
    have hL2 : Ssq (Shared.heap ⟨hp.push (itObj b1 a1), g, d, tk, os⟩) b2 a2 ys := Ssq.at (h' := hp.push (itObj b1 a1)) hl2 fun o e => Heap.get?_push_of_some _ e
    have hL3 : Ssq (Shared.heap ⟨(hp.push (itObj b1 a1)).push (itObj b2 a2), g, d, tk, os⟩) b3 a3 us := Ssq.at (h' := (hp.push (itObj b1 a1)).push (itObj b2 a2)) hl3 fun o e => Heap.get?_push_of_some _ (Heap.get?_push_of_some _ e)
    wp_walk using pyIterS hL1, pyIterS hL2, pyIterS hL3
    refine ⟨_, rfl, ?_⟩
    dsimp only at h ⊢
    generalize e1 : hp.push (itObj b1 a1) = h1
    generalize e2 : h1.push (itObj b2 a2) = h2
    generalize e2b : h2.push (itObj b3 a3) = h2b
    generalize e3 : h2b.push _ = h3
    generalize e4 : h3.push _ = h4
    generalize e5 : h4.push _ = h5
    have z1 : h1.objs.size = hp.objs.size + 1 := e1 ▸ Heap.size_push ..
    have z2 : h2.objs.size = hp.objs.size + 2 := by rw [← e2, Heap.size_push, z1]
    have z2b : h2b.objs.size = hp.objs.size + 3 := by rw [← e2b, Heap.size_push, z2]
    have z3 : h3.objs.size = hp.objs.size + 4 := by rw [← e3, Heap.size_push, z2b]
    have z4 : h4.objs.size = hp.objs.size + 5 := by rw [← e4, Heap.size_push, z3]
    have z5 : h5.objs.size = hp.objs.size + 6 := by rw [← e5, Heap.size_push, z4]
    have k5 : ∀ c o, h4.get? c = some o → h5.get? c = some o := fun c o e => e5 ▸ Heap.get?_push_of_some _ e
    have k4 : ∀ c o, h3.get? c = some o → h5.get? c = some o := fun c o e => k5 c o (e4 ▸ Heap.get?_push_of_some _ e)
    have k3 : ∀ c o, h2b.get? c = some o → h5.get? c = some o := fun c o e => k4 c o (e3 ▸ Heap.get?_push_of_some _ e)
    have k2b : ∀ c o, h2.get? c = some o → h5.get? c = some o := fun c o e => k3 c o (e2b ▸ Heap.get?_push_of_some _ e)
    have k2 : ∀ c o, h1.get? c = some o → h5.get? c = some o := fun c o e => k2b c o (e2 ▸ Heap.get?_push_of_some _ e)
    have g3 := Heap.get?_push_size h2b (o := { cls := .type "tuple", data := .seq #[.ref hp.objs.size, .ref h1.objs.size, .ref h2.objs.size] }) rfl
    have g4 := Heap.get?_push_size h3 (o := { cls := .type "tuple", data := .seq #[.none, .none, .none] }) rfl
    have g5 := Heap.get?_push_size h4 (o := { cls := .type "zip", data := .fields #[.none, .bool false, .bool false, .ref h2b.objs.size, .ref h3.objs.size] }) rfl
    have q3 : h3.get? h2b.objs.size = _ := (congrArg (fun h => h.get? h2b.objs.size) e3).symm.trans g3
    have q4 : h4.get? h3.objs.size = _ := (congrArg (fun h => h.get? h3.objs.size) e4).symm.trans g4
    have q5 : h5.get? h4.objs.size = _ := (congrArg (fun h => h.get? h4.objs.size) e5).symm.trans g5
    rw [z1, z2, z2b] at q3
    rw [z3] at q4
    rw [z2b, z3, z4] at q5
    rw [z4]
    refine h h5 (k4 _ _ q3) (k5 _ _ q4) q5 (Sit.at (Sit.new (h := hp) b1 a1) fun o e => k2 _ _ (e1 ▸ e)) ?_ ?_ (fun c o e => k2 _ _ (e1 ▸ Heap.get?_push_of_some _ e)) z5
    · rw [← z1]
      exact Sit.at (Sit.new (h := h1) b2 a2) fun o e => k2b _ _ (e2 ▸ e)
    · rw [← z2]
      exact Sit.at (Sit.new (h := h2) b3 a3) fun o e => k3 _ _ (e2b ▸ e)
theorem typeCall_zip_3 (a b c : Value) : checkTypeCall "zip" ⟨[a, b, c], []⟩ = pure () := by kernel_rfl
theorem newCall_zip_3 (a b c : Value) : checkBuiltinCall "zip.__new__" ⟨[.type "zip", a, b, c], []⟩ = pure () := by kernel_rfl
theorem args_object_init_4 (a b c d : Value) : argsOk "object.__init__" ⟨[a, b, c, d], []⟩ := by
  unfold argsOk; rw [signature?_of (id := "object.__init__") (n := ['_', '_', 't', 'i', 'n', 'i', '_', '_']) (o := ['t', 'c', 'e', 'j', 'b', 'o']) (by kernel_rfl) F.owner_object]; kernel_rfl
section
variable {prog : Program} {w : World} {A : Around} {E : Value → Shared → Prop} {s : Shared}
theorem call_zip2S {b1 b2 : Bool} {a1 a2 : Addr} {xs ys : Array Value} {Q : Value → Shared → Prop} (hl1 : Ssq s.heap b1 a1 xs) (hl2 : Ssq s.heap b2 a2 ys)
    (h : ∀ h', IsTupAt h' (s.heap.objs.size + 2) #[.ref s.heap.objs.size, .ref (s.heap.objs.size + 1)] → IsTupAt h' (s.heap.objs.size + 3) #[.none, .none] → IsZip h' (s.heap.objs.size + 4) (s.heap.objs.size + 2) (s.heap.objs.size + 3) .none →
        Sit h' b1 s.heap.objs.size a1 0 → Sit h' b2 (s.heap.objs.size + 1) a2 0 →
        (∀ c o, s.heap.get? c = some o → h'.get? c = some o) → h'.objs.size = s.heap.objs.size + 5 → Q (.ref (s.heap.objs.size + 4)) { s with heap := h' }) :
    wpAny (model prog w) A (call (.type "zip") [.ref a1, .ref a2]) Q E s := by
  refine callType_new F.called_zip (by decide) (F.typeCall_zip_2 _ _) (F.newCall_zip_2 _ _) (fun obj => F.args_object_init_3 obj _ _) F.entry_zip_new
    (meets_zip2 b1 b2 a1 a2 xs ys) ⟨hl1, hl2, fun h' x1 x2 x3 x4 x5 x6 x7 => ?_⟩
  exact ⟨⟨_, x3, rfl⟩, h h' x1 x2 x3 x4 x5 x6 x7⟩
theorem call_zip3S {b1 b2 b3 : Bool} {a1 a2 a3 : Addr} {xs ys us : Array Value} {Q : Value → Shared → Prop} (hl1 : Ssq s.heap b1 a1 xs) (hl2 : Ssq s.heap b2 a2 ys) (hl3 : Ssq s.heap b3 a3 us)
    (h : ∀ h', IsTupAt h' (s.heap.objs.size + 3) #[.ref s.heap.objs.size, .ref (s.heap.objs.size + 1), .ref (s.heap.objs.size + 2)] → IsTupAt h' (s.heap.objs.size + 4) #[.none, .none, .none] →
        IsZip h' (s.heap.objs.size + 5) (s.heap.objs.size + 3) (s.heap.objs.size + 4) .none →
        Sit h' b1 s.heap.objs.size a1 0 → Sit h' b2 (s.heap.objs.size + 1) a2 0 → Sit h' b3 (s.heap.objs.size + 2) a3 0 →
        (∀ c o, s.heap.get? c = some o → h'.get? c = some o) → h'.objs.size = s.heap.objs.size + 6 → Q (.ref (s.heap.objs.size + 5)) { s with heap := h' }) :
    wpAny (model prog w) A (call (.type "zip") [.ref a1, .ref a2, .ref a3]) Q E s := by
  refine callType_new F.called_zip (by decide) (typeCall_zip_3 _ _ _) (newCall_zip_3 _ _ _) (fun obj => args_object_init_4 obj _ _ _) F.entry_zip_new
    (meets_zip3 b1 b2 b3 a1 a2 a3 xs ys us) ⟨hl1, hl2, hl3, fun h' x1 x2 x3 x4 x5 x6 x7 x8 => ?_⟩
  exact ⟨⟨_, x3, rfl⟩, h h' x1 x2 x3 x4 x5 x6 x7 x8⟩
end
end CT

set_option Elab.async false
set_option linter.all false
set_option maxRecDepth 100000
/-! (v,) * k -/
namespace CT
open PySem PySem.Builtin
theorem noFill_tuple_mul : fillsNumberSlot (.type "tuple") "mul" = pure false :=
  fillsNumberSlot_seq (id := "tuple.__mul__") (r := some (.builtin "tuple.__rmul__")) F.slot_tuple_mul.lookup (by decide +kernel) F.slot_tuple_rmul.lookup (by decide +kernel)
theorem repeat_tuple : seqRepeat? (.type "tuple") = pure (some (.builtin "tuple.__mul__")) := by
  unfold seqRepeat?
  rw [seqSlot_of (T := "tuple") (name := "__mul__") (id := "tuple.__mul__") F.slot_tuple_mul.lookup (by decide +kernel), seqSlot_of (T := "tuple") (name := "__rmul__") (id := "tuple.__rmul__") F.slot_tuple_rmul.lookup (by decide +kernel)]
  rfl
theorem rmul_int_tuple (a : Int) (t : Tok) (l : Addr) (d : Option Addr) (its : Array Value) (n : Nat) (sl : Array (Option Value)) :
    Meets (Builtin.«int.__rmul__» ⟨[.int a t, .ref l], []⟩) (fun _ R s => s.heap.get? l = some { cls := .type "tuple", dict := d, data := .seq its n, slots := sl } ∧ R (.ok (.ret Value.notImplemented)) s) :=
  .of_wp fun prog w A R s h => by obtain ⟨hp, g, d, tk, os⟩ := s; obtain ⟨hl, h⟩ := h; wp_walk; exact ⟨_, rfl, h⟩

theorem mul_one_tuple (l : Addr) (d : Option Addr) (v : Value) (n : Nat) (sl : Array (Option Value)) (k : Int) (u : Tok) (h0 : 0 ≤ k) (h1 : k < 2 ^ 20) :
    Meets (Builtin.«tuple.__mul__» ⟨[.ref l, .int k u], []⟩) (fun _ R s => s.heap.get? l = some { cls := .type "tuple", dict := d, data := .seq #[v] n, slots := sl } ∧
      if k = 1 then R (.ok (.ret (.ref l))) s else R (.ok (.ret (.ref s.heap.objs.size))) { s with heap := s.heap.push { cls := .type "tuple", data := .seq (List.replicate k.toNat v).toArray } }) :=
  .of_wp fun prog w A R s h => by
    obtain ⟨hp, g, dd, tk, os⟩ := s; obtain ⟨hl, h⟩ := h
    wp_walk
    refine wpAny_ite_false (by simp; omega) ?_
    wp_walk
    by_cases k1 : k = 1
    · subst k1
      rw [if_pos rfl] at h
      wp_walk
      exact ⟨_, rfl, h⟩
    · rw [if_neg k1] at h
      by_cases k0 : k = 0
      · subst k0
        wp_walk
        exact ⟨_, rfl, h⟩
      · have e : List.foldl (fun x1 x2 => x1 ++ x2) #[] (List.replicate k.toNat #[v]) = (List.replicate k.toNat v).toArray := by
          have f : ∀ (m : Nat) (acc : List Value), List.foldl (fun x1 x2 => x1 ++ x2) acc.toArray (List.replicate m #[v]) = (acc ++ List.replicate m v).toArray := by
            intro m
            induction m with
            | zero => intro acc; simp
            | succ m ih =>
              intro acc
              rw [List.replicate_succ, List.foldl_cons, show acc.toArray ++ #[v] = (acc ++ [v]).toArray by simp, ih, List.replicate_succ]
              simp
          have := f k.toNat []
          rw [List.nil_append] at this
          exact this
        wp_walk
        refine wpAny_ite_false (by simp; omega) ?_
        refine wpAny_ite_false (by simp; omega) ?_
        refine wpAny_ite_false (by simp [Tuple.tupleTooMany, sizeLine]; omega) ?_
        rw [e]
        wp_walk
        refine wpAny_ite_false (by simp [sizeLine]; omega) ?_
        wp_walk
        exact ⟨_, rfl, h⟩
end CT

set_option Elab.async false
set_option linter.all false
set_option maxRecDepth 100000
/-! a list comprehension in the hand layer: one clause or several, tests, own cells, captured names -/
namespace CT
open PySem PySem.Spec L2
open PyProof.Rows hiding St

/-- the block's environment; n0: the heap's size when the iterator had come -/
def cEnv (X : Cx) (scope : Scope) (n0 : Nat) : Env :=
  { scope := relabel scope X.env, locals := n0 + 1, globals := X.env.globals, cells := cellsFrom (n0 + 2) scope.names (clOf X.env scope.names []), qual := X.env.qual, func := none, code := X.env.code, frame := X.env.frame, builtins := X.env.builtins }

/-- what the scope must be. own: the block's names; cap: the captured ones with their slots outside -/
structure CS (X : Cx) (scope : Scope) (own : List Str) (cap : List (Str × Nat)) : Prop where
  kind : scope.kind = .function
  nd : (scope.names.map (·.1)).Nodup
  fr : ∀ x ∈ scope.names, x.2 = .free → X.env.kindOf x.1 = some .cell ∨ X.env.kindOf x.1 = some .free
  own_ : ∀ x ∈ own, (x, NameKind.local) ∈ scope.names ∨ (x, NameKind.cell) ∈ scope.names
  cap_ : ∀ p ∈ cap, X.N[p.2]? = some p.1 ∧ (p.1, NameKind.free) ∈ scope.names
  nN : (own ++ cap.map (·.1)).Nodup

/-- the context of the block -/
def cX (X : Cx) (scope : Scope) (own : List Str) (cap : List (Str × Nat)) (pins : List (Addr × Obj)) (s₂ : Shared) (H₂ : Hp) (fp : List Addr) : Cx :=
  { prog := X.prog, w := X.w, K := X.K, mg := X.mg, base := X.base, A := X.A, N := own ++ cap.map (·.1), s₀ := s₂, H₀ := H₂, env := cEnv X scope s₂.heap.objs.size, outer := X.stack, stack := X.stack, ex := fp,
    fn := fun x => decide (x ∈ own), calm := X.calm, pn := X.pn ++ pins, xe := fun _ _ => False }
/-- the slots at the start -/
def cS (own : List Str) (cap : List (Str × Nat)) (σ : St) : St := own.map (fun _ => none) ++ cap.map fun p => (σ[p.2]?).join

section
variable {X : Cx} {scope : Scope} {own : List Str} {cap : List (Str × Nat)} {pins : List (Addr × Obj)} {σ : St} {H : Hp} {s : Shared} {fp : List Addr}

theorem CS.lk (cs : CS X scope own cap) {x : Str} {k : NameKind} (h : (x, k) ∈ scope.names) : scope.names.lookup x = some k := lookup_of_mem cs.nd h
theorem CS.uniq (cs : CS X scope own cap) {x : Str} {k k' : NameKind} (h : (x, k) ∈ scope.names) (h' : (x, k') ∈ scope.names) : k = k' := Option.some.inj ((cs.lk h).symm.trans (cs.lk h'))
theorem cEnv_lookup {n0 : Nat} {x : Str} : (cEnv X scope n0).scope.names.lookup x = (scope.names.lookup x).map (kin X.env x) := relabel_lookup
theorem cEnv_kindOf {n0 : Nat} {x : Str} : (cEnv X scope n0).kindOf x = (scope.names.lookup x).map (kin X.env x) := relabel_lookup

theorem cellsFrom_ge {x : Str} {c : Addr} : ∀ {names : List (Str × NameKind)} {n : Nat} {acc : List (Str × Addr)}, (x, c) ∈ cellsFrom n names acc → (x, c) ∈ acc ∨ n ≤ c
  | [], _, _, h => .inl h
  | (m, k) :: r, n, acc, h => by
    unfold cellsFrom at h
    split at h
    · rcases cellsFrom_ge h with h | h
      · rcases List.mem_cons.mp h with e | h
        · cases e; exact .inr (Nat.le_refl _)
        · exact .inl h
      · exact .inr (Nat.le_of_succ_le h)
    · exact cellsFrom_ge h

theorem CS.has_ (cs : CS X scope own cap) (ok : X.Ok) : ∀ x ∈ scope.names, x.2 = .free → ∃ c, X.env.cells.lookup x.1 = some c := fun x hx e => ok.has x.1 (cs.fr x hx e)
/-- the block's cells -/
theorem CS.cell_cases (cs : CS X scope own cap) (ok : X.Ok) {n0 : Nat} {x : Str} {c : Addr} (h : (cEnv X scope n0).cells.lookup x = some c) :
    ((x, NameKind.cell) ∈ scope.names ∧ n0 + 2 ≤ c ∧ (x, c) ∈ cellsFrom (n0 + 2) scope.names []) ∨ ((x, NameKind.free) ∈ scope.names ∧ X.env.cells.lookup x = some c) := by
  have hm : (x, c) ∈ cellsFrom (n0 + 2) scope.names (clOf X.env scope.names []) := mem_of_lookup h
  rw [cellsFrom_app] at hm
  rcases List.mem_append.mp hm with hm | hm
  · refine .inl ⟨?_, ?_, hm⟩
    · rcases cellsFrom_mem hm with z | z
      · cases z
      · exact z
    · rcases cellsFrom_ge hm with z | z
      · cases z
      · exact z
  · rcases clOf_mem (cs.has_ ok) hm with z | ⟨z1, z2⟩
    · cases z
    · exact .inr ⟨z2, z1⟩
theorem CS.cap_cell (cs : CS X scope own cap) (ok : X.Ok) {n0 : Nat} {x : Str} {c : Addr} (hx : (x, NameKind.free) ∈ scope.names) (hc : X.env.cells.lookup x = some c) : (cEnv X scope n0).cells.lookup x = some c := by
  have hm : (x, c) ∈ cellsFrom (n0 + 2) scope.names (clOf X.env scope.names []) := by
    rw [cellsFrom_app]
    exact List.mem_append_right _ (clOf_has hc hx)
  obtain ⟨u, hu⟩ := some_of_mem hm
  have hu' : (cEnv X scope n0).cells.lookup x = some u := hu
  rcases cs.cell_cases ok hu' with ⟨z, _⟩ | ⟨_, z⟩
  · cases cs.uniq hx z
  · rw [hc] at z; cases z; exact hu'
theorem CS.own_cell (cs : CS X scope own cap) {n0 : Nat} {x : Str} (hx : (x, NameKind.cell) ∈ scope.names) : ∃ c, (cEnv X scope n0).cells.lookup x = some c := by
  obtain ⟨c, hc⟩ := cellsFrom_has (n := n0 + 2) (acc := clOf X.env scope.names []) hx
  exact some_of_mem hc

theorem cX_ok (I : Inv X pins σ H s) (cs : CS X scope own cap) (hf : ∀ b ∈ fp, FpOk X pins H b) (hlt : ∀ b ∈ fp, b < s.heap.objs.size) : (cX X scope own cap pins s H fp).Ok where
  mod := I.ok.mod
  kind := cs.kind
  glob := I.ok.glob
  blt := I.ok.blt
  above := Nat.le_succ _
  inj := fun x y c h1 h2 => by
    rcases cs.cell_cases I.ok h1 with ⟨a1, a2, a3⟩ | ⟨a1, a2⟩ <;> rcases cs.cell_cases I.ok h2 with ⟨b1, b2, b3⟩ | ⟨b1, b2⟩
    · have k := cellsFrom_ok scope.names ((s.heap.push { cls := .type "list", data := .seq #[] 0 }).push { cls := .type "list", data := .seq #[] 0 }) 0 [] ⟨fun _ _ hm => (nomatch hm), List.Pairwise.nil⟩ (Nat.zero_le _)
      rw [Heap.size_push, Heap.size_push] at k
      exact name_of_addr k.apart a3 b3
    · obtain ⟨v, hv⟩ := I.cell y c b2
      exact absurd (Nat.lt_of_lt_of_le hv.lt (Nat.le_trans (Nat.le_add_right _ 2) a2)) (Nat.lt_irrefl _)
    · obtain ⟨v, hv⟩ := I.cell x c a2
      exact absurd (Nat.lt_of_lt_of_le hv.lt (Nat.le_trans (Nat.le_add_right _ 2) b2)) (Nat.lt_irrefl _)
    · exact I.ok.inj x y c a2 b2
  has := fun x hx => by
    have e : (cEnv X scope s.heap.objs.size).kindOf x = (scope.names.lookup x).map (kin X.env x) := cEnv_kindOf
    have hx' : (scope.names.lookup x).map (kin X.env x) = some .cell ∨ (scope.names.lookup x).map (kin X.env x) = some .free := by rw [← e]; exact hx
    cases hk : scope.names.lookup x with
    | none => rw [hk] at hx'; rcases hx' with z | z <;> cases z
    | some k =>
      rw [hk] at hx'
      have hm := mem_of_lookup hk
      by_cases hfree : k = .free
      · subst hfree
        obtain ⟨c, hc⟩ := cs.has_ I.ok _ hm rfl
        exact ⟨c, cs.cap_cell I.ok hm hc⟩
      · have hkk : kin X.env x k = k := by
          unfold kin
          rw [if_neg]
          intro z
          have : (k == NameKind.free) = false := by simpa using hfree
          rw [this] at z; cases z
        have hk' : k = .cell := by
          rcases hx' with z | z
          · have z' : some (kin X.env x k) = some NameKind.cell := z
            rw [hkk] at z'; exact Option.some.inj z'
          · have z' : some (kin X.env x k) = some NameKind.free := z
            rw [hkk] at z'; exact absurd (Option.some.inj z') hfree
        subst hk'
        exact cs.own_cell hm
  cab := fun x c hx hc => by
    have hx' : x ∈ own := of_decide_eq_true hx
    rcases cs.cell_cases I.ok hc with ⟨_, a, _⟩ | ⟨a, _⟩
    · exact Nat.le_trans (Nat.le_add_right _ 2) a
    · rcases cs.own_ x hx' with z | z <;> cases cs.uniq a z
  hd := I.ok.hd
  frames := I.ok.frames
  stk := .inl rfl
  exf := fun b hb => ⟨Nat.ne_of_lt (Nat.lt_succ_of_lt (hlt b hb)), fun x c hc => by
    rcases cs.cell_cases I.ok hc with ⟨_, a, _⟩ | ⟨_, a⟩
    · exact Nat.ne_of_gt (Nat.lt_of_lt_of_le (hlt b hb) (Nat.le_trans (Nat.le_add_right _ 2) a))
    · exact (hf b hb).2.2.2.2.1 x c a⟩
  bs := fun b o e => I.bs b o e
  bsz := Nat.le_trans I.ok.bsz I.sz
  noex := fun b o e hb => by
    rcases (hf b hb).2.2.2.1 with z | z
    · exact I.ok.noex b o e z
    · exact absurd (Nat.lt_of_lt_of_le (Heap.lt_size e) (Nat.le_trans I.ok.bsz z)) (Nat.lt_irrefl _)
  exfs := fun b hb z => by
    rcases List.mem_cons.mp (I.stkSub b z) with z | z
    · exact (hf b hb).2.1 z
    · exact (hf b hb).2.2.1 z
  funs := I.stack
  frf := I.stkFree

theorem kin_free {env : Env} {x : Str} (h : env.kindOf x = some .cell ∨ env.kindOf x = some .free) : kin env x .free = .cell ∨ kin env x .free = .free := by
  unfold kin; split
  · exact .inl rfl
  · exact .inr rfl

/-- the block begins -/
theorem cX_start (I : Inv X pins σ H s) (cs : CS X scope own cap) (hf : ∀ b ∈ fp, FpOk X pins H b) (hlt : ∀ b ∈ fp, b < s.heap.objs.size) {o : Obj} (hof : o.isFreed = false) :
    Inv (cX X scope own cap pins s H fp) [] (cS own cap σ) H { s with heap := pushCells ((s.heap.push o).push { cls := .type "dict", data := .dict #[] }) scope.names } := by
  have kp : ∀ b u, s.heap.get? b = some u → (pushCells ((s.heap.push o).push { cls := .type "dict", data := .dict #[] }) scope.names).get? b = some u := fun b u e => pushCells_keeps _ _ b u (Heap.get?_push_of_some _ (Heap.get?_push_of_some _ e))
  have ck := cellsFrom_ok scope.names ((s.heap.push o).push { cls := .type "dict", data := .dict #[] }) 0 [] ⟨fun _ _ hm => (nomatch hm), List.Pairwise.nil⟩ (Nat.zero_le _)
  rw [Heap.size_push, Heap.size_push] at ck
  refine ⟨cX_ok I cs hf hlt, rfl, I.bare, Un.kept kp, ?_, ?_, I.hok.fresh (Nat.le_succ _), ?_, ?_, I.hok.kept kp, ?_⟩
  · refine ⟨fun _ => none, ?_, fun i x v e1 e2 e3 => ?_⟩
    · have n := Heap.Ns.new (s.heap.push o) (.type "dict")
      rw [Heap.size_push] at n
      exact n.keeps (pushCells_keeps _ _)
    · have e1' : (own ++ cap.map (·.1))[i]? = some x := e1
      have e2' : (own.map (fun _ => (none : Option V)) ++ cap.map fun p => (σ[p.2]?).join)[i]? = some (some v) := e2
      by_cases hi : i < own.length
      · rw [List.getElem?_append_left (by simpa using hi), List.getElem?_map] at e2'
        cases hq : own[i]? with
        | none => rw [hq] at e2'; cases e2'
        | some y => rw [hq] at e2'; cases e2'
      · have hi' : own.length ≤ i := Nat.le_of_not_lt hi
        rw [List.getElem?_append_right hi', List.getElem?_map] at e1'
        rw [List.getElem?_append_right (by simpa using hi'), List.getElem?_map, List.length_map] at e2'
        cases hq : cap[i - own.length]? with
        | none => rw [hq] at e1'; cases e1'
        | some p =>
          rw [hq] at e1' e2'
          have e1'' : p.1 = x := Option.some.inj e1'
          have e2'' : (σ[p.2]?).join = some v := Option.some.inj e2'
          subst e1''
          have e2s : σ[p.2]? = some (some v) := by
            cases hs : σ[p.2]? with
            | none => rw [hs] at e2''; cases e2''
            | some y => rw [hs] at e2''; rw [show y = some v from e2'']
          obtain ⟨hN, hfree⟩ := cs.cap_ p (List.mem_of_getElem? hq)
          have hkk := cs.fr _ hfree rfl
          have vis : Vis X.env.scope p.1 := hkk.elim (fun z => .inr (.inl z)) fun z => .inr (.inr z)
          obtain ⟨m, hn, hl⟩ := I.loc
          obtain ⟨u, r, l⟩ := hl p.2 p.1 v hN e2s vis
          refine ⟨u, r, .inr ⟨?_, ?_⟩⟩
          · have e : (cEnv X scope s.heap.objs.size).kindOf p.1 = (scope.names.lookup p.1).map (kin X.env p.1) := cEnv_kindOf
            rw [cs.lk hfree] at e
            rcases kin_free hkk with z | z
            · exact .inl (e.trans (congrArg some z))
            · exact .inr (e.trans (congrArg some z))
          · rcases l with ⟨lk, _⟩ | ⟨_, c, hc, hcell⟩
            · rcases hkk with z | z <;> (rw [z] at lk; cases lk)
            · exact ⟨c, cs.cap_cell I.ok hfree hc, hcell.keeps kp⟩
  · intro x c hc
    rcases cs.cell_cases I.ok hc with ⟨_, _, a⟩ | ⟨_, a⟩
    · exact ⟨_, (ck.empty x c a).1⟩
    · obtain ⟨v, hv⟩ := I.cell x c a
      exact ⟨v, hv.keeps kp⟩
  · intro x c hc
    rcases cs.cell_cases I.ok hc with ⟨_, a, _⟩ | ⟨_, a⟩
    · exact I.hok.fresh (Nat.le_trans (Nat.le_add_right _ 2) a)
    · exact I.freeC x c a
  · intro p hp
    have hp' : p ∈ X.pn ++ pins := by simpa [cX] using hp
    obtain ⟨e, n, ne, nf, d⟩ := I.pin p hp'
    refine ⟨kp _ _ e, n, Nat.ne_of_lt (Nat.lt_succ_of_lt (Heap.lt_size e)), fun z => ?_, d⟩
    rcases List.mem_cons.mp (I.stkSub p.1 z) with z | z
    · exact ne z
    · exact nf z
  · simp [cX, cS]

/-! ### what is gathered -/
/-- the list that is built: untracked, ours -/
def Acc (h : Heap) (acc : Addr) (ys : List V) : Prop := ∃ its : List Value, Vals ys its ∧ h.PlainList acc its.toArray
theorem Acc.at {h h' : Heap} {acc : Addr} {ys : List V} (x : Acc h acc ys) (k : ∀ o, h.get? acc = some o → h'.get? acc = some o) : Acc h' acc ys := let ⟨its, r, p⟩ := x; ⟨its, r, p.at k⟩
theorem Acc.obj {h : Heap} {acc : Addr} {ys : List V} (x : Acc h acc ys) : ∃ o, h.get? acc = some o ∧ ∀ v, o.data ≠ .cell v := by
  obtain ⟨its, r, n, e⟩ := x
  exact ⟨_, e, fun v z => by
    have z' : Data.seq _ _ = Data.cell v := z
    cases z'⟩
end

/-- the inside of a turn: from what was gathered to what is gathered then -/
abbrev TB := St → Hp → List V → (List V → Hp → Prop) → Prop
def PB (Y : Cx) (acc : Addr) (m : Sem Unit) (t : TB) : Prop :=
  ∀ (pins : List (Addr × Obj)) (s : Shared) (σ : St) (H : Hp) (ys : List V) (Q : List V → Hp → Prop), Inv Y pins σ H s → FpOk Y pins H acc → Acc s.heap acc ys → t σ H ys Q →
    wpAny (model Y.prog Y.w) Y.A m (fun _ s' => ∃ ys' H', Inv Y pins σ H' s' ∧ H' acc = none ∧ Acc s'.heap acc ys' ∧ Q ys' H') Y.xe s
/-- the tests of a clause -/
def PTs (Y : Cx) (ifs : List Expr) (t : TT) : Prop :=
  ∀ (pins : List (Addr × Obj)) (s : Shared) (σ : St) (H : Hp) (Q : Bool → Hp → Prop), Inv Y pins σ H s → t σ H Q →
    wpAny (model Y.prog Y.w) Y.A (forIn ifs true fun c r => if r = true then do let ok ← isTrue c Y.env (eval c Y.env); pure (ForInStep.yield ok) else pure (ForInStep.yield r)) (TP Y pins σ Q) Y.xe s
def tTrue : TT := fun _ H Q => Q true H

theorem mem1 {P : Addr → Prop} {a : Addr} (h : P a) : ∀ b ∈ [a], P b := fun b hb => by
  have e : b = a := by simpa using hb
  rw [e]; exact h
section
variable {Y : Cx} {acc : Addr}
theorem pts_nil : PTs Y [] tTrue := fun _ _ _ H _ I h => wpAny_pure ⟨H, I, h⟩
theorem pts_one {c : Expr} {t : TT} (h : PT Y c t) : PTs Y [c] t := fun pins s σ H Q I hw => by
  simp only [List.forIn_cons, List.forIn_nil, if_true]
  exact wpAny_bind (wpAny_bind (thn (h pins s σ H Q I hw) fun b s' hb => wpAny_pure (wpAny_pure hb)))

def tEmit (te : TE) : TB := fun σ H ys Q => ys.length ≤ sizeLine ∧ te σ H fun v H1 => Q (ys ++ [v]) H1
theorem pb_emit {elt : Expr} {te : TE} (he : PE Y elt te) : PB Y acc (do let _ ← call (.builtin "list.append") [.ref acc, ← eval elt Y.env]) (tEmit te) := by
  intro pins s σ H ys Q I hf ha h
  obtain ⟨hz, h⟩ := h
  have I1 := I.pinned (fp := [acc]) (mem1 hf) (mem1 ha.obj)
  refine wpAny_bind (thn (he _ s σ H _ I1 h) fun u s1 ⟨v, H1, I2, r, q⟩ => ?_)
  obtain ⟨o, eo, _⟩ := ha.obj
  have pin := I2.pin (acc, o) (List.mem_append_right _ (List.mem_append_right _ (mem_pinsAt (by simp) eo)))
  have ha1 : Acc s1.heap acc ys := ha.at fun o' e' => by rw [eo] at e'; cases e'; exact pin.1
  obtain ⟨its, rv, pl⟩ := ha1
  obtain ⟨f0, f1, f2, f3, f4, f5⟩ := hf
  refine wpAny_bind (wpAny_list_append_plain pl (fun h' pl' sb => wpAny_pure ?_) ?_)
  · have I3 : Inv Y pins σ H1 { s1 with heap := h' } := I2.unpinned.turned (t' := s1.toks) (fun b o hb e => (sb.2 b hb).trans e) pin.2.1 f1 f3 f4 f5
    exact ⟨ys ++ [v], H1, I3, pin.2.1, ⟨its ++ [u], rv.append (.cons r .nil), by simpa using pl'⟩, q⟩
  · have := rv.length
    simp only [List.size_toArray]
    omega

/-! ### the loop -/
/-- nothing known is lost -/
def Fgt (σ σ' : St) : Prop := σ.length = σ'.length ∧ ∀ (i : Nat) v, σ[i]? = some (some v) → σ'[i]? = some (some v)
theorem Fgt.refl {σ : St} : Fgt σ σ := ⟨rfl, fun _ _ e => e⟩
theorem Fgt.set {σ σ' : St} {i : Nat} {v : V} (f : Fgt σ σ') (h : σ[i]? = some none) : Fgt σ (σ'.set i (some v)) := ⟨by simpa using f.1, fun j u e => by
  by_cases hj : i = j
  · subst hj; rw [h] at e; cases e
  · rw [List.getElem?_set_ne hj]; exact f.2 j u e⟩
def tLoop (g : TG) (tt : TT) (tb : TB) (J : It) (σ : St) (H : Hp) (ys : List V) (Q : List V → Hp → Prop) : Prop :=
  ∃ W : Nat → Nat → List V → Hp → Prop, (∃ m, W 0 m ys H) ∧ ∀ i m ys H, W i m ys H →
    (J.stop i H ∧ Q ys H) ∨ (J.go i H ∧ ∀ x H', J.yld i H x H' → g x σ H' fun σ2 H2 => Fgt σ σ2 ∧ tt σ2 H2 fun b H3 =>
      if b = true then tb σ2 H3 ys fun ys' H4 => ∃ m', m' < m ∧ W (i + 1) m' ys' H4 else ∃ m', m' < m ∧ W (i + 1) m' ys H3)


/-- the loop of clause d -/
theorem comp_loop {elt : Expr} {gens : List Comprehension} {scope : Scope} {pos : Pos} {d : Nat} {tg iter : Expr} {ifs : List Expr} (hg : gens[d]? = some ⟨tg, iter, ifs, 0⟩) {g : TG} {tt : TT} {tb : TB} (hc : Y.calm = true) (hx : ∀ e s, Y.xe e s → False)
    (h1 : PG Y tg g) (h2 : PTs Y ifs tt) (h3 : PB Y acc (insideOf elt gens scope pos d (.ref acc) Y.env) tb)
    {J : It} {fp : List Addr} {it : Addr} {tn : Nat → Heap → Prop} (T : Turn Y.prog Y.w Y.K tg J fp it tn) (hac : acc ∉ fp)
    {pins : List (Addr × Obj)} {s : Shared} {σ : St} {H : Hp} {ys : List V} {Q : List V → Hp → Prop} {R : Result → Shared → Prop} (I : Inv Y pins σ H s) (st : tn 0 s.heap) (hf : ∀ b ∈ fp, FpOk Y pins H b) (ha : FpOk Y pins H acc) (ac : Acc s.heap acc ys)
    (h : tLoop g tt tb J σ H ys Q) (hR : ∀ s' ys' H', Inv Y pins σ H' s' → H' acc = none → Acc s'.heap acc ys' → Q ys' H' → R (.ok .next) s') :
    codeAny (model Y.prog Y.w) Y.A (.compLoop (.ListComp elt gens scope pos) d (.ref it) (.ref acc) Y.env) R s := by
  obtain ⟨W, ⟨m0, w0⟩, turn⟩ := h
  have stat : ∀ {H' : Hp}, (∀ b ∈ fp, H' b = none) → ∀ b ∈ fp, FpOk Y pins H' b := fun hn b hb => ⟨hn b hb, (hf b hb).2⟩
  have nox : ∀ {E : Value → Shared → Prop} {α : Type} {m : Sem α} {P : α → Shared → Prop} {s : Shared}, wpAny (model Y.prog Y.w) Y.A m P Y.xe s → wpAny (model Y.prog Y.w) Y.A m P E s := fun h => wpAny_mono h (fun _ _ q => q) fun _ _ z => (hx _ _ z).elim
  refine codeAny_loop rfl (fun n s' => ∃ i H' ys', Inv Y pins σ H' s' ∧ tn i s'.heap ∧ (∀ b ∈ fp, H' b = none) ∧ H' acc = none ∧ Acc s'.heap acc ys' ∧ W i n ys' H') ?_ m0 ⟨0, H, ys, I, st, fun b hb => (hf b hb).1, ha.1, ac, w0⟩
  rintro n s3 ⟨i, H3, ys3, I3, st3, fr3, an3, ac3, w3⟩
  show wpAny _ _ ((compTurn (.ListComp elt gens scope pos) d (.ref it) (.ref acc) Y.env).onRaise (fun x => do noteFrame x Y.env; theTreesLotGoes x)) _ _ s3
  refine wpAny_noted ?_
  rw [compTurn_at elt gens scope pos d (.ref it) (.ref acc) Y.env hg]
  refine wpAny_bind (wpAny_standAt (wpAny_bind ?_))
  -- the list that is built is pinned while the iterator turns, the target is set and the tests run
  obtain ⟨oa, ea, da⟩ := ac3.obj
  have fa3 : FpOk Y pins H3 acc := ⟨an3, ha.2⟩
  have J3 : Inv Y (pins ++ pinsAt [acc] s3.heap) σ H3 s3 := I3.pinned (fp := [acc]) (mem1 fa3) (mem1 ac3.obj)
  have inpa : (acc, oa) ∈ pinsAt [acc] s3.heap := mem_pinsAt (by simp) ea
  have stat' : ∀ {H' : Hp}, (∀ b ∈ fp, H' b = none) → ∀ b ∈ fp, FpOk Y (pins ++ pinsAt [acc] s3.heap) H' b := fun hn b hb => by
    obtain ⟨f0, f1, f2, f3, f4, f5⟩ := stat hn b hb
    refine ⟨f0, f1, f2, f3, f4, fun p hp z => ?_⟩
    rw [← List.append_assoc] at hp
    rcases List.mem_append.mp hp with hp | hp
    · exact f5 p hp z
    · have e : p.1 = acc := by simpa using (of_pinsAt hp).1
      exact hac (by rw [← e, z]; exact hb)
  rcases turn i n ys3 H3 w3 with ⟨stop, qn⟩ | ⟨go, step⟩
  · refine thn (T.done Y rfl rfl rfl hc i _ s3 σ H3 _ J3 (stat' fr3) st3 stop) fun r s4 ⟨hr, I4⟩ => ?_
    subst hr
    refine wpAny_pure ?_
    have p4 := I4.pin (acc, oa) (List.mem_append_right _ (List.mem_append_right _ inpa))
    exact hR s4 ys3 H3 I4.unpinned an3 (ac3.at fun o e => by rw [ea] at e; cases e; exact p4.1) qn
  · refine thn (T.item Y rfl rfl rfl hc i _ s3 σ H3 _ J3 (stat' fr3) st3 go) fun r s4 ⟨u, hr, h4⟩ => ?_
    subst hr
    refine wpAny_bind (thn h4 fun _ s5 ⟨x, H5, I5, r5, y5, st5, fr5⟩ => ?_)
    have I5' := I5.pinned (stat' fr5) (T.obj _ _ st5)
    refine wpAny_bind (nox (thn (h1 _ s5 σ H5 x u _ I5' r5 (step x H5 y5)) fun _ s6 ⟨σ6, H6, I6, fg, q6⟩ => ?_))
    refine wpAny_bind (nox (thn (h2 _ s6 σ6 H6 _ I6 q6) fun ok s7 ⟨H7, I7, q7⟩ => ?_))
    have p7 := I7.pin (acc, oa) (List.mem_append_right _ (List.mem_append_left _ (List.mem_append_right _ inpa)))
    have ac7 : Acc s7.heap acc ys3 := ac3.at fun o e => by rw [ea] at e; cases e; exact p7.1
    have I7' : Inv Y (pins ++ pinsAt fp s5.heap) σ6 H7 s7 := I7.pins_of fun p hp => I7.pin p (List.mem_append_right _ ((List.mem_append.mp hp).elim (fun z => List.mem_append_left _ (List.mem_append_left _ z)) fun z => List.mem_append_right _ z))
    have again' : ∀ {s8 : Shared} {H8 : Hp} {ys8 : List V}, Inv Y (pins ++ pinsAt fp s5.heap) σ6 H8 s8 → H8 acc = none → Acc s8.heap acc ys8 → (∃ m', m' < n ∧ W (i + 1) m' ys8 H8) →
        ∃ m, m < n ∧ ∃ i H' ys', Inv Y pins σ H' s8 ∧ tn i s8.heap ∧ (∀ b ∈ fp, H' b = none) ∧ H' acc = none ∧ Acc s8.heap acc ys' ∧ W i m ys' H' := fun {s8 H8 ys8} I8 an8 ac8 ⟨m', hm, w8⟩ => by
      refine ⟨m', hm, i + 1, H8, ys8, I8.unpinned.weak fg.1 fg.2, T.keep _ _ _ st5 fun b hb o e => (I8.pin (b, o) (List.mem_append_right _ (List.mem_append_right _ (mem_pinsAt hb e)))).1, fun b hb => ?_, an8, ac8, w8⟩
      obtain ⟨o, e, _⟩ := T.obj _ _ st5 b hb
      exact (I8.pin (b, o) (List.mem_append_right _ (List.mem_append_right _ (mem_pinsAt hb e)))).2.1
    cases ok with
    | false =>
      rw [if_neg Bool.false_ne_true] at q7 ⊢
      exact wpAny_bind (wpAny_pure (wpAny_pure ⟨rfl, again' I7' p7.2.1 ac7 q7⟩))
    | true =>
      rw [if_pos rfl] at q7 ⊢
      have fa7 : FpOk Y (pins ++ pinsAt fp s5.heap) H7 acc := by
        obtain ⟨_, f1, f2, f3, f4, f5⟩ := ha
        refine ⟨p7.2.1, f1, f2, f3, f4, fun p hp z => ?_⟩
        rw [← List.append_assoc] at hp
        rcases List.mem_append.mp hp with hp | hp
        · exact f5 p hp z
        · exact hac (by rw [← z]; exact (of_pinsAt hp).1)
      exact wpAny_bind (nox (thn (h3 _ s7 σ6 H7 ys3 _ I7' fa7 ac7 q7) fun _ s8 ⟨ys8, H8, I8, an8, ac8, q8⟩ => wpAny_pure ⟨rfl, again' I8 an8 ac8 q8⟩))

/-- a clause behind another one -/
def tNest (wi : TI) (g : TG) (tt : TT) (tb : TB) : TB := fun σ H ys Q => wi σ H fun J H1 => tLoop g tt tb J σ H1 ys Q
theorem pb_nest {elt : Expr} {gens : List Comprehension} {scope : Scope} {pos : Pos} {d : Nat} {tg iter : Expr} {ifs : List Expr} (hg : gens[d + 1]? = some ⟨tg, iter, ifs, 0⟩) {wi : TI} {g : TG} {tt : TT} {tb : TB} (hc : Y.calm = true) (hx : ∀ e s, Y.xe e s → False)
    (hi : PI Y tg iter wi) (h1 : PG Y tg g) (h2 : PTs Y ifs tt) (h3 : PB Y acc (insideOf elt gens scope pos (d + 1) (.ref acc) Y.env) tb) (hs : ∀ x, foldedSetIterable iter Y.env x = pure x := by intro _; rfl) :
    PB Y acc (insideOf elt gens scope pos d (.ref acc) Y.env) (tNest wi g tt tb) := by
  intro pins s σ H ys Q I hf ha h
  unfold insideOf
  rw [hg]
  obtain ⟨oa, ea, da⟩ := ha.obj
  have J1 : Inv Y (pins ++ pinsAt [acc] s.heap) σ H s := I.pinned (fp := [acc]) (mem1 hf) (mem1 ha.obj)
  have inpa : (acc, oa) ∈ pinsAt [acc] s.heap := mem_pinsAt (by simp) ea
  refine wpAny_bind (thn (hi _ s σ H _ J1 h) fun x s1 h1' => wpAny_bind (wpAny_standAt ?_))
  show wpAny _ _ (foldedSetIterable iter Y.env x >>= _) _ _ s1
  refine wpAny_bind (wpAny_of_eq (hs x) ?_)
  show wpAny _ _ (holding [x] (pyIter x) >>= _) _ _ s1
  refine wpAny_bind (wpAny_holding (thn h1' fun itv s2 h2' => ?_))
  obtain ⟨it, fp, tn, J, H2, e, I2, T, st2, f2, lp⟩ := h2'
  subst e
  have p2 := I2.pin (acc, oa) (List.mem_append_right _ (List.mem_append_right _ inpa))
  have ac2 : Acc s2.heap acc ys := ha.at fun o e => by rw [ea] at e; cases e; exact p2.1
  have hac : acc ∉ fp := fun z => (f2 acc z).2.2.2.2.2 (acc, oa) (List.mem_append_right _ (List.mem_append_right _ inpa)) rfl
  have f2' : ∀ b ∈ fp, FpOk Y pins H2 b := fun b hb => by
    obtain ⟨a0, a1, a2, a3, a4, a5⟩ := f2 b hb
    exact ⟨a0, a1, a2, a3, a4, fun p hp => a5 p ((List.mem_append.mp hp).elim (fun z => List.mem_append_left _ z) fun z => List.mem_append_right _ (List.mem_append_left _ z))⟩
  have fa2 : FpOk Y pins H2 acc := ⟨p2.2.1, hf.2⟩
  refine wpAny_bind (wpAny_runOwn (compStart_at hg ?_ ?_))
  · exact comp_loop hg hc hx h1 h2 h3 T hac I2.unpinned st2 f2' fa2 ac2 lp fun s' ys' H' I' an' ac' q' => wpAny_pure ⟨ys', H', I', an', ac', q'⟩
  · exact T.self _ 0 _ _ _ st2 (comp_loop hg hc hx h1 h2 h3 T hac I2.unpinned st2 f2' fa2 ac2 lp fun s' ys' H' I' an' ac' q' => wpAny_pure ⟨ys', H', I', an', ac', q'⟩)
end

/-! ### the whole -/
section
variable {X : Cx} {scope : Scope} {own : List Str} {cap : List (Str × Nat)} {pins : List (Addr × Obj)} {σ : St} {H H' : Hp} {s s' : Shared} {fp : List Addr} {acc : Addr} {ys : List V}
/-- behind the block: the list is tracked -/
theorem comp_end {σ' : St} (I : Inv X pins σ H s) (hf : ∀ b ∈ fp, FpOk X pins H b) (I' : Inv (cX X scope own cap pins s H fp) [] σ' H' s') (hacc : s.heap.objs.size ≤ acc) (han : H' acc = none) (hac : Acc s'.heap acc ys) (hz : ys.length ≤ sizeLine) :
    Inv X pins σ (upd H' acc (.lst ys)) s' := by
  have nacc : ∀ b o, s.heap.get? b = some o → b ≠ acc := fun b o e => Nat.ne_of_lt (Nat.lt_of_lt_of_le (Heap.lt_size e) hacc)
  have u : Un (frs X.stack) fp H H' s.heap s'.heap := I'.base
  refine I.call' (ch := fp) I'.os ⟨u.keep, u.slot, fun b o e n hx => ?_, u.there, fun b xs e => ?_, fun b o v e => ?_, fun b ps e => ?_⟩ (fun b o e => ?_) I'.bare fun b hb => ?_
  · rw [upd_ne (nacc b o e)]; exact u.free b o e n hx
  · have := u.tups b xs e
    rw [upd_ne (ne_of_none this han)]; exact this
  · have := u.frzs b o v e
    rw [upd_ne (ne_of_none this han)]; exact this
  · obtain ⟨more, this⟩ := u.tbls b ps e
    exact ⟨more, by rw [upd_ne (ne_of_none this han)]; exact this⟩
  · by_cases hb : b = acc
    · subst hb
      rw [upd_same] at e; cases e
      obtain ⟨its, r, n, pl⟩ := hac
      exact ⟨hz, its, n, r, pl⟩
    · rw [upd_ne hb] at e
      exact (I'.hok b o e).stay (fun _ _ _ q => q) (fun c q => by rw [upd_ne (ne_of_none q han)]; exact q) fun c xs q => by rw [upd_ne (ne_of_none q han)]; exact q
  · obtain ⟨f0, f1, f2, f3, f4, f5⟩ := hf b hb
    exact ⟨f3, f1, f4, f5⟩

/-- the block, from the iterator on; Q: what is wanted of the list behind it -/
theorem comp_core {elt tg iter : Expr} {ifs : List Expr} {rest : List Comprehension} {pos : Pos} {g : TG} {tt : TT} {tb : TB} (cs : CS X scope own cap) (hc : X.calm = true)
    (h1 : ∀ pins s₂ H₂ fp, PG (cX X scope own cap pins s₂ H₂ fp) tg g) (h2 : ∀ pins s₂ H₂ fp, PTs (cX X scope own cap pins s₂ H₂ fp) ifs tt)
    (h3 : ∀ pins s₂ H₂ fp acc, PB (cX X scope own cap pins s₂ H₂ fp) acc (insideOf elt (⟨tg, iter, ifs, 0⟩ :: rest) scope pos 0 (.ref acc) (cEnv X scope s₂.heap.objs.size)) tb)
    {J : It} {it : Addr} {tn : Nat → Heap → Prop} (T : Turn X.prog X.w X.K tg J fp it tn) (I : Inv X pins σ H s) (st : tn 0 s.heap) (hf : ∀ b ∈ fp, FpOk X pins H b)
    {Q : VK} (h : tLoop g tt tb J (cS own cap σ) H [] fun ys H2 => ys.length ≤ sizeLine ∧ ∀ a, H2 a = none → Q (.ref a) (upd H2 a (.lst ys))) {RR : Value → Addr → Result → Shared → Prop} {E : Value → Shared → Prop}
    (hR : ∀ acc C s' H' m, s.heap.objs.size ≤ C → Inv X pins σ H' s' → H' C = none → s'.heap.Ns C m → Q (.ref acc) H' → RR (.ref acc) C (.ok .next) s') :
    wpAny (model X.prog X.w) X.A (newList []) (fun acc s₃ => wpAny (model X.prog X.w) X.A (newFunctionEnv scope X.env.globals (clOf X.env scope.names []) [] X.env.qual none .none (some X.env)) (fun cenv s₄ =>
      codeAny (model X.prog X.w) X.A (.compStart (.ListComp elt (⟨tg, iter, ifs, 0⟩ :: rest) scope pos) 0 (.ref it) acc { cenv with scope := relabel scope X.env }) (RR acc cenv.locals) s₄) E s₃) E s := by
  have hlt : ∀ b ∈ fp, b < s.heap.objs.size := fun b hb => by
    obtain ⟨o, e, _⟩ := T.obj _ _ st b hb
    exact Heap.lt_size e
  refine wpAny_newObj_type (wpAny_compEnv ?_)
  have e1 : (s.heap.push { cls := .type "list", dict := none, data := .seq ([] : List Value).toArray }).objs.size = s.heap.objs.size + 1 := Heap.size_push ..
  have I1 := cX_start I cs hf hlt (o := { cls := .type "list", dict := none, data := .seq ([] : List Value).toArray }) rfl
  have kp : ∀ b u, s.heap.get? b = some u → (pushCells ((s.heap.push { cls := .type "list", dict := none, data := .seq ([] : List Value).toArray }).push { cls := .type "dict", data := .dict #[] }) scope.names).get? b = some u :=
    fun b u e => pushCells_keeps _ _ b u (Heap.get?_push_of_some _ (Heap.get?_push_of_some _ e))
  have st1 := T.keep _ _ _ st fun b _ o e => kp b o e
  have ac1 : Acc (pushCells ((s.heap.push { cls := .type "list", dict := none, data := .seq ([] : List Value).toArray }).push { cls := .type "dict", data := .dict #[] }) scope.names) s.heap.objs.size [] :=
    ⟨[], .nil, _, pushCells_keeps _ _ _ _ (Heap.get?_push_of_some _ (Heap.get?_push_size _ rfl))⟩
  dsimp only
  rw [e1]
  have hac : s.heap.objs.size ∉ fp := fun z => Nat.lt_irrefl _ (hlt _ z)
  have fa : FpOk (cX X scope own cap pins s H fp) [] H s.heap.objs.size := by
    refine ⟨I.hok.fresh (Nat.le_refl _), Nat.ne_of_lt (Nat.lt_succ_self _), fun z => ?_, .inr (Nat.le_refl _), fun x c e z => ?_, fun p hp z => ?_⟩
    · rcases List.mem_cons.mp (I.stkSub _ z) with z | z
      · exact absurd I.lt (by rw [← z]; exact Nat.lt_irrefl _)
      · exact I.nofs (Nat.le_refl _) z
    · rcases cs.cell_cases I.ok e with ⟨_, a, _⟩ | ⟨_, a⟩
      · rw [z] at a; omega
      · obtain ⟨v, q⟩ := I.cell x c a
        exact absurd q.lt (by rw [z]; exact Nat.lt_irrefl _)
    · have hp' : p ∈ X.pn ++ pins := by simpa [cX] using hp
      exact absurd (Heap.lt_size (I.pin p hp').1) (by rw [z]; exact Nat.lt_irrefl _)
  have ff : ∀ b ∈ fp, FpOk (cX X scope own cap pins s H fp) [] H b := fun b hb => by
    obtain ⟨f0, f1, f2, f3, f4, f5⟩ := hf b hb
    refine ⟨f0, Nat.ne_of_lt (Nat.lt_succ_of_lt (hlt b hb)), fun z => ?_, .inl hb, fun x c e => ?_, fun p hp => ?_⟩
    · rcases List.mem_cons.mp (I.stkSub _ z) with z | z
      · exact f1 z
      · exact f2 z
    · rcases cs.cell_cases I.ok e with ⟨_, a, _⟩ | ⟨_, a⟩
      · exact Nat.ne_of_gt (Nat.lt_of_lt_of_le (hlt b hb) (Nat.le_trans (Nat.le_add_right _ 2) a))
      · exact f4 x c a
    · have hp' : p ∈ X.pn ++ pins := by simpa [cX] using hp
      exact f5 p hp'
  have fin : ∀ s' ys' H', Inv (cX X scope own cap pins s H fp) [] (cS own cap σ) H' s' → H' s.heap.objs.size = none → Acc s'.heap s.heap.objs.size ys' → (ys'.length ≤ sizeLine ∧ ∀ a, H' a = none → Q (.ref a) (upd H' a (.lst ys'))) →
      RR (.ref s.heap.objs.size) (s.heap.objs.size + 1) (.ok .next) s' := fun s' ys' H' I' an' ac' q' => by
    have I2 := comp_end I hf I' (Nat.le_refl _) an' ac' q'.1
    obtain ⟨m, hn, _⟩ := I'.loc
    refine hR _ _ s' _ m (Nat.le_succ _) I2 ?_ hn (q'.2 _ an')
    rw [upd_ne (Nat.ne_of_gt (Nat.lt_succ_self _))]
    exact I'.free
  have lp : ∀ s₄ : Shared, s₄ = { s with heap := pushCells ((s.heap.push { cls := .type "list", dict := none, data := .seq ([] : List Value).toArray }).push { cls := .type "dict", data := .dict #[] }) scope.names } →
      codeAny (model X.prog X.w) X.A (.compLoop (.ListComp elt (⟨tg, iter, ifs, 0⟩ :: rest) scope pos) 0 (.ref it) (.ref s.heap.objs.size) (cEnv X scope s.heap.objs.size)) (RR (.ref s.heap.objs.size) (s.heap.objs.size + 1)) s₄ := by
    rintro s₄ rfl
    exact comp_loop (Y := cX X scope own cap pins s H fp) (d := 0) rfl hc (fun _ _ z => z) (h1 pins s H fp) (h2 pins s H fp) (h3 pins s H fp s.heap.objs.size) T hac I1 st1 ff fa ac1 h fin
  exact compStart_at (d := 0) rfl (lp _ rfl) (T.self _ 0 _ _ _ st1 (lp _ rfl))

/-- a comprehension's reading -/
def tComp (own : List Str) (cap : List (Str × Nat)) (wi : TI) (g : TG) (tt : TT) (tb : TB) : TE := fun σ H Q => wi σ H fun J H1 => tLoop g tt tb J (cS own cap σ) H1 [] fun ys H2 => ys.length ≤ sizeLine ∧ ∀ a, H2 a = none → Q (.ref a) (upd H2 a (.lst ys))

variable {elt tg iter : Expr} {ifs : List Expr} {rest : List Comprehension} {pos : Pos} {wi : TI} {g : TG} {tt : TT} {tb : TB}
theorem CS.names (cs : CS X scope own cap) : ∀ x ∈ scope.names, x.2 = .local → scope.names.lookup x.1 = some .local := fun x hx e => cs.lk (by rw [← e]; exact hx)
theorem Inv.letgo {pins : List (Addr × Obj)} {σ σ' : St} {H H' : Hp} {s s' : Shared} {C : Addr} {h' : Heap} (I : Inv X pins σ H s) (I' : Inv X pins σ' H' s') (hC : s.heap.objs.size ≤ C) (hn : H' C = none) (hs : Heap.SameBut C s'.heap h') : Inv X pins σ' H' { s' with heap := h' } := by
  obtain ⟨f0, f1, f2, f3, f4, f5⟩ := I.fpOk hC hn
  exact I'.turned (t' := s'.toks) (fun b o hb e => (hs.2 b hb).trans e) f0 f1 f3 f4 f5

theorem pe_comp (cs : CS X scope own cap) (hc : X.calm = true) (hi : PI X tg iter wi) (h1 : ∀ pins s₂ H₂ fp, PG (cX X scope own cap pins s₂ H₂ fp) tg g) (h2 : ∀ pins s₂ H₂ fp, PTs (cX X scope own cap pins s₂ H₂ fp) ifs tt)
    (h3 : ∀ pins s₂ H₂ fp acc, PB (cX X scope own cap pins s₂ H₂ fp) acc (insideOf elt (⟨tg, iter, ifs, 0⟩ :: rest) scope pos 0 (.ref acc) (cEnv X scope s₂.heap.objs.size)) tb)
    (hs : ∀ x, foldedSetIterable iter X.env x = pure x := by intro _; rfl) : PE X (.ListComp elt (⟨tg, iter, ifs, 0⟩ :: rest) scope pos) (tComp own cap wi g tt tb) := by
  intro pins s σ H Q I h
  rw [eval_ListComp]
  refine wpAny_comprehension_free (use := none) rfl hs (closureFor_eq (cs.has_ I.ok)) cs.kind cs.names ?_
  refine thn (hi pins s σ H _ I h) fun x s1 h1' => thn h1' fun itv s2 h2' => ?_
  obtain ⟨it, fp, tn, J, H2, e, I2, T, st2, f2, lp⟩ := h2'
  subst e
  refine comp_core (RR := fun acc C => compPost (model X.prog X.w) X.A X.xe none (EP X pins σ Q) acc C) cs hc h1 h2 h3 T I2 st2 f2 lp ?_
  intro acc C s' H' m hC I' hn hns q
  exact ⟨m, hns, fun h' hs' => ⟨.ref acc, H', CT.Inv.letgo I2 I' hC hn hs', rfl, q⟩⟩

/-- name = [..], where the name is set ahead of the letting go -/
theorem ps_comp {i : Nat} {x : Str} {pos' spos : Pos} (cs : CS X scope own cap) (hc : X.calm = true) (hN : X.N.Nodup) (hix : X.N[i]? = some x) (hx : Loc X.env.scope x) (hi : PI X tg iter wi) (h1 : ∀ pins s₂ H₂ fp, PG (cX X scope own cap pins s₂ H₂ fp) tg g)
    (h2 : ∀ pins s₂ H₂ fp, PTs (cX X scope own cap pins s₂ H₂ fp) ifs tt)
    (h3 : ∀ pins s₂ H₂ fp acc, PB (cX X scope own cap pins s₂ H₂ fp) acc (insideOf elt (⟨tg, iter, ifs, 0⟩ :: rest) scope pos 0 (.ref acc) (cEnv X scope s₂.heap.objs.size)) tb)
    (hsw : swapsWith (.ListComp elt (⟨tg, iter, ifs, 0⟩ :: rest) scope pos) (some (.Name x pos')) spos.line X.env = pure true)
    (hs : ∀ x, foldedSetIterable iter X.env x = pure x := by intro _; rfl) (hf : X.fn x = true ∨ X.env.scope.names.lookup x = some .local := by first | exact .inl rfl | exact .inr rfl | assumption) :
    PS X (.Assign [.Name x pos'] (.ListComp elt (⟨tg, iter, ifs, 0⟩ :: rest) scope pos) spos) (tAsg (tComp own cap wi g tt tb) (gName i)) := by
  intro pins s σ H D I h
  rw [exec_Assign_Name_used _ _ _ _ hsw]
  refine wpAny_bind (wpAny_standAt (wpAny_bind ?_))
  show wpAny _ X.A (do let _ ← comprehension (.ListComp elt (⟨tg, iter, ifs, 0⟩ :: rest) scope pos) scope X.env _ (newList []) false (eval iter X.env) (some (assign (.Name x pos') X.env))) _ _ s
  refine wpAny_bind (wpAny_mono (wpAny_comprehension_free (use := some (assign (.Name x pos') X.env)) (Q := fun _ s' => SP X pins D .next s') rfl hs (closureFor_eq (cs.has_ I.ok)) cs.kind cs.names ?_) (fun _ s' hq => wpAny_pure (wpAny_pure hq)) fun _ _ e => e)
  refine thn (hi pins s σ H _ I h) fun xv s1 h1' => thn h1' fun itv s2 h2' => ?_
  obtain ⟨it, fp, tn, J, H2, e, I2, T, st2, f2, lp⟩ := h2'
  subst e
  refine comp_core (Q := fun x H1 => gName i x σ H1 D.nx) (RR := fun acc C => compPost (model X.prog X.w) X.A X.xe (some (assign (.Name x pos') X.env)) (fun _ s' => SP X pins D .next s') acc C) cs hc h1 h2 h3 T I2 st2 f2 lp ?_
  intro acc C s' H' m hC I' hn hns q
  show wpAny _ X.A (assign (.Name x pos') X.env (.ref acc)) _ _ _
  refine wpAny_assign_Name (store_ok2 I' hN hix hx (v := .ref acc) rfl (fun s'' I'' ⟨a, sb, ha⟩ => ?_) hf)
  have hne : C ≠ a := by
    rcases ha with z | z
    · rw [z]; exact Nat.ne_of_gt (Nat.lt_of_lt_of_le I2.lt hC)
    · obtain ⟨v, hv⟩ := I2.cell x a z
      exact Nat.ne_of_gt (Nat.lt_of_lt_of_le hv.lt hC)
  exact ⟨m, hns.sameBut sb hne, fun h' hs' => ⟨_, H', CT.Inv.letgo I2 I'' hC hn hs', q⟩⟩

/-! ### names in the block -/
theorem CS.vis (cs : CS X scope own cap) {n0 : Nat} {i : Nat} {x : Str} (h : (own ++ cap.map (·.1))[i]? = some x) : Vis (cEnv X scope n0).scope x := by
  have e : (cEnv X scope n0).scope.names.lookup x = (scope.names.lookup x).map (kin X.env x) := cEnv_lookup
  rcases List.mem_append.mp (List.mem_of_getElem? h) with hm | hm
  · rcases cs.own_ x hm with z | z
    · rw [cs.lk z] at e; exact .inl e
    · rw [cs.lk z] at e; exact .inr (.inl e)
  · obtain ⟨p, hp, rfl⟩ := List.mem_map.mp hm
    have z := (cs.cap_ p hp).2
    rw [cs.lk z] at e
    rcases kin_free (cs.fr _ z rfl) with q | q
    · exact .inr (.inl (e.trans (congrArg some q)))
    · exact .inr (.inr (e.trans (congrArg some q)))
theorem CS.loc (cs : CS X scope own cap) {n0 : Nat} {x : Str} (h : x ∈ own) : Loc (cEnv X scope n0).scope x := by
  have e : (cEnv X scope n0).scope.names.lookup x = (scope.names.lookup x).map (kin X.env x) := cEnv_lookup
  rcases cs.own_ x h with z | z
  · rw [cs.lk z] at e; exact .inl e
  · rw [cs.lk z] at e; exact .inr e
variable {s₂ : Shared} {H₂ : Hp}
theorem CS.gl (cs : CS X scope own cap) {x : Str} (h : (x, NameKind.globalImplicit) ∈ scope.names) : Gl (cX X scope own cap pins s₂ H₂ fp) x := by
  have e : (cEnv X scope s₂.heap.objs.size).kindOf x = (scope.names.lookup x).map (kin X.env x) := cEnv_kindOf
  rw [cs.lk h] at e
  exact e
/-- a name of the block -/
theorem cv (cs : CS X scope own cap) {i : Nat} {x : Str} {pos : Pos} (h : (own ++ cap.map (·.1))[i]? = some x) (hd : (x == ("__debug__" : Str)) = false := by decide) (hcd : (x == ("__classdict__" : Str)) = false := by decide) :
    PE (cX X scope own cap pins s₂ H₂ fp) (.Name x pos) (tVar i) := pe_var h (cs.vis h) hd hcd
/-- a target of the block -/
theorem cg (cs : CS X scope own cap) {i : Nat} {x : Str} {pos : Pos} (h : own[i]? = some x) : PG (cX X scope own cap pins s₂ H₂ fp) (.Name x pos) (gName i) :=
  pg_name cs.nN (by
    have hi := (List.getElem?_eq_some_iff.mp h).1
    show (own ++ cap.map (·.1))[i]? = some x
    rw [List.getElem?_append_left hi]; exact h) (cs.loc (List.mem_of_getElem? h)) (.inl (decide_eq_true (List.mem_of_getElem? h)))
end
end CT

set_option Elab.async false
set_option linter.all false
set_option maxRecDepth 100000
/-! zip of two and three lists or tuples as what a loop or a comprehension walks -/
namespace CT
open PySem PySem.Spec L2
open PyProof.Rows hiding St

def SqB (K : PySem.W.Frag) (H : Hp) (b : Bool) (a : Addr) (xs : List V) : Prop := match b with | true => SqT K H a xs | false => SqL K H a xs
section
variable {X : Cx} {pins : List (Addr × Obj)} {σ : St} {H : Hp} {s : Shared} {a : Addr} {xs ys : List V} {b : Bool}
theorem Inv.sqb (I : Inv X pins σ H s) (h : SqB X.K H b a xs) : ∃ its : List Value, Vals xs its ∧ Ssq s.heap b a its.toArray ∧ xs.length ≤ sizeLine := by
  cases b with
  | true => obtain ⟨its, r, p, z⟩ := I.tuple h; exact ⟨its, r, p, z⟩
  | false => obtain ⟨its, r, p, z⟩ := I.list h; exact ⟨its, r, p.isList, z⟩
theorem Inv.sqb_inj (I : Inv X pins σ H s) (h : SqB X.K H b a xs) (h' : SqB X.K H b a ys) : xs = ys := by
  cases b with
  | true => exact I.tuple_inj h h'
  | false => exact I.list_inj h h'
theorem Inv.ne_fp {c : Addr} (I : Inv X pins σ H s) (h : SqB X.K H b a xs) (f : FpOk X pins H c) : a ≠ c := by
  have fromK : ∀ o, X.K.lookup a = some o → a ≠ c := fun o hk z => by
    have e := I.ok.mod.kin a o hk
    rcases f.2.2.2.1 with q | q
    · exact I.ok.noex a o e (z ▸ q)
    · exact absurd (Nat.lt_of_lt_of_le (Heap.lt_size e) (Nat.le_trans I.ok.bsz (z ▸ q))) (Nat.lt_irrefl _)
  have fromR : ∀ u, Rd H a u → a ≠ c := fun u h => by
    rcases h with h | ⟨_, h⟩ <;> exact ne_of_none h f.1
  cases b with
  | true =>
    rcases h with h | ⟨o, _, _, hk, _⟩
    · exact fromR _ h
    · exact fromK o hk
  | false =>
    rcases h with h | ⟨o, _, _, hk, _⟩
    · exact fromR _ h
    · exact fromK o hk
/-- untracked records of ours have turned, and new objects may have come -/
theorem Inv.turnedL {h' : Heap} {t' : Nat} {ch : List Addr} (I : Inv X pins σ H s) (hf : ∀ b ∈ ch, FpOk X pins H b) (k : ∀ b o, b ∉ ch → s.heap.get? b = some o → h'.get? b = some o) : Inv X pins σ H { s with heap := h', toks := t' } := by
  have nit : ∀ b u, H b = some u → b ∉ ch := fun b u e z => by have := (hf b z).1; rw [e] at this; cases this
  refine I.step (g' := s.gens) (d' := s.drawn) (ch := ch) (fun b hb => ?_) (fun b o _ _ hc e _ => k b o hc e) (fun b o _ _ hc e _ => ⟨o.slots, k b o hc e⟩) (fun _ _ _ _ n => n)
    (fun b o hc e => ⟨o, k b o hc e⟩) (fun _ _ e => e) (fun _ _ _ e => e) (fun b ps e => ⟨#[], by rw [e]; simp⟩) (fun m hm => ?_) (fun b u e => ?_) I.bare
  · obtain ⟨f0, f1, f2, f3, f4, f5⟩ := hf b hb
    exact ⟨f3, f1, f4, f5⟩
  · obtain ⟨o, es, ep, ho, r⟩ := hm
    exact ⟨o, es, ep, k _ o (fun z => (hf _ z).2.1 rfl) ho, r⟩
  · refine (I.hok b u e).stay (fun c v hc q => k c v ?_ q) (fun _ q => q) fun _ _ q => q
    rcases hc with z | z
    · rw [z]; exact nit b u e
    · exact nit c _ z
/-- an object that stands untracked is tracked from now on -/
theorem Inv.adopt {T : Addr} {o : HO} (I : Inv X pins σ H s) (f : FpOk X pins H T) (new : ObjOk X.prog X.w (upd H T o) s.heap T o) : Inv X pins σ (upd H T o) s := by
  have neT : ∀ {b : Addr} {u : HO}, H b = some u → b ≠ T := fun e => ne_of_none e f.1
  have r : Inv X pins σ (upd H T o) { s with heap := s.heap, gens := s.gens, drawn := s.drawn, toks := s.toks } :=
    I.step (ch := [T]) (fun b hb => by
      have e : b = T := by simpa using hb
      subst e
      obtain ⟨f0, f1, f2, f3, f4, f5⟩ := f
      exact ⟨f3, f1, f4, f5⟩) (fun b o _ _ _ e _ => e) (fun b o _ _ _ e _ => ⟨o.slots, e⟩) (fun b o hc e n => by rw [upd_ne (fun z => hc (by simp [z]))]; exact n)
      (fun b o _ e => ⟨o, e⟩) (fun b xs e => by rw [upd_ne (neT e)]; exact e) (fun b o u e => by rw [upd_ne (neT e)]; exact e) (fun b ps e => ⟨#[], by rw [upd_ne (neT e), e]; simp⟩) (fun m hm => hm) (fun b u e => by
        by_cases hb : b = T
        · subst hb; rw [upd_same] at e; cases e; exact new
        · rw [upd_ne hb] at e
          exact (I.hok b u e).stay (fun _ _ _ q => q) (fun c q => by rw [upd_ne (neT q)]; exact q) fun c xs q => by rw [upd_ne (neT q)]; exact q) I.bare
  exact r
end

def Itz2 (K : PySem.W.Frag) (b1 b2 : Bool) (a1 a2 : Addr) : It :=
  ⟨fun i H => ∃ xs ys x y, SqB K H b1 a1 xs ∧ SqB K H b2 a2 ys ∧ xs[i]? = some x ∧ ys[i]? = some y,
   fun i H v H' => ∃ T x y, H T = none ∧ v = .ref T ∧ H' = upd H T (.tup [x, y]) ∧ (∀ xs, SqB K H b1 a1 xs → xs[i]? = some x) ∧ (∀ ys, SqB K H b2 a2 ys → ys[i]? = some y),
   fun i H => ∃ xs ys, SqB K H b1 a1 xs ∧ SqB K H b2 a2 ys ∧ (xs.length ≤ i ∨ ys.length ≤ i)⟩
def Itz3 (K : PySem.W.Frag) (b1 b2 b3 : Bool) (a1 a2 a3 : Addr) : It :=
  ⟨fun i H => ∃ xs ys us x y u, SqB K H b1 a1 xs ∧ SqB K H b2 a2 ys ∧ SqB K H b3 a3 us ∧ xs[i]? = some x ∧ ys[i]? = some y ∧ us[i]? = some u,
   fun i H v H' => ∃ T x y u, H T = none ∧ v = .ref T ∧ H' = upd H T (.tup [x, y, u]) ∧ (∀ xs, SqB K H b1 a1 xs → xs[i]? = some x) ∧ (∀ ys, SqB K H b2 a2 ys → ys[i]? = some y) ∧ (∀ us, SqB K H b3 a3 us → us[i]? = some u),
   fun i H => ∃ xs ys us, SqB K H b1 a1 xs ∧ SqB K H b2 a2 ys ∧ SqB K H b3 a3 us ∧ (xs.length ≤ i ∨ ys.length ≤ i ∨ us.length ≤ i)⟩
theorem vget {xs : List V} {its : List Value} {i : Nat} {x : V} (r : Vals xs its) (h : xs[i]? = some x) : ∃ u, its.toArray[i]? = some u ∧ RelV x u := by
  obtain ⟨u, h1, h2⟩ := r.get h
  exact ⟨u, by simpa using h1, h2⟩
theorem vend {xs : List V} {its : List Value} {i : Nat} (r : Vals xs its) (h : xs.length ≤ i) : its.toArray[i]? = none := by
  have := r.length
  simp
  omega
theorem sub4 {α : Type} {a b c d e x : α} (h : x ∈ [a, c, d, e]) : x ∈ [a, b, c, d, e] := by
  simp only [List.mem_cons, List.not_mem_nil, or_false] at h ⊢
  rcases h with h | h | h | h <;> simp [h]

theorem turn_zip2 {P : Program} {w : World} {K : PySem.W.Frag} {elts : List Expr} {x1} {pos : Pos} {z TI TO i1 i2 a1 a2 : Addr} {b1 b2 : Bool} (nd : [z, TI, TO, i1, i2].Nodup) :
    Turn P w K (.Tuple elts x1 pos) (Itz2 K b1 b2 a1 a2) [z, TI, TO, i1, i2] z
      (fun i h => IsZip h z TI TO .none ∧ IsTupAt h TI #[.ref i1, .ref i2] ∧ (∃ ts, IsTupAt h TO ts ∧ ts.size = 2) ∧ Sit h b1 i1 a1 i ∧ Sit h b2 i2 a2 i) where
  mem := by simp
  obj := fun i h ⟨q1, q2, ⟨ts, q3, _⟩, q4, q5⟩ b hb => by
    simp only [List.mem_cons, List.not_mem_nil, or_false] at hb
    rcases hb with rfl | rfl | rfl | rfl | rfl
    · exact ⟨_, q1, fun v e => by have e' : Data.fields _ = Data.cell v := e; cases e'⟩
    · exact ⟨_, q2, fun v e => by have e' : Data.seq _ _ = Data.cell v := e; cases e'⟩
    · exact ⟨_, q3, fun v e => by have e' : Data.seq _ _ = Data.cell v := e; cases e'⟩
    · obtain ⟨o, n, vs, e, _, d⟩ := q4.rec
      exact ⟨o, e, fun v e => by rw [d] at e; cases e⟩
    · obtain ⟨o, n, vs, e, _, d⟩ := q5.rec
      exact ⟨o, e, fun v e => by rw [d] at e; cases e⟩
  keep := fun i h h' ⟨q1, q2, ⟨ts, q3, q3'⟩, q4, q5⟩ k => ⟨k z (by simp) _ q1, k TI (by simp) _ q2, ⟨ts, k TO (by simp) _ q3, q3'⟩, q4.at fun o e => k i1 (by simp) o e, q5.at fun o e => k i2 (by simp) o e⟩
  item := by
    intro X hP hw hK hc i pins s σ H E I hf ⟨q1, q2, ⟨ts, q3, q3'⟩, q4, q5⟩ hg
    subst hP hw hK
    obtain ⟨xs, ys, x, y, hx, hy, ex, ey⟩ := hg
    obtain ⟨its, r1, p1, _⟩ := CT.Inv.sqb I hx
    obtain ⟨its2, r2, p2, _⟩ := CT.Inv.sqb I hy
    obtain ⟨u, eu, ru⟩ := vget r1 ex
    obtain ⟨v, ev, rv⟩ := vget r2 ey
    have n1 : a1 ∉ [z, TO, i1, i2] := fun m => CT.Inv.ne_fp I hx (hf a1 (sub4 m)) rfl
    have n2 : a2 ∉ [z, TO, i1, i2] := fun m => CT.Inv.ne_fp I hy (hf a2 (sub4 m)) rfl
    refine pyNext_zip q1 (zip2_item nd n1 n2 q1 q2 q3 q3' q4 q5 p1 p2 eu ev fun h' z1 z2 z3 z4 z5 z6 kk => ?_)
    refine ⟨_, rfl, wpAny_letOwnedTupleGo_zip z1 fun h2 z1' sb => ?_⟩
    have nT : ∀ b ∈ [z, TI, TO, i1, i2], b ≠ s.heap.objs.size := fun b hb => by
      simp only [List.mem_cons, List.not_mem_nil, or_false] at hb
      rcases hb with rfl | rfl | rfl | rfl | rfl
      · exact Nat.ne_of_lt (Heap.lt_size q1)
      · exact Nat.ne_of_lt (Heap.lt_size q2)
      · exact Nat.ne_of_lt (Heap.lt_size q3)
      · obtain ⟨o, n, vs, e, _, d⟩ := q4.rec; exact Nat.ne_of_lt (Heap.lt_size e)
      · obtain ⟨o, n, vs, e, _, d⟩ := q5.rec; exact Nat.ne_of_lt (Heap.lt_size e)
    have nd' := nd
    simp only [List.nodup_cons, List.mem_cons, List.not_mem_nil, or_false, not_or, List.nodup_nil, and_true, not_false_eq_true] at nd'
    obtain ⟨⟨zTI, zTO, zi1, zi2⟩, ⟨TITO, TIi1, TIi2⟩, ⟨TOi1, TOi2⟩, i12⟩ := nd'
    have k2 : ∀ c o, c ∉ [z, TO, i1, i2] → s.heap.get? c = some o → h2.get? c = some o := fun c o hc e => sb.extBut c o (fun q => hc (by simp [q])) (kk c o hc e)
    have I1 : Inv X pins σ H { s with heap := h2 } := CT.Inv.turnedL (t' := s.toks) (ch := [z, TO, i1, i2]) I (fun b hb => hf b (sub4 hb)) k2
    have hT : h2.get? s.heap.objs.size = some { cls := .type "tuple", data := .seq #[u, v] } := sb.extBut _ _ (Ne.symm (nT z (by simp))) z5
    have I2 : Inv X pins σ (upd H s.heap.objs.size (.tup [x, y])) { s with heap := h2 } := CT.Inv.adopt I1 (I.fpOk (Nat.le_refl _) (I.hok.fresh (Nat.le_refl _)))
      ⟨by show 2 ≤ sizeLine; decide, [u, v], .cons ru (.cons rv .nil), _, hT, rfl, _, rfl⟩
    refine ⟨.ref s.heap.objs.size, _, I2, rfl, ⟨_, x, y, I.hok.fresh (Nat.le_refl _), rfl, rfl, fun xs' h' => by rw [CT.Inv.sqb_inj I h' hx]; exact ex, fun ys' h' => by rw [CT.Inv.sqb_inj I h' hy]; exact ey⟩, ?_, fun b hb => ?_⟩
    · refine ⟨z1', k2 _ _ (by simp [Ne.symm zTI, TITO, TIi1, TIi2]) q2, ⟨#[u, v], sb.extBut _ _ (Ne.symm zTO) z2, rfl⟩, z3.at fun o e => sb.extBut _ _ (Ne.symm zi1) e, z4.at fun o e => sb.extBut _ _ (Ne.symm zi2) e⟩
    · rw [upd_ne (nT b hb)]; exact (hf b hb).1
  done := by
    intro X hP hw hK hc i pins s σ H E I hf ⟨q1, q2, ⟨ts, q3, q3'⟩, q4, q5⟩ hg
    subst hP hw hK
    obtain ⟨xs, ys, hx, hy, he⟩ := hg
    obtain ⟨its, r1, p1, _⟩ := CT.Inv.sqb I hx
    obtain ⟨its2, r2, p2, _⟩ := CT.Inv.sqb I hy
    have n1 : a1 ∉ [z, TO, i1, i2] := fun m => CT.Inv.ne_fp I hx (hf a1 (sub4 m)) rfl
    have n2 : a2 ∉ [z, TO, i1, i2] := fun m => CT.Inv.ne_fp I hy (hf a2 (sub4 m)) rfl
    refine pyNext_zip q1 (zip2_end (I.ok.hd hc) nd n1 n2 q1 q2 q3 q3' q4 q5 p1 p2 (he.imp (vend r1) (vend r2)) fun h' e kk ⟨o, ho, hcls⟩ => ⟨e, o, rfl, ho, hcls, rfl, ?_⟩)
    exact CT.Inv.turnedL (t' := s.toks) (ch := [z, TO, i1, i2]) I (fun b hb => hf b (sub4 hb)) kk
  self := fun _ _ _ _ _ ⟨q1, _⟩ h => wpAny_pyIter_zip q1 h

def iZip2 (K : PySem.W.Frag) (t : TA) : TI := fun σ H R => t σ H fun vs H1 => ∃ b1 b2 a1 a2 xs ys, vs = [.ref a1, .ref a2] ∧ SqB K H1 b1 a1 xs ∧ SqB K H1 b2 a2 ys ∧ R (Itz2 K b1 b2 a1 a2) H1
def iZip3 (K : PySem.W.Frag) (t : TA) : TI := fun σ H R => t σ H fun vs H1 => ∃ b1 b2 b3 a1 a2 a3 xs ys us, vs = [.ref a1, .ref a2, .ref a3] ∧ SqB K H1 b1 a1 xs ∧ SqB K H1 b2 a2 ys ∧ SqB K H1 b3 a3 us ∧ R (Itz3 K b1 b2 b3 a1 a2 a3) H1
section
variable {X : Cx} {elts : List Expr} {x1 : Nat} {tpos : Pos}
theorem pi_zip2 {a b : Expr} {ta : TA} {k} {p pos : Pos} (hg : Gl X "zip") (hm : X.mg "zip" = none) (ha : PA X [a, b] ta) (hs : starEach [a, b] X.env = [(false, eval a X.env), (false, eval b X.env)] := by rfl) (hs2 : starEach [b] X.env = [(false, eval b X.env)] := by rfl) :
    PI X (.Tuple elts k tpos) (.Call (.Name "zip" p) [a, b] [] pos) (iZip2 X.K ta) := by
  intro pins s σ H R I h
  refine Call_ (ld_blt I hg hm boot_zip (PyProof.Rows.callWith_type1 (thn (ha pos pins s σ H _ I h) fun us s1 ⟨vs, H1, I1, r1, q1⟩ => ?_) (by rw [hs, hs2]) (by rw [hs2]; rfl)))
  obtain ⟨b1, b2, a1, a2, xs, ys, e, hx, hy, q⟩ := q1
  subst e
  cases r1 with
  | cons r rr =>
    cases rr with
    | cons r' rr =>
      cases rr
      cases r
      cases r'
      obtain ⟨its, rv1, p1, _⟩ := CT.Inv.sqb I1 hx
      obtain ⟨its2, rv2, p2, _⟩ := CT.Inv.sqb I1 hy
      refine call_zip2S p1 p2 fun h' x1 x2 x3 x4 x5 x6 x7 => ?_
      refine wpAny_pyIter_zip x3 ?_
      refine ⟨_, _, _, _, H1, rfl, I1.kept (t' := s1.toks) x6, turn_zip2 (TI := s1.heap.objs.size + 2) (TO := s1.heap.objs.size + 3) (i1 := s1.heap.objs.size) (i2 := s1.heap.objs.size + 1) (by simp), ⟨x3, x1, ⟨_, x2, rfl⟩, x4, x5⟩, fun b hb => ?_, q⟩
      have hle : s1.heap.objs.size ≤ b := by
        simp only [List.mem_cons, List.not_mem_nil, or_false] at hb
        rcases hb with rfl | rfl | rfl | rfl | rfl <;> omega
      exact I1.fpOk hle (I1.hok.fresh hle)
end
end CT

set_option Elab.async false
set_option linter.all false
set_option maxRecDepth 100000
set_option maxHeartbeats 400000
/-! OWN EXCEPTIONS: their attributes read and set, made with an __init__ of their own -/
namespace CT
open PySem PySem.Spec PySem.W L2
open Builtin Builtin.ObjectAttr
abbrev bmV : List Value := [.type "ValueError", .type "Exception", .type "BaseException", .type "object"]
/-- refs, then the built-in tail -/
def overV : List Value → Bool
  | [] => false
  | v :: r => (v :: r) == bmV || (match v with | .ref _ => overV r | _ => false)
theorem overV_pass (self : Value) : ∀ {l : List Value}, overV l = true → refuseLoop self "__setattr__" l = pure ()
  | [], e => nomatch e
  | v :: r, e => by
    unfold overV at e
    rcases Bool.or_eq_true_iff.mp e with q | q
    · rw [beq_iff_eq.mp q]; exact PySem.F.store_ValueError.passes self
    · cases v with
      | ref c => rw [refuseLoop_ref]; exact overV_pass self q
      | _ => cases q
theorem overV_has {x : Value} (hx : bmV.contains x = true) : ∀ {l : List Value}, overV l = true → l.contains x = true
  | [], e => nomatch e
  | v :: r, e => by
    unfold overV at e
    rcases Bool.or_eq_true_iff.mp e with q | q
    · rw [beq_iff_eq.mp q]; exact hx
    · cases v with
      | ref c => rw [List.contains_cons, overV_has hx q, Bool.or_true]
      | _ => cases q
/-- what a class of exceptions must have, in the text K -/
structure XCls (K : Frag) (C : Addr) : Prop where
  hd : hasDictIn K C = true
  ov : (clsIn K C).any (fun cd => overV cd.mro) = true
  ga : findIn K (.ref C) "__getattribute__" = some (some (.builtin "BaseException.__getattribute__"))
  gn : findIn K (.ref C) "__getattr__" = some none
  sa : findIn K (.ref C) "__setattr__" = some (some (.builtin "object.__setattr__"))
theorem XCls.mro {K : Frag} {C : Addr} (c : XCls K C) {x : Value} (hx : bmV.contains x = true) : mroIn K C x = some true := by
  obtain ⟨cd, hc, ho⟩ := any_some c.ov
  have h := overV_has hx ho
  unfold mroIn
  rw [hc, Option.bind_some, if_neg (fun q => by cases hl : cd.mro with | nil => rw [hl] at h; cases h | cons _ _ => rw [hl] at q; cases q), h]

section
variable {prog : Program} {w : World} {A : Around} {E : Value → Shared → Prop} {s : Shared} {K : Frag} {x C : Addr} {ox : Obj} {od : Option Obj} {name : Str}

theorem ga_run {tk : Tok} {f : Found} {Q : Fin → Shared → Prop} (X : K.In s.heap) (I : InstAt s.heap x ox C od) (hf : findObj K C od name = some f)
    (h : wpAny (model prog w) A (match f with | .value v => ret v | .bind g a => bindTo g a (.ref x) (.ref C) | .missing => unsupported "x") Q E s) (hm : f ≠ .missing) :
    wpAny (model prog w) A (Builtin.«object.__getattribute__» ⟨[.ref x, .str name tk], []⟩) Q E s := by
  have L0 := I.type (M := model prog w)
  have L1 := looks_find (M := model prog w) X I hf
  unfold Builtin.«object.__getattribute__»
  refine wpAny_bind (wpAny_pure (wpAny_bind (wpAny_pure (wpAny_bind (L0.here (wpAny_bind (L1.here ?_)))))))
  cases f with
  | missing => exact absurd rfl hm
  | value v => exact h
  | bind g a => exact h

theorem ga_call {tk : Tok} {f : Found} {R : Result → Shared → Prop} (X : K.In s.heap) (I : InstAt s.heap x ox C od) (c : XCls K C) (hf : findObj K C od name = some f) (hm : f ≠ .missing)
    (h : wpAny (model prog w) A.in1 (match f with | .value v => ret v | .bind g a => bindTo g a (.ref x) (.ref C) | .missing => unsupported "x")
      (fun fin s' => match fin with | .done f => R (.ok f) s' | .again c' => c'.quiet = true ∧ codeAny (model prog w) A c' R s') (fun e s' => R (.error e) s') s) :
    codeAny (model prog w) A (.call (.builtin "BaseException.__getattribute__") ⟨[.ref x, .str name tk], []⟩) R s := by
  have S := PySem.F.attr_ValueError.ga
  have L0 : Looks (model prog w) s.heap (isInstance (.ref x) (.type "BaseException")) true := I.type.andThen (looks_mroIn X (c.mro (by decide)))
  refine codeAny_call_builtin S.plain F.entry_bexc_ga (@check_slot (model prog w) _ _ s "BaseException.__getattribute__" "BaseException" "__getattribute__" (.ref x) [.str name tk] [] _ (by decide +kernel) (by decide +kernel) L0 (F.args_bexc_ga (.ref x) (.str name tk)) ?_)
  exact ga_run X I hf h hm
/-- o.name by BaseException's way -/
theorem xget_by {tk : Tok} {fill expr : Bool} {f : Found} {Q : Value → Shared → Prop} (X : K.In s.heap) (I : InstAt s.heap x ox C od) (c : XCls K C) (hf : findObj K C od name = some f) (hm : f ≠ .missing)
    (h : wpAny (model prog w) A.in1 (match f with | .value v => ret v | .bind g a => bindTo g a (.ref x) (.ref C) | .missing => unsupported "x")
      (fun fin s' => match fin with | .done (.ret v) => wpAny (model prog w) A (handedOut v) Q E s' | _ => False) (fun e s' => False) s) :
    wpAny (model prog w) A (getAttrBy (.ref x) (.str name tk) fill expr) Q E s := by
  have L0 := I.type (M := model prog w)
  have L1 := looks_findIn (M := model prog w) X c.ga
  have L2 := looks_findIn (M := model prog w) X c.gn
  have S := PySem.F.attr_ValueError.ga
  unfold getAttrBy
  refine wpAny_holding (wpAny_bind (L0.here (wpAny_bind (L1.here ?_))))
  show wpAny _ _ (getAttrByItsOwn _ _ _ _ _ _) _ _ _
  unfold getAttrByItsOwn
  refine wpAny_bind (L2.here ?_)
  refine wpAny_bind (wpAny_attempt (wpAny_holding ?_))
  have ec : callGetattribute (.ref x) (.str name tk) (.builtin "BaseException.__getattribute__") expr = boundAndCalled (.builtin "BaseException.__getattribute__") (.ref x) (.str name tk) := by cases expr <;> rfl
  rw [ec]
  unfold boundAndCalled
  rw [S.bind]
  refine wpAny_bind (wpAny_pure (wpAny_call (ga_call X I c hf hm (wpAny_mono h (fun fin s' z => ?_) fun e s' z => z.elim))))
  rcases fin with (_ | _ | _ | _) | _ <;> first | exact z | exact z.elim

/-- a field of the exception's own -/
theorem xget_own {odd : Obj} {v : Value} {expr : Bool} {Q : Value → Shared → Prop} (X : K.In s.heap) (I : InstAt s.heap x ox C (some odd)) (c : XCls K C) (ha : findIn K (.ref C) name = some none) (hl : lookIn name odd = some (some v)) (hv : handedIn v = true)
    (h : Q v { s with toks := s.toks + 1 }) : wpAny (model prog w) A (getAttr (.ref x) name expr) Q E s := by
  unfold getAttr
  refine wpAny_bind (wpAny_mkText (xget_by (s := { s with toks := s.toks + 1 }) (f := .value v) X I c (findObj_own c.hd ha rfl hl) (fun z => nomatch z) (wpAny_pure ?_)))
  show wpAny _ _ (handedOut v) _ _ _
  rw [handedOut_of hv]; exact wpAny_pure h
/-- x.__class__ -/
theorem xget_cls {Q : Option Value → Shared → Prop} (X : K.In s.heap) (I : InstAt s.heap x ox C od) (c : XCls K C) (hf : findObj K C od "__class__" = some (.bind (.builtin "getset_descriptor.__get__") (.builtin "object.__class__")))
    (h : Q (some (.ref C)) { s with toks := s.toks + 1 }) : wpAny (model prog w) A (getAttr? (.ref x) "__class__") Q E s := by
  unfold getAttr? getAttrBy?
  refine wpAny_bind (wpAny_mkText (wpAny_bind (wpAny_attempt (xget_by (s := { s with toks := s.toks + 1 }) X I c hf (fun z => nomatch z) ?_))))
  refine wpAny_bind (wpAny_holding (wpAny_call (class_get (s := { s with toks := s.toks + 1 }) X I (c.mro (by decide)) ?_)))
  exact wpAny_pure (wpAny_pure (wpAny_pure h))
theorem kitx_exc (c : XCls K C) (hf : findObj K C od "__class__" = some (.bind (.builtin "getset_descriptor.__get__") (.builtin "object.__class__"))) : KitX K (.ref x) (.ref C) (fun h => InstAt h x ox C od) where
  ty := fun _ _ _ I => I.type
  it := fun M h X _ => by
    obtain ⟨cd, hc, _⟩ := any_some c.ov
    unfold clsIn at hc
    split at hc
    · rename_i ho
      intro A' Q' E' s' k q
      unfold isType loadHead
      exact wpAny_bind (wpAny_loadPart (k _ _ (X _ _ ho)) (wpAny_pure q))
    · cases hc
  ne := fun h tp dd its n sl X htp => by
    obtain ⟨cd, hc, _⟩ := any_some c.ov
    cases hb : (Value.ref C == Value.ref tp) with
    | false => rfl
    | true =>
      have e := Value.ref.inj (beq_iff_eq.mp hb)
      rw [← e] at htp
      unfold clsIn at hc
      split at hc
      · rename_i ho
        have z := htp.symm.trans (X _ _ ho)
        cases z
      · cases hc
  ca := fun X I k => xget_cls X I c hf k

/-- o.name = v: as far as the exception's own dict -/
theorem xset_open {v : Value} {Q : Unit → Shared → Prop} (X : K.In s.heap) (I : InstAt s.heap x ox C od) (c : XCls K C) (ht : findIn K (.ref C) name = some none)
    (h : wpAny (model prog w) A.in1 (ownDictForStores (.ref x)) (fun r s' => ∃ d, r = some d ∧ wpAny (model prog w) A.in1 (storeInDict d (.str name s.toks) name v)
      (fun fin s'' => match fin with | .done (.ret _) => Q () s'' | _ => False) (fun _ _ => False) s') (fun _ _ => False) { s with toks := s.toks + 1 }) :
    wpAny (model prog w) A (setAttr (.ref x) name v) Q E s := by
  have SF := PySem.F.store_ValueError
  obtain ⟨cd, hc, ho⟩ := any_some c.ov
  refine set_plain X I c.sa ?_
  have sub : Looks (model prog w) s.heap (isInstance (.ref x) (.type "object")) true := I.type.andThen (looks_mroIn X (c.mro (by decide)))
  have hm : Looks (model prog w) s.heap (mroOf (.ref C)) cd.mro := (looks_clsIn X hc).andThen .now
  refine codeAny_call_builtin SF.slot.plain SF.entry (@check_slot (model prog w) _ _ { s with toks := s.toks + 1 } "object.__setattr__" "object" "__setattr__" (.ref x) [.str name s.toks, v] [] _ SF.kind SF.split sub (SF.args (.ref x) (.str name s.toks) v) ?_)
  rw [osa_eq, refuse_eq]
  refine wpAny_bind (wpAny_bind (Looks.here (s := { s with toks := s.toks + 1 }) I.type (wpAny_bind (Looks.here (s := { s with toks := s.toks + 1 }) hm ?_))))
  rw [overV_pass _ ho]
  refine wpAny_pure (wpAny_bind (Looks.here (s := { s with toks := s.toks + 1 }) I.type (wpAny_bind (Looks.here (s := { s with toks := s.toks + 1 }) (looks_findIn X ht) (wpAny_bind (wpAny_pure ?_))))))
  show wpAny _ _ (storeInOwnDict _ _ _ _ _ _) _ _ _
  unfold storeInOwnDict
  refine wpAny_bind (wpAny_pure (wpAny_bind (wpAny_mono h (fun r s' ⟨d, e, z⟩ => ?_) fun _ _ z => z.elim)))
  subst e
  refine wpAny_mono z (fun fin s'' q => ?_) fun _ _ q => q.elim
  rcases fin with (_ | _ | _ | _) | _ <;> first | exact q | exact q.elim
theorem store_ns {d : Addr} {v : Value} {tk : Tok} {ns : List Str} {mA : Str → Option Value} {Q : Fin → Shared → Prop} (hn : s.heap.Ns1 d mA) (hw : Within mA ns) (hz : ns.length < 1000)
    (h : ∀ h', h'.Ns1 d (fun y => if y = name then some v else mA y) → Heap.SameBut d s.heap h' → Q (.done (.ret .none)) { s with heap := h', toks := s.toks + 1 }) :
    wpAny (model prog w) A (storeInDict d (.str name tk) name v) Q E s := by
  unfold storeInDict
  refine wpAny_bind (wpAny_pure (wpAny_bind (wpAny_nsSet1 hn fun h' n' sb => ?_)))
  obtain ⟨oo, es, ep, e1, e2, e3⟩ := n'.count (Within.cons name v hw)
  refine wpAny_bind (wpAny_lookBehind e1 (by rw [e2]; exact pastItsLine_dict (Nat.le_trans e3 (by rw [List.length_cons, sizeLine_eq]; omega))) (wpAny_pure (h h' n' sb)))
/-- the exception has its dict -/
theorem xset_in {dx : Addr} {v : Value} {vs : Array Value} {ns : List Str} {mA : Str → Option Value} {Q : Unit → Shared → Prop} (X : K.In s.heap) (hx : s.heap.get? x = some ⟨.ref C, some dx, .fields vs, #[]⟩) (c : XCls K C) (ht : findIn K (.ref C) name = some none)
    (hn : s.heap.Ns1 dx mA) (hw : Within mA ns) (hz : ns.length < 1000)
    (h : ∀ h' tk, h'.Ns1 dx (fun y => if y = name then some v else mA y) → Heap.SameBut dx s.heap h' → Q () { s with heap := h', toks := tk }) : wpAny (model prog w) A (setAttr (.ref x) name v) Q E s := by
  obtain ⟨odd, hod, _⟩ := lookIn_ns hn
  have I : InstAt s.heap x ⟨.ref C, some dx, .fields vs, #[]⟩ C (some odd) := ⟨hx, rfl, rfl, hod⟩
  obtain ⟨cd, hc, hd⟩ := any_some c.hd
  refine xset_open X I c ht ?_
  show wpAny _ _ (instanceDict x true) _ _ _
  unfold instanceDict
  refine wpAny_bind (wpAny_loadPart hx (wpAny_bind (Looks.here (s := { s with toks := s.toks + 1 }) (looks_clsIn X hc) ?_)))
  rw [hd]
  refine wpAny_pure (a := some dx) ⟨dx, rfl, store_ns (s := { s with toks := s.toks + 1 }) hn hw hz fun h' n' sb => h h' _ n' sb⟩
/-- .. or gets it: the next address -/
theorem xset_new {v : Value} {vs : Array Value} {Q : Unit → Shared → Prop} (X : K.In s.heap) (hx : s.heap.get? x = some ⟨.ref C, none, .fields vs, #[]⟩) (c : XCls K C) (ht : findIn K (.ref C) name = some none)
    (h : ∀ h1 h' tk, h1 = (s.heap.push emptyDict).update x (fun o => { o with dict := some s.heap.objs.size }) → h'.Ns1 s.heap.objs.size (fun y => if y = name then some v else none) → Heap.SameBut s.heap.objs.size h1 h' → Q () { s with heap := h', toks := tk }) :
    wpAny (model prog w) A (setAttr (.ref x) name v) Q E s := by
  have I : InstAt s.heap x ⟨.ref C, none, .fields vs, #[]⟩ C none := ⟨hx, rfl, rfl, trivial⟩
  obtain ⟨cd, hc, hd⟩ := any_some c.hd
  have hlt := Heap.lt_size hx
  refine xset_open X I c ht ?_
  show wpAny _ _ (instanceDict x true) _ _ _
  unfold instanceDict
  refine wpAny_bind (wpAny_loadPart hx (wpAny_bind (Looks.here (s := { s with toks := s.toks + 1 }) (looks_clsIn X hc) ?_)))
  rw [hd]
  dsimp only
  rw [if_neg (by simp [typeHasDict])]
  have hx1 : (s.heap.push emptyDict).get? x = some ⟨.ref C, none, .fields vs, #[]⟩ := Heap.get?_push_of_some _ hx
  refine wpAny_bind (wpAny_alloc' (wpAny_bind (wpAny_update' hx1 (wpAny_pure ⟨_, rfl, ?_⟩))))
  have hg : ((s.heap.push emptyDict).update x fun o => { o with dict := some s.heap.objs.size }).get? s.heap.objs.size = some emptyDict := (Heap.get?_update_ne _ _ _ _ (Nat.ne_of_gt hlt)).trans (Heap.get?_push_at rfl rfl)
  have hns : ((s.heap.push emptyDict).update x fun o => { o with dict := some s.heap.objs.size }).Ns s.heap.objs.size (fun _ => none) := ⟨_, #[], _, hg, rfl, fun e he => absurd he (by simp), fun _ => rfl⟩
  exact store_ns (s := { s with heap := (s.heap.push emptyDict).update x fun o => { o with dict := some s.heap.objs.size }, toks := s.toks + 1 }) (ns := []) (Heap.Ns1.of_empty hns) Within.nil (by decide) fun h' n' sb => h _ h' _ rfl n' sb
end
end CT

set_option Elab.async false
set_option linter.all false
set_option maxRecDepth 100000
set_option maxHeartbeats 400000
/-! OWN EXCEPTIONS: made -/
namespace CT
open PySem PySem.Spec PySem.W L2
/-- a class of exceptions that is made by ValueError's way -/
def xmkIn (K : Frag) (C : Addr) : Bool := match K.lookup C with
  | some ⟨.type "type", _, .cls cd, sl⟩ => (match sl.toList with | [_, _, _, _, some (.builtin n), _] => n == "ValueError.__new__" | _ => false) && cd.mro.head? == some (.ref C) && tailIn K bmV cd.mro.tail && !cd.hasDel
  | _ => false
theorem xmk_of {K : Frag} {C : Addr} (e : xmkIn K C = true) : ∃ nm q N bs bm hdct sn sub ab col dd k0 k1 k2 k3 k5, K.lookup C = some (excClassObj nm q C N bs bm hdct sn sub ab col dd k0 k1 k2 k3 k5 "ValueError.__new__") ∧ tailIn K bmV bm = true := by
  unfold xmkIn at e
  split at e
  · rename_i dd cd sl ho
    simp only [Bool.and_eq_true, beq_iff_eq, Bool.not_eq_true'] at e
    obtain ⟨⟨⟨e1, e2⟩, e3⟩, e4⟩ := e
    split at e1
    · rename_i k0 k1 k2 k3 n k5 hs
      obtain ⟨nm, bs, mro, ns, qn, hd, sn, sub, ab, col, del⟩ := cd
      dsimp only at e2 e3 e4
      cases mro with
      | nil => cases e2
      | cons v bm =>
        obtain rfl : v = .ref C := by simpa using e2
        have hsl : sl = #[k0, k1, k2, k3, some (.builtin n), k5] := by
          obtain ⟨l⟩ := sl
          exact congrArg Array.mk hs
        subst hsl e4
        rw [show n = "ValueError.__new__" from beq_iff_eq.mp e1] at ho
        exact ⟨nm, qn, ns, bs, bm, hd, sn, sub, ab, col, dd, k0, k1, k2, k3, k5, ho, e3⟩
    · cases e1
  · cases e

abbrev argsTup (us : List Value) : Obj := { cls := .type "tuple", data := .seq us.toArray }
abbrev excObj (C t : Addr) : Obj := { cls := .ref C, data := .fields #[.ref t, .none, .none, .none, .bool false, .none] }
section
variable {prog : Program} {w : World} {A : Around} {K : Frag} {C f : Addr} {s : Shared} {R : Result → Shared → Prop} {us : List Value}
theorem type_call_x {Q : Fin → Shared → Prop} {E : Value → Shared → Prop} (X : K.In s.heap) (hm : xmkIn K C = true) (hi : findIn K (.ref C) "__init__" = some (some (.ref f))) (hf : typeIn K (.ref f) = some (.type "function")) (hl : us.length ≤ sizeLine)
    (h : codeAny (model prog w) A (.call (.ref f) ⟨.ref (s.heap.objs.size + 1) :: us, []⟩) (fun r s' => match r with | .ok (.ret v) => v = .none ∧ Q (.done (.ret (.ref (s.heap.objs.size + 1)))) s' | .ok _ => False | .error e => E e s')
      { s with heap := (s.heap.push (argsTup us)).push (excObj C s.heap.objs.size) }) :
    wpAny (model prog w) A (Builtin.«type.__call__» ⟨.ref C :: us, []⟩) Q E s := by
  obtain ⟨nm, q, N, bs, bm, hdct, sn, sub, ab, col, dd, k0, k1, k2, k3, k5, ho, ht⟩ := xmk_of hm
  have FB := PySem.F.excBase_ValueError
  obtain ⟨hh, g, d, t, os⟩ := s
  have hC := X _ _ ho
  have T := tail_of_in X ht
  repeat (first | with_reducible refine wpAny_loadPart_at hC ?_ | with_reducible refine wpAny_madeBy_exc hC ?_ | wp_step)
  refine codeAny_call_builtin_code (Code.quiet_builtin _ FB.quiet) (wpAny_check_new_subT FB T hC ?_)
  refine codeAny_exc_new_subT (hrest := hl) FB T hC ?_
  have kk : ∀ b o, hh.get? b = some o → ((hh.push (argsTup us)).push (excObj C hh.objs.size)).get? b = some o := fun b o e => Heap.get?_push_of_some _ (Heap.get?_push_of_some _ e)
  have X1 : K.In ((hh.push (argsTup us)).push (excObj C hh.objs.size)) := X.keeps kk
  have hg : ((hh.push (argsTup us)).push (excObj C hh.objs.size)).get? (hh.objs.size + 1) = some (excObj C hh.objs.size) := by heap_get
  have J : InstAt ((hh.push (argsTup us)).push (excObj C hh.objs.size)) (hh.objs.size + 1) (excObj C hh.objs.size) C none := ⟨hg, rfl, rfl, trivial⟩
  have L0 := J.type (M := model prog w)
  have L1 : Looks (model prog w) ((hh.push (argsTup us)).push (excObj C hh.objs.size)) (isSubtype (.ref C) (.ref C)) true := by
    refine looks_mroIn X1 ?_
    unfold mroIn clsIn
    rw [ho]
    simp
  have L2 := looks_findIn (M := model prog w) X1 hi
  have L3 := bind_fn (M := model prog w) X1 (.ref (hh.objs.size + 1)) hf
  show wpAny _ _ _ _ _ _
  unfold isInstance callSpecial? specialOf
  repeat (first | with_reducible refine wpAny_call ?_ | lk)
  refine codeAny_mono h fun r s' z => ?_
  rcases r with e | (v | _ | _ | _) <;> first | exact z | exact z.elim | skip
  obtain ⟨rfl, z⟩ := z
  exact wpAny_pure (wpAny_pure z)
theorem make_x (X : K.In s.heap) (hm : xmkIn K C = true) (hi : findIn K (.ref C) "__init__" = some (some (.ref f))) (hf : typeIn K (.ref f) = some (.type "function")) (hl : us.length ≤ sizeLine)
    (h : codeAny (model prog w) (A.under (.builtin "type.__call__" ⟨.ref C :: us, []⟩)) (.call (.ref f) ⟨.ref (s.heap.objs.size + 1) :: us, []⟩) (InitBack (s.heap.objs.size + 1) R)
      { s with heap := (s.heap.push (argsTup us)).push (excObj C s.heap.objs.size) }) :
    codeAny (model prog w) A (.call (.ref C) ⟨us, []⟩) R s := by
  obtain ⟨nm, q, N, bs, bm, hdct, sn, sub, ab, col, dd, k0, k1, k2, k3, k5, ho, ht⟩ := xmk_of hm
  have hC := X _ _ ho
  have f1 := tc_lookup
  have f2 := tc_bind (.ref C)
  have hT : s.TypeIs (.ref C) "type" := ⟨_, hC, rfl⟩
  refine codeAny_of_tree ?_
  show wpAny _ _ (callAny (.ref C) _) _ _ _
  obtain ⟨hh, g, d, t, os⟩ := s
  repeat (any_goals (first | assumption | with_reducible refine wpAny_loadPart_at hC ?_ | wp_step))
  refine ⟨rfl, codeAny_call_builtin_at (Code.quiet_builtin _ (by decide +kernel)) entry_typeCall (wpAny_check_type_call_sub hC (type_call_x X hm hi hf hl (codeAny_mono h fun r s' z => ?_)))⟩
  rcases r with e | (v | _ | _ | _) <;> first | exact z | exact z.elim
end
end CT

set_option Elab.async false
set_option linter.all false
set_option maxRecDepth 100000
set_option maxHeartbeats 400000
/-! OWN EXCEPTIONS: rules of the layer -/
namespace CT
open PySem PySem.Spec PySem.W L2
/-- an exception; fr: it has not been raised yet -/
def ExcIs (fr : Bool) (x C : Addr) (dx : Option Addr) : HO := .ext fun h => ∃ vs, h.get? x = some ⟨.ref C, dx, .fields vs, #[]⟩ ∧ vs.size = 6 ∧ (fr = true → vs[1]? = some .none)
def NsIs (d : Addr) (fs : List (Str × V)) : HO := .ext fun h => ∃ mA, h.Ns1 d mA ∧ (∀ f, RelO (fs.lookup f) (mA f)) ∧ Within mA (fs.map (·.1))
section
variable {P : Program} {w : World} {H : Hp} {h : Heap} {x C d : Addr} {dx : Option Addr} {fs : List (Str × V)} {fr : Bool}
theorem exc_at (o : ObjOk P w H h x (ExcIs fr x C dx)) : ∃ vs, h.get? x = some ⟨.ref C, dx, .fields vs, #[]⟩ ∧ vs.size = 6 ∧ (fr = true → vs[1]? = some .none) := o.1
theorem exc_ok {vs : Array Value} (e : h.get? x = some ⟨.ref C, dx, .fields vs, #[]⟩) (hz : vs.size = 6) (hf : fr = true → vs[1]? = some .none) : ObjOk P w H h x (ExcIs fr x C dx) := ⟨⟨vs, e, hz, hf⟩, ⟨_, e⟩, fun _ _ ⟨us, q, z⟩ k => ⟨us, k _ q, z⟩⟩
theorem ns_at (o : ObjOk P w H h d (NsIs d fs)) : ∃ mA, h.Ns1 d mA ∧ (∀ f, RelO (fs.lookup f) (mA f)) ∧ Within mA (fs.map (·.1)) := o.1
theorem ns_ok {mA : Str → Option Value} (n : h.Ns1 d mA) (r : ∀ f, RelO (fs.lookup f) (mA f)) (q : Within mA (fs.map (·.1))) : ObjOk P w H h d (NsIs d fs) :=
  ⟨⟨mA, n, r, q⟩, let ⟨o, _, _, e, _⟩ := n; ⟨o, e⟩, fun _ _ ⟨m, n', r', q'⟩ k => ⟨m, n'.at k, r', q'⟩⟩
end
section
variable {X : Cx} {pins : List (Addr × Obj)} {σ : St} {H : Hp} {s : Shared} {a C dx : Addr} {fs : List (Str × V)} {f : Str} {v : V} {A : Around} {E : Value → Shared → Prop} {fr : Bool}
theorem xinst (I : Inv X pins σ H s) (e : H a = some (ExcIs fr a C (some dx))) (n : H dx = some (NsIs dx fs)) : ∃ vs mA odd, s.heap.get? a = some ⟨.ref C, some dx, .fields vs, #[]⟩ ∧ s.heap.Ns1 dx mA ∧ (∀ f, RelO (fs.lookup f) (mA f)) ∧ Within mA (fs.map (·.1)) ∧
    InstAt s.heap a ⟨.ref C, some dx, .fields vs, #[]⟩ C (some odd) ∧ ∀ name, lookIn name odd = some (mA name) := by
  obtain ⟨vs, h1, _⟩ := exc_at (I.hok a _ e)
  obtain ⟨mA, h2, r, q⟩ := ns_at (I.hok dx _ n)
  obtain ⟨odd, h3, h4⟩ := lookIn_ns h2
  exact ⟨vs, mA, odd, h1, h2, r, q, ⟨h1, rfl, rfl, h3⟩, h4⟩
theorem getx {b : Bool} {Q : Value → Shared → Prop} (I : Inv X pins σ H s) (e : H a = some (ExcIs fr a C (some dx))) (n : H dx = some (NsIs dx fs)) (c : XCls X.K C) (na : NoAttr X.K C f) (l : fs.lookup f = some v)
    (h : ∀ u s', Inv X pins σ H s' → RelV v u → Q u s') : wpAny (model X.prog X.w) A (getAttr (.ref a) f b) Q E s := by
  obtain ⟨vs, mA, odd, h1, h2, r, q, J, hl⟩ := xinst I e n
  obtain ⟨u, hu, ru⟩ := RelO.some_of (v := v) (o := mA f) (by rw [← l]; exact r f)
  exact xget_own I.kIn J c na (by rw [hl, hu]) (handed_of ru) (h u _ (I.tok _) ru)
theorem setx0 {y : V} {u : Value} {Q : Unit → Shared → Prop} (I : Inv X pins σ H s) (e : H a = some (ExcIs fr a C none)) (c : XCls X.K C) (na : NoAttr X.K C f) (ry : RelV y u)
    (h : ∀ d s', H d = none → d ≠ a → Inv X pins σ (upd (upd (upd H d (NsIs d [])) a (ExcIs fr a C (some d))) d (NsIs d [(f, y)])) s' → Q () s') : wpAny (model X.prog X.w) A (setAttr (.ref a) f u) Q E s := by
  obtain ⟨vs, hx, hz, hfr⟩ := exc_at (I.hok a _ e)
  have hlt := Heap.lt_size hx
  have hne : s.heap.objs.size ≠ a := Nat.ne_of_gt hlt
  refine xset_new I.kIn hx c na fun h1 h' tk e1 n' sb => h s.heap.objs.size _ (I.hok.fresh (Nat.le_refl _)) hne ?_
  have hg : (s.heap.push emptyDict).get? s.heap.objs.size = some emptyDict := Heap.get?_push_at rfl rfl
  have hns : (s.heap.push emptyDict).Ns s.heap.objs.size (fun _ => none) := ⟨_, #[], _, hg, rfl, fun e he => absurd he (by simp), fun _ => rfl⟩
  have I1 := I.laid (a := s.heap.objs.size) (o := NsIs s.heap.objs.size []) (h' := s.heap.push emptyDict) (t' := s.toks) (fun b u q => Heap.get?_push_of_some _ q) (Nat.le_refl _) (ns_ok (Heap.Ns1.of_empty hns) (fun _ => True.intro) fun y hy => absurd rfl hy)
  have hx1 : (s.heap.push emptyDict).get? a = some ⟨.ref C, none, .fields vs, #[]⟩ := Heap.get?_push_of_some _ hx
  have hx2 : h1.get? a = some ⟨.ref C, some s.heap.objs.size, .fields vs, #[]⟩ := by rw [e1]; exact Heap.get?_update_self _ hx1 rfl
  have I2 := I1.write (x := a) (e := a) (o := ExcIs fr a C (some s.heap.objs.size)) (h' := h1) (t' := s.toks) (by rw [upd_ne hne.symm, e]; exact True.intro) (.inl rfl) (fun b q hb z => by rw [e1]; exact (Heap.get?_update_ne _ _ _ _ hb).trans z) ⟨_, hx2⟩ (exc_ok hx2 hz hfr)
  refine I2.write (x := s.heap.objs.size) (e := s.heap.objs.size) (o := NsIs s.heap.objs.size [(f, y)]) (t' := tk) (by rw [upd_ne hne, upd_same]; exact True.intro) (.inl rfl) (fun b q hb z => (sb.2 b hb).trans z) (let ⟨o, _, _, q, _⟩ := n'; ⟨o, q⟩) (ns_ok n' (fun g => ?_) fun g hg => ?_)
  · show RelO (List.lookup g [(f, y)]) (if g = f then some u else none)
    by_cases q : g = f
    · subst q; simp [List.lookup]; exact ry
    · rw [if_neg q, List.lookup_cons, show (g == f) = false from beq_eq_false_iff_ne.mpr q]; exact True.intro
  · by_cases q : g = f
    · subst q; exact List.mem_singleton.mpr rfl
    · exact absurd (if_neg q) hg
theorem setx1 {y : V} {u : Value} {Q : Unit → Shared → Prop} (I : Inv X pins σ H s) (e : H a = some (ExcIs fr a C (some dx))) (n : H dx = some (NsIs dx fs)) (c : XCls X.K C) (na : NoAttr X.K C f) (hl : fs.length < 1000) (ry : RelV y u)
    (h : ∀ s', Inv X pins σ (upd H dx (NsIs dx (putF f y fs))) s' → Q () s') : wpAny (model X.prog X.w) A (setAttr (.ref a) f u) Q E s := by
  obtain ⟨vs, mA, odd, h1, h2, r, q, J, _⟩ := xinst I e n
  refine xset_in I.kIn h1 c na h2 q (by rw [List.length_map]; exact hl) fun h' tk n' sb => h _ ?_
  refine I.write (x := dx) (e := dx) (o := NsIs dx (putF f y fs)) (t' := tk) (by rw [n]; exact True.intro) (.inl rfl) (fun b q hb z => (sb.2 b hb).trans z) (let ⟨o, _, _, q, _⟩ := n'; ⟨o, q⟩) (ns_ok n' (fun g => ?_) fun g hg => ?_)
  · show RelO ((putF f y fs).lookup g) (if g = f then some u else mA g)
    rw [lookup_putF]
    by_cases z : g = f
    · rw [if_pos z, if_pos z]; exact ry
    · rw [if_neg z, if_neg z]; exact r g
  · by_cases z : g = f
    · rw [z]; exact (keys_putF f y fs).1
    · refine (keys_putF f y fs).2 g (q g fun zz => hg ?_)
      show (if g = f then some u else mA g) = none
      rw [if_neg z]; exact zz
end
section
variable {X : Cx} {o value e : Expr} {ta tv : TE} {f : Str} {pos pos' p : Pos}
/-- e.f of an exception -/
def tXFld (K : Frag) (ta : TE) (f : Str) : TE := fun σ H Q => ta σ H fun x H1 => ∃ fr a C dx fs v, x = .ref a ∧ H1 a = some (ExcIs fr a C (some dx)) ∧ H1 dx = some (NsIs dx fs) ∧ XCls K C ∧ NoAttr K C f ∧ fs.lookup f = some v ∧ Q v H1
theorem pe_xfld (he : PE X e ta) (hb : attributeBase e f X.env (eval e X.env) = eval e X.env) : PE X (.Attribute e f pos) (tXFld X.K ta f) := by
  intro pins s σ H Q I h
  refine attr_of hb (thn (he pins s σ H _ I h) fun u s1 ⟨x, H1, I1, rx, fr, a, C, dx, fs, v, ex, ea, en, c, n, l, q⟩ => ?_)
  subst ex
  obtain rfl : u = Value.ref a := rx
  exact getx I1 ea en c n l fun u' s2 I2 ru => ⟨v, H1, I2, ru, q⟩
def sX0 (K : Frag) (ta tv : TE) (f : Str) : TS := fun D σ H => tv σ H fun y H1 => ta σ H1 fun x H2 => ∃ fr a C, x = .ref a ∧ H2 a = some (ExcIs fr a C none) ∧ XCls K C ∧ NoAttr K C f ∧
  ∀ d, H2 d = none → d ≠ a → D.nx σ (upd (upd (upd H2 d (NsIs d [])) a (ExcIs fr a C (some d))) d (NsIs d [(f, y)]))
theorem ps_x0 (ha : PE X o ta) (hv : PE X value tv) (hs : swapsWith value (some (.Attribute o f pos')) pos.line X.env = pure false) : PS X (.Assign [.Attribute o f pos'] value pos) (sX0 X.K ta tv f) := by
  intro pins s σ H D I h
  refine plainObj_wpAny_Assign_Attribute (thn (hv pins s σ H _ I h) fun u s1 ⟨y, H1, I1, ry, q⟩ => thn (ha pins s1 σ H1 _ I1 q) fun ov s2 ⟨x, H2, I2, rx, fr, a, C, ex, ea, c, n, q2⟩ => ?_) hs
  subst ex
  obtain rfl : ov = Value.ref a := rx
  exact setx0 I2 ea c n ry fun d s3 hd hne I3 => ⟨σ, _, I3, q2 d hd hne⟩
def sX1 (K : Frag) (ta tv : TE) (f : Str) : TS := fun D σ H => tv σ H fun y H1 => ta σ H1 fun x H2 => ∃ fr a C dx fs, x = .ref a ∧ H2 a = some (ExcIs fr a C (some dx)) ∧ H2 dx = some (NsIs dx fs) ∧ XCls K C ∧ NoAttr K C f ∧ fs.length < 1000 ∧
  D.nx σ (upd H2 dx (NsIs dx (putF f y fs)))
theorem ps_x1 (ha : PE X o ta) (hv : PE X value tv) (hs : swapsWith value (some (.Attribute o f pos')) pos.line X.env = pure false) : PS X (.Assign [.Attribute o f pos'] value pos) (sX1 X.K ta tv f) := by
  intro pins s σ H D I h
  refine plainObj_wpAny_Assign_Attribute (thn (hv pins s σ H _ I h) fun u s1 ⟨y, H1, I1, ry, q⟩ => thn (ha pins s1 σ H1 _ I1 q) fun ov s2 ⟨x, H2, I2, rx, fr, a, C, dx, fs, ex, ea, en, c, n, hl, q2⟩ => ?_) hs
  subst ex
  obtain rfl : ov = Value.ref a := rx
  exact setx1 I2 ea en c n hl ry fun s3 I3 => ⟨σ, _, I3, q2⟩
end
end CT

set_option Elab.async false
set_option linter.all false
set_option maxRecDepth 100000
set_option maxHeartbeats 400000
/-! OWN EXCEPTIONS: made, by rules of the layer -/
namespace CT
open PySem PySem.Spec PySem.W L2
section
variable {X : Cx} {pins : List (Addr × Obj)} {σ : St} {H : Hp} {s : Shared} {h' : Heap}
theorem HOk.noAt {P : Program} {w : World} {h : Heap} {a : Addr} (x : HOk P w H h) (e : h.get? a = none) : H a = none := by
  cases q : H a with
  | none => rfl
  | some o =>
    have hx := x a o q
    have : ∃ u, h.get? a = some u := by
      cases o with
      | lst xs => obtain ⟨_, _, _, _, z⟩ := hx; exact ⟨_, z⟩
      | tup xs => obtain ⟨_, _, _, o, z, _⟩ := hx; exact ⟨_, z⟩
      | dK kvs => obtain ⟨_, _, _, _, o, _, _, z, _⟩ := hx; exact ⟨_, z⟩
      | dT kvs => obtain ⟨_, _, _, _, o, _, _, z, _⟩ := hx; exact ⟨_, z⟩
      | set S n => obtain ⟨o, _, _, _, z, _⟩ := hx; exact ⟨_, z⟩
      | ins C dx fs => obtain ⟨_, _, _, z, _⟩ := hx; exact ⟨_, z⟩
      | own y => exact hx
      | xd fs => obtain ⟨_, ⟨_, _, _, z, _⟩, _⟩ := hx; exact ⟨_, z⟩
      | rng lo hi => obtain ⟨_, _, _, z⟩ := hx; exact ⟨_, z⟩
      | frz ob u => obtain ⟨z, _⟩ := hx; exact ⟨_, z⟩
      | tbl ps => exact ⟨_, hx⟩
      | met f y => exact ⟨_, hx⟩
      | ext φ => exact hx.2.1
    obtain ⟨u, z⟩ := this
    rw [e] at z; cases z
theorem Inv.laidN {a : Addr} {o : HO} {t' : Nat} (I : Inv X pins σ H s) (k : ∀ b u, s.heap.get? b = some u → h'.get? b = some u) (hp : s.heap.get? a = none) (new : ObjOk X.prog X.w (upd H a o) h' a o) :
    Inv X pins σ (upd H a o) { s with heap := h', toks := t' } := by
  have hn := HOk.noAt I.hok hp
  refine I.un (Un.mk (fun b u q _ _ _ => k b u q) (fun b u q _ _ _ => ⟨u.slots, k b u q⟩) (fun b u q n _ => ?_) (fun b u q _ => ⟨u, k b u q⟩) (fun b xs q => ?_) (fun b u xs q => ?_) fun b ps q => ⟨#[], ?_⟩) fun b u q => ?_
  · rw [upd_ne (fun z => by rw [z, hp] at q; cases q)]; exact n
  · rw [upd_ne (ne_of_none q hn)]; exact q
  · rw [upd_ne (ne_of_none q hn)]; exact q
  · rw [upd_ne (ne_of_none q hn), q]; simp
  · by_cases hb : b = a
    · subst hb; rw [upd_same] at q; cases q; exact new
    · rw [upd_ne hb] at q
      exact (I.hok b u q).stay (fun c v _ z => k c v z) (fun c z => by rw [upd_ne (ne_of_none z hn)]; exact z) fun c xs z => by rw [upd_ne (ne_of_none z hn)]; exact z
end
section
variable {X : Cx} {pins : List (Addr × Obj)} {σ : St} {H : Hp} {s : Shared} {C f : Addr} {k : Nat} {CX : CXT} {fd : FuncData} {ps : List Str} {sp : Sp} {E : XK} {x : Str} {p pos : Pos} {e : Expr} {es : List Expr} {t : TA}
/-- a class of exceptions without an __init__ of its own: excIn of the library -/
theorem run_x0 {us : List Value} {Q : VK} (I : Inv X pins σ H s) (hm : excIn X.K C bmV "ValueError.__new__" = true) (hl : us.length ≤ sizeLine) (h : ∀ a, H a = none → Q (.ref a) (upd H a (ExcIs true a C none))) :
    wpAny (model X.prog X.w) X.A (call (.ref C) us) (EP X pins σ Q) X.xe s := by
  have K := I.kIn
  unfold excIn at hm
  split at hm
  · rename_i dd cd sl ho
    split at hm
    · rename_i C' bm k0 k1 k2 k3 n k5 e1 e2
      simp only [Bool.and_eq_true, beq_iff_eq, Bool.not_eq_true'] at hm
      obtain ⟨⟨⟨⟨⟨rfl, rfl⟩, hdel⟩, ht⟩, hok⟩, hni⟩ := hm
      obtain ⟨nm, bs, mro, ns, qn, hd, sn, sub, ab, col, del⟩ := cd
      dsimp only at e1 hdel hok hni
      subst e1 hdel
      have hsl : sl = #[k0, k1, k2, k3, some (.builtin "ValueError.__new__"), k5] := by
        obtain ⟨l⟩ := sl
        exact congrArg Array.mk e2
      subst hsl
      obtain ⟨hh, g, d, tk, os⟩ := s
      refine wpAny_call_exc_subT PySem.F.excBase_ValueError (tail_of_in K ht) (K _ _ ho) (.of_isNs (isNs_of_in K hok)) (nsMap_none_of_in K hok hni) (fun h' a made => ?_) hl
      obtain ⟨tt, h1, _, _⟩ := made.there
      exact ⟨.ref a, _, CT.Inv.laidN (t' := tk) I made.keeps made.new (exc_ok h1 rfl fun _ => rfl), rfl, h a (HOk.noAt I.hok made.new)⟩
    · cases hm
  · cases hm
def tX0 (C : Addr) : TE := fun _ H Q => ∀ a, H a = none → Q (.ref a) (upd H a (ExcIs true a C none))
theorem pe_x0 (hm : excIn X.K C bmV "ValueError.__new__" = true) (hk : keepIn X.K (.ref C) = true) (hg : Gl X x) (hx : X.mg x = some (.ref C)) (hdb : (x == ("__debug__" : Str)) = false := by decide) : PE X (.Call (.Name x p) [] [] pos) (tX0 C) := by
  intro pins s σ H Q I h
  refine wpAny_Call_Name_kw (ld_glob I hg hx ?_ hdb)
  exact callWith_K0 I.kIn hk (run_x0 (us := []) I hm (Nat.zero_le _) h)

/-- .. with one -/
structure XMk (K : Frag) (C f : Addr) : Prop where
  makes : xmkIn K C = true
  init : findIn K (.ref C) "__init__" = some (some (.ref f))
  fn : isFn K (.ref f) = true
  kp : keepIn K (.ref C) = true
theorem run_x {Q : VK} {us : List Value} {vs : List V} (M : XMk X.K C f) (F : FnOk X.prog X.w X.K X.mg X.base CX k f fd ps sp) (hr : Room (k + 1) X.A) (hb : Binds X.K fd ps []) (hx : Passes CX X E) (I : Inv X pins σ H s) (r : Vals vs us) (hl : us.length ≤ sizeLine)
    (h : ∀ a, H a = none → sp (.ref a :: vs) (upd H a (ExcIs true a C none)) (fun v H2 => v = .non ∧ Q (.ref a) H2) E) : wpAny (model X.prog X.w) X.A (call (.ref C) us) (EP X pins σ Q) X.xe s := by
  have hq := h (s.heap.objs.size + 1) (I.hok.fresh (Nat.le_succ _))
  have hg : ((s.heap.push (argsTup us)).push (excObj C s.heap.objs.size)).get? (s.heap.objs.size + 1) = some (excObj C s.heap.objs.size) := by heap_get
  have I2 : Inv X pins σ (upd H (s.heap.objs.size + 1) (ExcIs true (s.heap.objs.size + 1) C none)) { s with heap := (s.heap.push (argsTup us)).push (excObj C s.heap.objs.size) } :=
    I.laid (t' := s.toks) (fun b u q => Heap.get?_push_of_some _ (Heap.get?_push_of_some _ q)) (Nat.le_succ _) (exc_ok hg rfl fun _ => rfl)
  have r2 : Vals (V.ref (s.heap.objs.size + 1) :: vs) (Value.ref (s.heap.objs.size + 1) :: us) := .cons rfl r
  have hn : (Value.ref (s.heap.objs.size + 1) :: us).length = ps.length := by rw [← r2.length]; exact F.len _ _ _ _ hq
  refine wpAny_call (make_x I.kIn M.makes M.init (beq_iff_eq.mp M.fn) hl (codeAny_mono (F.run _ X.stack _ _ ⟨Value.ref (s.heap.objs.size + 1) :: us, []⟩ (Value.ref (s.heap.objs.size + 1) :: us) _ _ E (hr.make C us [])
    (I2.env0.make C us []) (by have := hb _ (Value.ref (s.heap.objs.size + 1) :: us) I2.kIn (by rw [List.append_nil]; exact hn); rw [List.append_nil] at this; exact this) r2 hq) fun r s' hq' => ?_))
  cases r with
  | error e => exact hx pins σ _ _ e s' I2 hq'
  | ok fl =>
    cases fl with
    | ret u =>
      obtain ⟨v, H', I3, rv, ev, q3⟩ := I2.after hq'
      subst ev
      exact ⟨rv, V.ref (s.heap.objs.size + 1), H', I3, rfl, q3⟩
    | next => exact False.elim hq'
    | brk => exact False.elim hq'
    | cont => exact False.elim hq'
def tXMk (C : Addr) (sp : Sp) (E : XK) (t : TA) : TE := fun σ H Q => t σ H fun vs H1 => vs.length ≤ 1000 ∧ ∀ a, H1 a = none → sp (.ref a :: vs) (upd H1 a (ExcIs true a C none)) (fun v H2 => v = .non ∧ Q (.ref a) H2) E
theorem pe_xmk (M : XMk X.K C f) (F : FnOk X.prog X.w X.K X.mg X.base CX k f fd ps sp) (hr : Room (k + 1) X.A) (hg : Gl X x) (hm : X.mg x = some (.ref C)) (hb : Binds X.K fd ps []) (hx : Passes CX X E) (ha : PA X (e :: es) t)
    (hdb : (x == ("__debug__" : Str)) = false := by decide) (he : starEach (e :: es) X.env = (false, eval e X.env) :: starEach es X.env := by rfl) (hpl : (backTo pos (starEach es X.env)).any (·.1) = false := by rfl) :
    PE X (.Call (.Name x p) (e :: es) [] pos) (tXMk C sp E t) := by
  intro pins s σ H Q I h
  refine wpAny_Call_Name_kw (ld_glob I hg hm ?_ hdb)
  refine callWith_K (h₀ := X.base) I.ok.mod.kin M.kp (thn (ha pos pins s σ H _ I h) fun us s1 ⟨vs, H1, I1, r, hl, q⟩ => ⟨I1.kIn, ?_⟩) he hpl
  exact run_x M F hr hb hx I1 r (by show us.length ≤ _; rw [← r.length, sizeLine_eq]; omega) q
end

/-! ### __init__ of one field, of two -/
def spX (C : Addr) (fls : List Str) : Sp := fun vs H Q _ => ∃ a us, vs = .ref a :: us ∧ us.length = fls.length ∧ H a = some (ExcIs true a C none) ∧
  ∀ d H', H d = none → d ≠ a → H' a = some (ExcIs true a C (some d)) → H' d = some (NsIs d (fls.zip us)) → (∀ b, b ≠ a → b ≠ d → H' b = H b) → Q .non H'
section
variable {P : Program} {w : World} {K : Frag} {mg : Str → Option Value} {base : Heap} {qual : Str} {st : Stmt} {f C : Addr} {fd : FuncData} {fl gl y z : Str} {p1 p2 p3 p4 q1 q2 q3 q4 : Pos}
theorem fn_x1 (F : Fun K "__init__" qual st f fd) (S : FnScope ["self", y] ["self", y] (defScope st)) (hb : defBody st = [.Assign [.Attribute (.Name "self" p1) fl p2] (.Name y p3) p4]) (c : XCls K C) (na : NoAttr K C fl)
    (hd : (y == ("__debug__" : Str)) = false := by decide) (hcd : (y == ("__classdict__" : Str)) = false := by decide) : FnOk P w K mg base CX0 1 f fd ["self", y] (spX C [fl]) := by
  refine F.ok (k := 0) S ?_ ?_
  · rintro vs H Q E ⟨a, us, rfl, hl, _⟩
    rw [List.length_cons, hl]; rfl
  · rintro cdv A outer s H vs Q E hr ⟨a, us, rfl, hl, ha, kk⟩
    obtain ⟨u, rfl⟩ : ∃ u, us = [u] := by
      cases us with
      | nil => cases hl
      | cons u r => cases r with
        | nil => exact ⟨u, rfl⟩
        | cons _ _ => cases hl
    rw [hb]
    have v0 := (pe_var (X := (cxOf CX0 P w K mg base ["self", y] qual (defScope st) f cdv A outer s H E).nox) (i := 0) (x := "self") (pos := p1) rfl ((S.par "self" (by simp)).imp_right .inl))
    have v1 := (pe_var (X := (cxOf CX0 P w K mg base ["self", y] qual (defScope st) f cdv A outer s H E).nox) (i := 1) (x := y) (pos := p3) rfl ((S.par y (by simp)).imp_right .inl) hd hcd)
    refine ⟨_, pss_one (ps_x0 v0 v1 (by rfl)), ?_⟩
    refine ⟨u, rfl, .ref a, rfl, true, a, C, rfl, ha, c, na, fun d hd hne => kk d _ hd hne ?_ upd_same fun b h1 h2 => ?_⟩
    · rw [upd_ne hne.symm, upd_same]
    · rw [upd_ne h2, upd_ne h1, upd_ne h2]
theorem fn_x2 (F : Fun K "__init__" qual st f fd) (S : FnScope ["self", y, z] ["self", y, z] (defScope st)) (hb : defBody st = [.Assign [.Attribute (.Name "self" p1) fl p2] (.Name y p3) p4, .Assign [.Attribute (.Name "self" q1) gl q2] (.Name z q3) q4]) (c : XCls K C) (na : NoAttr K C fl)
    (nb : NoAttr K C gl) (hfg : fl ≠ gl) (hd : (y == ("__debug__" : Str)) = false := by decide) (hcd : (y == ("__classdict__" : Str)) = false := by decide) (hd' : (z == ("__debug__" : Str)) = false := by decide) (hcd' : (z == ("__classdict__" : Str)) = false := by decide) :
    FnOk P w K mg base CX0 1 f fd ["self", y, z] (spX C [fl, gl]) := by
  refine F.ok (k := 0) S ?_ ?_
  · rintro vs H Q E ⟨a, us, rfl, hl, _⟩
    rw [List.length_cons, hl]; rfl
  · rintro cdv A outer s H vs Q E hr ⟨a, us, rfl, hl, ha, kk⟩
    obtain ⟨u, v, rfl⟩ : ∃ u v, us = [u, v] := by
      cases us with
      | nil => cases hl
      | cons u r => cases r with
        | nil => cases hl
        | cons v r => cases r with
          | nil => exact ⟨u, v, rfl⟩
          | cons _ _ => cases hl
    rw [hb]
    have v0 (pp : Pos) := (pe_var (X := (cxOf CX0 P w K mg base ["self", y, z] qual (defScope st) f cdv A outer s H E).nox) (i := 0) (x := "self") (pos := pp) rfl ((S.par "self" (by simp)).imp_right .inl))
    have v1 := (pe_var (X := (cxOf CX0 P w K mg base ["self", y, z] qual (defScope st) f cdv A outer s H E).nox) (i := 1) (x := y) (pos := p3) rfl ((S.par y (by simp)).imp_right .inl) hd hcd)
    have v2 := (pe_var (X := (cxOf CX0 P w K mg base ["self", y, z] qual (defScope st) f cdv A outer s H E).nox) (i := 2) (x := z) (pos := q3) rfl ((S.par z (by simp)).imp_right .inl) hd' hcd')
    refine ⟨_, pss_cons (ps_x0 (v0 p1) v1 (by rfl)) (pss_one (ps_x1 (v0 q1) v2 (by rfl))), ?_⟩
    refine ⟨u, rfl, .ref a, rfl, true, a, C, rfl, ha, c, na, fun d hd hne => ⟨v, rfl, .ref a, rfl, true, a, C, d, _, rfl, ?_, upd_same, c, nb, (by show 1 < 1000; decide), kk d _ hd hne ?_ ?_ fun b h1 h2 => ?_⟩⟩
    · rw [upd_ne hne.symm, upd_same]
    · rw [upd_ne hne.symm, upd_ne hne.symm, upd_same]
    · rw [upd_same]
      show some (NsIs d (if fl = gl then _ else _)) = _
      rw [if_neg hfg]; rfl
    · rw [upd_ne h2, upd_ne h2, upd_ne h1, upd_ne h2]
end
end CT

set_option Elab.async false
set_option linter.all false
set_option maxRecDepth 100000
/-! THE DATA LAYER: pure code by the data that it comes to -/
namespace CT
open PySem PySem.Spec L2
open PyProof.Rows hiding St

/-- data, and instances that are never changed once made -/
inductive D where
  | non | bl (b : Bool) | int (i : Int) | str (x : Str) | tup (xs : List D) | lst (xs : List D) | ins (C : Addr) (fs : List (Str × D)) | exc (C : Addr) (fs : List (Str × D))
  /-- a built-in type; a class or function of the module -/
  | ty (n : String) | cl (C : Addr)
  /-- a dict that is not changed -/
  | dct (kvs : List (D × D))
def keyD : Key → D
  | .inl i => .int i
  | .inr x => .str x

/-- the lists that may still be changed -/
abbrev Ad := Addr → Prop
/-- a list of the module -/
def SqK (K : PySem.W.Frag) (a : Addr) (xs : List V) : Prop :=
  ∃ (o : Obj) (its : Array Value) (n : Nat), K.lookup a = some o ∧ o.cls = .type "list" ∧ o.dict = none ∧ o.data = .seq its n ∧ its.size ≤ sizeLine ∧ Vals xs its.toList

mutual
/-- v reads as d in the heap H, without the addresses S -/
inductive Rds (K : PySem.W.Frag) (H : Hp) (S : Ad) : D → V → Prop
  | non : Rds K H S .non .non
  | bl (b : Bool) : Rds K H S (.bl b) (.bl b)
  | int (i : Int) : Rds K H S (.int i) (.int i)
  | str (x : Str) : Rds K H S (.str x) (.str x)
  | ty (n : String) : Rds K H S (.ty n) (.ty n)
  | cl (C : Addr) : Rds K H S (.cl C) (.ref C)
  | tup {a : Addr} {vs : List V} {xs : List D} : H a = some (.tup vs) → ¬ S a → RdsL K H S xs vs → Rds K H S (.tup xs) (.ref a)
  | lst {a : Addr} {vs : List V} {xs : List D} : Rd H a (.lst vs) → ¬ S a → RdsL K H S xs vs → Rds K H S (.lst xs) (.ref a)
  | lstK {a : Addr} {vs : List V} {xs : List D} : SqK K a vs → RdsL K H S xs vs → Rds K H S (.lst xs) (.ref a)
  | ins {a C dx : Addr} {fs : List (Str × D)} {gs : List (Str × V)} : H a = some (.ins C dx gs) → ¬ S a → RdsF K H S fs gs → Rds K H S (.ins C fs) (.ref a)
  | exc0 {fr : Bool} {a C : Addr} : H a = some (ExcIs fr a C none) → ¬ S a → Rds K H S (.exc C []) (.ref a)
  | exc {fr : Bool} {a C dx : Addr} {fs : List (Str × D)} {gs : List (Str × V)} : H a = some (ExcIs fr a C (some dx)) → H dx = some (NsIs dx gs) → ¬ S a → ¬ S dx → RdsF K H S fs gs → Rds K H S (.exc C fs) (.ref a)
  | dK {a : Addr} {kvs : List (Key × V)} {es : List (D × D)} : H a = some (.dK kvs) → ¬ S a → es.map (·.1) = kvs.map (fun p => keyD p.1) → RdsL K H S (es.map (·.2)) (kvs.map (·.2)) → Rds K H S (.dct es) (.ref a)
inductive RdsL (K : PySem.W.Frag) (H : Hp) (S : Ad) : List D → List V → Prop
  | nil : RdsL K H S [] []
  | cons {d : D} {v : V} {ds : List D} {vs : List V} : Rds K H S d v → RdsL K H S ds vs → RdsL K H S (d :: ds) (v :: vs)
inductive RdsF (K : PySem.W.Frag) (H : Hp) (S : Ad) : List (Str × D) → List (Str × V) → Prop
  | nil : RdsF K H S [] []
  | cons {n : Str} {d : D} {v : V} {ds : List (Str × D)} {vs : List (Str × V)} : Rds K H S d v → RdsF K H S ds vs → RdsF K H S ((n, d) :: ds) ((n, v) :: vs)
end

/-- all but S is as it was -/
def Ext (S : Ad) (H H' : Hp) : Prop := ∀ a o, ¬ S a → H a = some o → H' a = some o
abbrev no : Ad := fun _ => False
abbrev Ext0 (H H' : Hp) : Prop := Ext no H H'
theorem Ext.refl {S : Ad} {H : Hp} : Ext S H H := fun _ _ _ e => e
theorem Ext.trans {S : Ad} {H H1 H2 : Hp} (a : Ext S H H1) (b : Ext S H1 H2) : Ext S H H2 := fun c o n e => b c o n (a c o n e)
theorem Ext.to {H H' : Hp} (e : Ext0 H H') (S : Ad) : Ext S H H' := fun a o _ h => e a o (fun z => z) h
theorem Ext.new {H : Hp} {p : Addr} {o : HO} (hp : H p = none) : Ext0 H (upd H p o) := fun a u _ e => by rw [upd_ne (ne_of_none e hp)]; exact e
theorem Ext.set {H : Hp} {S : Ad} {p : Addr} {o : HO} (hp : S p) : Ext S H (upd H p o) := fun a u n e => by rw [upd_ne (fun z : a = p => n (by rw [z]; exact hp))]; exact e
theorem Ext.ne {H H' : Hp} (e : Ext0 H H') {a : Addr} (h : H a ≠ none) : H' a ≠ none := by
  cases q : H a with
  | none => exact absurd q h
  | some o => rw [e a o (fun z => z) q]; intro z; cases z
theorem Rd.ext {S : Ad} {H H' : Hp} {a : Addr} {u : HO} (e : Ext S H H') (n : ¬ S a) (r : Rd H a u) : Rd H' a u := r.elim (fun z => .inl (e _ _ n z)) fun ⟨o, z⟩ => .inr ⟨o, e _ _ n z⟩

section
variable {K : PySem.W.Frag} {H H' : Hp} {S S' : Ad}
mutual
theorem Rds.ext (e : Ext S H H') : ∀ {d : D} {v : V}, Rds K H S d v → Rds K H' S d v
  | _, _, .non => .non
  | _, _, .bl b => .bl b
  | _, _, .int i => .int i
  | _, _, .str x => .str x
  | _, _, .ty n => .ty n
  | _, _, .cl C => .cl C
  | _, _, .tup h n r => .tup (e _ _ n h) n (RdsL.ext e r)
  | _, _, .lst h n r => .lst (CT.Rd.ext e n h) n (RdsL.ext e r)
  | _, _, .lstK h r => .lstK h (RdsL.ext e r)
  | _, _, .ins h n r => .ins (e _ _ n h) n (RdsF.ext e r)
  | _, _, .exc0 h n => .exc0 (e _ _ n h) n
  | _, _, .exc h h2 n n2 r => .exc (e _ _ n h) (e _ _ n2 h2) n n2 (RdsF.ext e r)
  | _, _, .dK h n k r => .dK (e _ _ n h) n k (RdsL.ext e r)
theorem RdsL.ext (e : Ext S H H') : ∀ {ds : List D} {vs : List V}, RdsL K H S ds vs → RdsL K H' S ds vs
  | _, _, .nil => .nil
  | _, _, .cons r t => .cons (Rds.ext e r) (RdsL.ext e t)
theorem RdsF.ext (e : Ext S H H') : ∀ {ds : List (Str × D)} {vs : List (Str × V)}, RdsF K H S ds vs → RdsF K H' S ds vs
  | _, _, .nil => .nil
  | _, _, .cons r t => .cons (Rds.ext e r) (RdsF.ext e t)
end
mutual
/-- other addresses are left out: they were left out, or nothing stands there -/
theorem Rds.av (e : ∀ a, S' a → S a ∨ H a = none) : ∀ {d : D} {v : V}, Rds K H S d v → Rds K H S' d v
  | _, _, .non => .non
  | _, _, .bl b => .bl b
  | _, _, .int i => .int i
  | _, _, .str x => .str x
  | _, _, .ty n => .ty n
  | _, _, .cl C => .cl C
  | _, _, .tup h n r => .tup h (fun z => (e _ z).elim n fun q => by rw [h] at q; cases q) (RdsL.av e r)
  | _, _, .lst h n r => .lst h (fun z => (e _ z).elim n fun q => by rcases h with h | ⟨_, h⟩ <;> (rw [h] at q; cases q)) (RdsL.av e r)
  | _, _, .lstK h r => .lstK h (RdsL.av e r)
  | _, _, .ins h n r => .ins h (fun z => (e _ z).elim n fun q => by rw [h] at q; cases q) (RdsF.av e r)
  | _, _, .exc0 h n => .exc0 h (fun z => (e _ z).elim n fun q => by rw [h] at q; cases q)
  | _, _, .exc h h2 n n2 r => .exc h h2 (fun z => (e _ z).elim n fun q => by rw [h] at q; cases q) (fun z => (e _ z).elim n2 fun q => by rw [h2] at q; cases q) (RdsF.av e r)
  | _, _, .dK h n k r => .dK h (fun z => (e _ z).elim n fun q => by rw [h] at q; cases q) k (RdsL.av e r)
theorem RdsL.av (e : ∀ a, S' a → S a ∨ H a = none) : ∀ {ds : List D} {vs : List V}, RdsL K H S ds vs → RdsL K H S' ds vs
  | _, _, .nil => .nil
  | _, _, .cons r t => .cons (Rds.av e r) (RdsL.av e t)
theorem RdsF.av (e : ∀ a, S' a → S a ∨ H a = none) : ∀ {ds : List (Str × D)} {vs : List (Str × V)}, RdsF K H S ds vs → RdsF K H S' ds vs
  | _, _, .nil => .nil
  | _, _, .cons r t => .cons (Rds.av e r) (RdsF.av e t)
end
theorem RdsL.length : ∀ {ds : List D} {vs : List V}, RdsL K H S ds vs → ds.length = vs.length
  | _, _, .nil => rfl
  | _, _, .cons _ t => by rw [List.length_cons, List.length_cons, RdsL.length t]
theorem RdsL.get : ∀ {ds : List D} {vs : List V} {i : Nat} {d : D}, RdsL K H S ds vs → ds[i]? = some d → ∃ v, vs[i]? = some v ∧ Rds K H S d v
  | _, _, 0, _, .cons r _, e => by simp at e; subst e; exact ⟨_, rfl, r⟩
  | _, _, i + 1, _, .cons _ t, e => by
    obtain ⟨v, h1, h2⟩ := RdsL.get (i := i) t (by simpa using e)
    exact ⟨v, by simpa using h1, h2⟩
theorem RdsL.app : ∀ {ds es : List D} {vs us : List V}, RdsL K H S ds vs → RdsL K H S es us → RdsL K H S (ds ++ es) (vs ++ us)
  | _, _, _, _, .nil, s => s
  | _, _, _, _, .cons r t, s => .cons r (RdsL.app t s)
theorem RdsL.rep {d : D} {v : V} (r : Rds K H S d v) : ∀ n : Nat, RdsL K H S (List.replicate n d) (List.replicate n v)
  | 0 => .nil
  | n + 1 => .cons r (RdsL.rep r n)
theorem RdsF.look {f : Str} : ∀ {ds : List (Str × D)} {vs : List (Str × V)} {d : D}, RdsF K H S ds vs → ds.lookup f = some d → ∃ v, vs.lookup f = some v ∧ Rds K H S d v
  | (n, x) :: r, _, d, .cons q t, e => by
    rw [List.lookup_cons] at e ⊢
    cases hb : f == n with
    | true => rw [hb] at e; cases e; exact ⟨_, rfl, q⟩
    | false => rw [hb] at e; exact RdsF.look t e
theorem RdsF.none {f : Str} : ∀ {ds : List (Str × D)} {vs : List (Str × V)}, RdsF K H S ds vs → ds.lookup f = none → vs.lookup f = none
  | [], _, .nil, _ => rfl
  | (n, x) :: r, _, .cons q t, e => by
    rw [List.lookup_cons] at e ⊢
    cases hb : f == n with
    | true => rw [hb] at e; cases e
    | false => rw [hb] at e; exact RdsF.none t e
theorem Rds.intV {i : Int} {v : V} (r : Rds K H S (.int i) v) : v = .int i := by cases r; rfl
theorem Rds.blV {b : Bool} {v : V} (r : Rds K H S (.bl b) v) : v = .bl b := by cases r; rfl
theorem Rds.strV {x : Str} {v : V} (r : Rds K H S (.str x) v) : v = .str x := by cases r; rfl
theorem Rds.tyV {n : String} {v : V} (r : Rds K H S (.ty n) v) : v = .ty n := by cases r; rfl
theorem Rds.clV {C : Addr} {v : V} (r : Rds K H S (.cl C) v) : v = .ref C := by cases r; rfl
theorem Rds.nonV {v : V} (r : Rds K H S .non v) : v = .non := by cases r; rfl
theorem Rds.tupV {xs : List D} {v : V} (r : Rds K H S (.tup xs) v) : ∃ a vs, v = .ref a ∧ H a = some (.tup vs) ∧ RdsL K H S xs vs := by cases r with | tup h n r => exact ⟨_, _, rfl, h, r⟩
theorem Rds.lstV {xs : List D} {v : V} (r : Rds K H S (.lst xs) v) : ∃ a vs, v = .ref a ∧ SqL K H a vs ∧ RdsL K H S xs vs := by
  cases r with
  | lst h n r => exact ⟨_, _, rfl, .inl h, r⟩
  | lstK h r => exact ⟨_, _, rfl, .inr h, r⟩
theorem Rds.insV {C : Addr} {fs : List (Str × D)} {v : V} (r : Rds K H S (.ins C fs) v) : ∃ a dx gs, v = .ref a ∧ H a = some (.ins C dx gs) ∧ RdsF K H S fs gs := by cases r with | ins h n r => exact ⟨_, _, _, rfl, h, r⟩
theorem RdsL.one {d : D} {vs : List V} (r : RdsL K H S [d] vs) : ∃ v, vs = [v] ∧ Rds K H S d v := by cases r with | cons r t => cases t; exact ⟨_, rfl, r⟩
theorem RdsL.two {d e : D} {vs : List V} (r : RdsL K H S [d, e] vs) : ∃ v u, vs = [v, u] ∧ Rds K H S d v ∧ Rds K H S e u := by
  cases r with | cons r t => obtain ⟨u, rfl, q⟩ := t.one; exact ⟨_, _, rfl, r, q⟩
/-- a new tuple, a new list -/
def Dom (H : Hp) (S : Ad) : Prop := ∀ a, S a → H a ≠ none
theorem Dom.ext {H H' : Hp} {S : Ad} (d : Dom H S) (e : Ext0 H H') : Dom H' S := fun a h => e.ne (d a h)
theorem Dom.not {H : Hp} {S : Ad} (d : Dom H S) {p : Addr} (hp : H p = Option.none) : ¬ S p := fun z => d p z hp
theorem Rds.newTup {p : Addr} {vs : List V} {xs : List D} (dm : Dom H S) (hp : H p = Option.none) (r : RdsL K H S xs vs) : Rds K (upd H p (.tup vs)) S (.tup xs) (.ref p) := .tup upd_same (dm.not hp) (r.ext ((Ext.new hp).to S))
theorem Rds.newLst {p : Addr} {vs : List V} {xs : List D} (dm : Dom H S) (hp : H p = Option.none) (r : RdsL K H S xs vs) : Rds K (upd H p (.lst vs)) S (.lst xs) (.ref p) := .lst (.inl upd_same) (dm.not hp) (r.ext ((Ext.new hp).to S))
end

/-! ### slots -/
/-- a name: not set; unknown; data; a list of one's own that may still be changed -/
inductive Sl where
  | nil | any | val (d : D) | own (xs : List D) | new (C x dx : Addr) (fs : List (Str × D))
abbrev Rho := List Sl
def Sl.owns : Sl → Prop
  | .own _ => True | .new _ _ _ _ => True | _ => False
def RO (K : PySem.W.Frag) (H : Hp) (S : Ad) : Sl → Option V → Prop
  | .nil, v => v = none
  | .any, _ => True
  | .val d, v => ∃ u, v = some u ∧ Rds K H S d u
  | .own xs, v => ∃ a vs, v = some (.ref a) ∧ S a ∧ H a = some (.lst vs) ∧ RdsL K H S xs vs
  | .new C x dx fs, v => ∃ gs, v = some (.ref x) ∧ S x ∧ H x = some (.ins C dx gs) ∧ RdsF K H S fs gs
theorem RO.ext {K : PySem.W.Frag} {H H' : Hp} {S : Ad} (e : Ext0 H H') : ∀ {x : Sl} {v : Option V}, RO K H S x v → RO K H' S x v
  | .nil, _, h => h
  | .any, _, _ => trivial
  | .val _, _, ⟨u, h, r⟩ => ⟨u, h, r.ext (e.to S)⟩
  | .own _, _, ⟨a, vs, h, s, o, r⟩ => ⟨a, vs, h, s, e _ _ (fun z => z) o, r.ext (e.to S)⟩
  | .new _ _ _ _, _, ⟨gs, h, s, o, r⟩ => ⟨gs, h, s, e _ _ (fun z => z) o, r.ext (e.to S)⟩
structure VE (K : PySem.W.Frag) (H : Hp) (S : Ad) (ρ : Rho) (σ : St) : Prop where
  len : ρ.length = σ.length
  rel : ∀ (i : Nat) (x : Sl), ρ[i]? = some x → ∃ v, σ[i]? = some v ∧ RO K H S x v
  dist : ∀ (i j : Nat) (x y : Sl) (a : Addr), i ≠ j → ρ[i]? = some x → ρ[j]? = some y → x.owns → y.owns → σ[i]? = some (some (.ref a)) → σ[j]? ≠ some (some (.ref a))
  dom : Dom H S
section
variable {K : PySem.W.Frag} {H H' : Hp} {S : Ad} {ρ : Rho} {σ : St} {i : Nat}
theorem VE.ext (v : VE K H S ρ σ) (e : Ext0 H H') : VE K H' S ρ σ := ⟨v.len, fun i x h => let ⟨u, h1, h2⟩ := v.rel i x h; ⟨u, h1, h2.ext e⟩, v.dist, v.dom.ext e⟩
theorem VE.get {d : D} (v : VE K H S ρ σ) (h : ρ[i]? = some (.val d)) : ∃ u, σ[i]? = some (some u) ∧ Rds K H S d u := by
  obtain ⟨w, h1, u, rfl, r⟩ := v.rel i _ h
  exact ⟨u, h1, r⟩
theorem VE.set {d : D} {u : V} (v : VE K H S ρ σ) (r : Rds K H S d u) : VE K H S (ρ.set i (.val d)) (σ.set i (some u)) := by
  refine ⟨by simpa using v.len, fun j x h => ?_, fun j k x y a hjk h1 h2 o1 o2 h3 => ?_, v.dom⟩
  · by_cases hj : i = j
    · subst hj
      have hi : i < ρ.length := by
        have := (List.getElem?_eq_some_iff.mp h).1
        simpa using this
      rw [List.getElem?_set_self hi] at h
      cases h
      exact ⟨some u, List.getElem?_set_self (v.len ▸ hi), u, rfl, r⟩
    · rw [List.getElem?_set_ne hj] at h ⊢
      exact v.rel j x h
  · have n1 : i ≠ j := fun z => by
      subst z
      have hi := (List.getElem?_eq_some_iff.mp h1).1
      rw [List.getElem?_set_self (by simpa using hi)] at h1; cases h1; exact o1
    have n2 : i ≠ k := fun z => by
      subst z
      have hi := (List.getElem?_eq_some_iff.mp h2).1
      rw [List.getElem?_set_self (by simpa using hi)] at h2; cases h2; exact o2
    rw [List.getElem?_set_ne n1] at h1 h3
    rw [List.getElem?_set_ne n2] at h2 ⊢
    exact v.dist j k x y a hjk h1 h2 o1 o2 h3
theorem VE.unset (v : VE K H S ρ σ) (h : ρ[i]? = some .nil) : σ[i]? = some none := by
  obtain ⟨w, h1, rfl⟩ := v.rel i _ h
  exact h1
end

/-! ### the judgements -/
/-- e comes to d, nothing is changed -/
def tD (K : PySem.W.Frag) (ρ : Rho) (d : D) : TE := fun σ H Q => ∃ S, VE K H S ρ σ ∧ ∀ v H', Ext0 H H' → Rds K H' S d v → Q v H'
def tDT (K : PySem.W.Frag) (ρ : Rho) (b : Bool) : TT := fun σ H Q => ∃ S, VE K H S ρ σ ∧ ∀ H', Ext0 H H' → Q b H'
def tDA (K : PySem.W.Frag) (ρ : Rho) (ds : List D) : TA := fun σ H Q => ∃ S, VE K H S ρ σ ∧ ∀ vs H', Ext0 H H' → RdsL K H' S ds vs → Q vs H'
def DE (X : Cx) (ρ : Rho) (e : Expr) (d : D) : Prop := PE X e (tD X.K ρ d)
def DT (X : Cx) (ρ : Rho) (e : Expr) (b : Bool) : Prop := PT X e (tDT X.K ρ b)
def DW (X : Cx) (ρ : Rho) (e : Expr) (b : Bool) : Prop := PW X e (tDT X.K ρ b)
def DA (X : Cx) (ρ : Rho) (es : List Expr) (ds : List D) : Prop := PA X es (tDA X.K ρ ds)
section
variable {X : Cx}
theorem PE.weak {e : Expr} {t t' : TE} (h : PE X e t) (w : ∀ σ H Q, t' σ H Q → t σ H Q) : PE X e t' := fun pins s σ H Q I q => h pins s σ H Q I (w σ H Q q)
theorem PT.weak {e : Expr} {t t' : TT} (h : PT X e t) (w : ∀ σ H Q, t' σ H Q → t σ H Q) : PT X e t' := fun pins s σ H Q I q => h pins s σ H Q I (w σ H Q q)
theorem PW.weak {e : Expr} {t t' : TT} (h : PW X e t) (w : ∀ σ H Q, t' σ H Q → t σ H Q) : PW X e t' := fun wh pins s σ H Q I q => h wh pins s σ H Q I (w σ H Q q)
theorem PA.weak {es : List Expr} {t t' : TA} (h : PA X es t) (w : ∀ σ H Q, t' σ H Q → t σ H Q) : PA X es t' := fun pos pins s σ H Q I q => h pos pins s σ H Q I (w σ H Q q)
theorem PS.weak {st : Stmt} {t t' : TS} (h : PS X st t) (w : ∀ D σ H, t' D σ H → t D σ H) : PS X st t' := fun pins s σ H D I q => h pins s σ H D I (w D σ H q)
theorem PSs.weak {st : List Stmt} {t t' : TS} (h : PSs X st t) (w : ∀ D σ H, t' D σ H → t D σ H) : PSs X st t' := fun pins s σ H D I q => h pins s σ H D I (w D σ H q)

variable {ρ : Rho} {a b c e : Expr} {pos : Pos} {d da db dc : D}
/-! ### names, constants -/
theorem de_var {i : Nat} {x : Str} (hN : X.N[i]? = some x) (hv : Vis X.env.scope x) (hr : ρ[i]? = some (.val d)) (hd : (x == ("__debug__" : Str)) = false := by decide) (hcd : (x == ("__classdict__" : Str)) = false := by decide) : DE X ρ (.Name x pos) d :=
  PE.weak (pe_var hN hv hd hcd) fun σ H Q ⟨S, ve, k⟩ => let ⟨u, h1, r⟩ := ve.get hr; ⟨u, h1, k u H Ext.refl r⟩
theorem de_int {i : Int} {j} : DE X ρ (.Constant (.int i) j pos) (.int i) := PE.weak pe_int fun σ H Q ⟨S, ve, k⟩ => k _ H Ext.refl (.int i)
theorem de_bl {q : Bool} {j} : DE X ρ (.Constant (.bool q) j pos) (.bl q) := PE.weak pe_bl fun σ H Q ⟨S, ve, k⟩ => k _ H Ext.refl (.bl q)
theorem de_non {j} : DE X ρ (.Constant .none j pos) .non := PE.weak pe_non fun σ H Q ⟨S, ve, k⟩ => k _ H Ext.refl .non
theorem de_str {x : Str} {j} : DE X ρ (.Constant (.str x) j pos) (.str x) := PE.weak pe_str fun σ H Q ⟨S, ve, k⟩ => k _ H Ext.refl (.str x)
theorem de_ty {x : Str} {n : String} (hg : Gl X x) (hm : X.mg x = none) (hv : bootBuiltins x = some (.type n)) (hn : x ≠ "__name__" := by decide) (hd : (x == ("__debug__" : Str)) = false := by decide) : DE X ρ (.Name x pos) (.ty n) :=
  PE.weak (pe_bltn hg hm hv (v := .ty n) rfl hn hd) fun σ H Q ⟨S, ve, k⟩ => k _ H Ext.refl (.ty n)
theorem de_cl {x : Str} {C : Addr} (hg : Gl X x) (hm : X.mg x = some (.ref C)) (hd : (x == ("__debug__" : Str)) = false := by decide) : DE X ρ (.Name x pos) (.cl C) :=
  PE.weak (pe_glob hg hm (v := .ref C) rfl hd) fun σ H Q ⟨S, ve, k⟩ => k _ H Ext.refl (.cl C)
theorem de_globI {x : Str} {i : Int} {t : Tok} (hg : Gl X x) (hm : X.mg x = some (.int i t)) (hd : (x == ("__debug__" : Str)) = false := by decide) : DE X ρ (.Name x pos) (.int i) :=
  PE.weak (pe_glob hg hm (v := .int i) ⟨t, rfl⟩ hd) fun σ H Q ⟨S, ve, k⟩ => k _ H Ext.refl (.int i)

/-! ### operations -/
/-- the operation r takes da and db to d -/
def R2D (K : PySem.W.Frag) (r : R2) (da db d : D) : Prop := ∀ (x y : V) (H : Hp) (S : Ad) (Q : VK), Rds K H S da x → Rds K H S db y → Dom H S → (∀ v H', Ext0 H H' → Rds K H' S d v → Q v H') → r x y H Q
theorem op_D {r : R2} (h : R2D X.K r da db d) (σ : St) (H : Hp) (Q : VK) (q : tD X.K ρ d σ H Q) : tOp r (tD X.K ρ da) (tD X.K ρ db) σ H Q := by
  obtain ⟨S, ve, k⟩ := q
  exact ⟨S, ve, fun x H1 e1 r1 => ⟨S, ve.ext e1, fun y H2 e2 r2 => h x y H2 S Q (r1.ext (e2.to S)) r2 ((ve.ext e1).ext e2).dom fun v H' e3 r3 => k v H' (e1.trans (e2.trans e3)) r3⟩⟩
theorem de_op {op : Operator} {r : R2} (ho : OpR X (binaryOp op) r) (h : R2D X.K r da db d) (ha : DE X ρ a da) (hb : DE X ρ b db) : DE X ρ (.BinOp a op b pos) d := PE.weak (pe_op ho ha hb) (op_D h)
theorem de_cmp {op : CmpOp} {r : R2} (ho : OpR X (compareOp op) r) (h : R2D X.K r da db d) (ha : DE X ρ a da) (hb : DE X ρ b db) (hm : behindInMarks op b = false) : DE X ρ (.Compare a [op] [b] pos) d := PE.weak (pe_cmpR ho ha hb hm) (op_D h)
theorem tD_test {te : TE} {q : Bool} (h : ∀ σ H Q, tD X.K ρ (.bl q) σ H Q → te σ H Q) (σ : St) (H : Hp) (Q : Bool → Hp → Prop) (w : tDT X.K ρ q σ H Q) : tB te σ H Q := by
  obtain ⟨S, ve, k⟩ := w
  exact h σ H _ ⟨S, ve, fun v H' e r => ⟨q, r.blV, k H' e⟩⟩
theorem dt_cmp {op : CmpOp} {r : R2} {q : Bool} (ho : OpR X (compareOp op) r) (h : R2D X.K r da db (.bl q)) (ha : DE X ρ a da) (hb : DE X ρ b db) (hm : behindInMarks op b = false) : DT X ρ (.Compare a [op] [b] pos) q := by
  refine PT.weak (pt_cmpR ho ha hb hm) fun σ H Q w => ?_
  obtain ⟨S, ve, k⟩ := w
  exact op_D h σ H _ ⟨S, ve, fun v H' e r => by rw [r.blV]; exact ⟨q, rfl, k H' e⟩⟩
/-- a value that is a truth, as a test -/
theorem dt_val {q : Bool} (h : DE X ρ e (.bl q)) (he : ∀ whole, isTrue e X.env whole = (do let v ← whole; standAt e.pos; holding [v] (truthy v)) := by intro _; rfl) : DT X ρ e q := PT.weak (pt_val h he) (tD_test fun _ _ _ w => w)

theorem r2_add {i j : Int} {K : PySem.W.Frag} : R2D K (rI0 fun i j => .int (i + j)) (.int i) (.int j) (.int (i + j)) := fun x y H S Q rx ry dm k => ⟨i, j, rx.intV, ry.intV, k _ H Ext.refl (.int _)⟩
theorem r2_sub {i j : Int} {K : PySem.W.Frag} : R2D K (rI0 fun i j => .int (i - j)) (.int i) (.int j) (.int (i - j)) := fun x y H S Q rx ry dm k => ⟨i, j, rx.intV, ry.intV, k _ H Ext.refl (.int _)⟩
theorem r2_mul {i j : Int} {K : PySem.W.Frag} (h : CMul i j) : R2D K (rI CMul fun i j => .int (i * j)) (.int i) (.int j) (.int (i * j)) := fun x y H S Q rx ry dm k => ⟨i, j, rx.intV, ry.intV, h, k _ H Ext.refl (.int _)⟩
theorem r2_mod {i j : Int} {K : PySem.W.Frag} (h : 0 < j) : R2D K (rI (fun _ j => 0 < j) fun i j => .int (i % j)) (.int i) (.int j) (.int (i % j)) := fun x y H S Q rx ry dm k => ⟨i, j, rx.intV, ry.intV, h, k _ H Ext.refl (.int _)⟩
theorem r2_fdiv {i j : Int} {K : PySem.W.Frag} (h : CDiv i j) : R2D K (rI CDiv fun i j => .int (i / j)) (.int i) (.int j) (.int (i / j)) := fun x y H S Q rx ry dm k => ⟨i, j, rx.intV, ry.intV, h, k _ H Ext.refl (.int _)⟩
theorem r2_cmp {i j : Int} {K : PySem.W.Frag} {g : Int → Int → Bool} : R2D K (rI0 fun i j => .bl (g i j)) (.int i) (.int j) (.bl (g i j)) := fun x y H S Q rx ry dm k => ⟨i, j, rx.intV, ry.intV, k _ H Ext.refl (.bl _)⟩
theorem de_add {i j : Int} (ha : DE X ρ a (.int i)) (hb : DE X ρ b (.int j)) : DE X ρ (.BinOp a .Add b pos) (.int (i + j)) := de_op op_add r2_add ha hb
theorem de_sub {i j : Int} (ha : DE X ρ a (.int i)) (hb : DE X ρ b (.int j)) : DE X ρ (.BinOp a .Sub b pos) (.int (i - j)) := de_op op_sub r2_sub ha hb
theorem de_mul {i j : Int} (h : CMul i j) (ha : DE X ρ a (.int i)) (hb : DE X ρ b (.int j)) : DE X ρ (.BinOp a .Mult b pos) (.int (i * j)) := de_op op_mul (r2_mul h) ha hb
theorem de_mod {i j : Int} (h : 0 < j) (ha : DE X ρ a (.int i)) (hb : DE X ρ b (.int j)) : DE X ρ (.BinOp a .Mod b pos) (.int (i % j)) := de_op op_mod (r2_mod h) ha hb
theorem de_fdiv {i j : Int} (h : CDiv i j) (ha : DE X ρ a (.int i)) (hb : DE X ρ b (.int j)) : DE X ρ (.BinOp a .FloorDiv b pos) (.int (i / j)) := de_op op_fdiv (r2_fdiv h) ha hb
theorem de_lt {i j : Int} (ha : DE X ρ a (.int i)) (hb : DE X ρ b (.int j)) : DE X ρ (.Compare a [.Lt] [b] pos) (.bl (decide (i < j))) := de_cmp op_lt r2_cmp ha hb (nomark _)
theorem de_le {i j : Int} (ha : DE X ρ a (.int i)) (hb : DE X ρ b (.int j)) : DE X ρ (.Compare a [.LtE] [b] pos) (.bl (decide (i ≤ j))) := de_cmp op_le r2_cmp ha hb (nomark _)
theorem de_gt {i j : Int} (ha : DE X ρ a (.int i)) (hb : DE X ρ b (.int j)) : DE X ρ (.Compare a [.Gt] [b] pos) (.bl (decide (j < i))) := de_cmp op_gt r2_cmp ha hb (nomark _)
theorem de_ge {i j : Int} (ha : DE X ρ a (.int i)) (hb : DE X ρ b (.int j)) : DE X ρ (.Compare a [.GtE] [b] pos) (.bl (decide (j ≤ i))) := de_cmp op_ge r2_cmp ha hb (nomark _)
theorem dt_lt {i j : Int} (ha : DE X ρ a (.int i)) (hb : DE X ρ b (.int j)) : DT X ρ (.Compare a [.Lt] [b] pos) (decide (i < j)) := dt_cmp op_lt r2_cmp ha hb (nomark _)
theorem dt_le {i j : Int} (ha : DE X ρ a (.int i)) (hb : DE X ρ b (.int j)) : DT X ρ (.Compare a [.LtE] [b] pos) (decide (i ≤ j)) := dt_cmp op_le r2_cmp ha hb (nomark _)
theorem dt_gt {i j : Int} (ha : DE X ρ a (.int i)) (hb : DE X ρ b (.int j)) : DT X ρ (.Compare a [.Gt] [b] pos) (decide (j < i)) := dt_cmp op_gt r2_cmp ha hb (nomark _)
theorem dt_ge {i j : Int} (ha : DE X ρ a (.int i)) (hb : DE X ρ b (.int j)) : DT X ρ (.Compare a [.GtE] [b] pos) (decide (j ≤ i)) := dt_cmp op_ge r2_cmp ha hb (nomark _)
/-- scalars: == and != -/
def flat : D → Option V
  | .non => some .non | .bl b => some (.bl b) | .int i => some (.int i) | .str x => some (.str x)
  | _ => none
theorem flat_v {K : PySem.W.Frag} {H : Hp} {S : Ad} {d : D} {u v : V} (h : flat d = some u) (r : Rds K H S d v) : v = u := by
  cases r <;> (simp only [flat] at h; first | (cases h; rfl) | cases h)
theorem r2_eq {K : PySem.W.Frag} {u v : V} (ha : flat da = some u) (hb : flat db = some v) (hs : scal u v = true) : R2D K rEq da db (.bl (decide (u = v))) := fun x y H S Q rx ry dm k => by
  rw [flat_v ha rx, flat_v hb ry]
  exact ⟨hs, k _ H Ext.refl (.bl _)⟩
theorem r2_ne {K : PySem.W.Frag} {u v : V} (ha : flat da = some u) (hb : flat db = some v) (hs : scal u v = true) : R2D K rNe da db (.bl (!decide (u = v))) := fun x y H S Q rx ry dm k => by
  rw [flat_v ha rx, flat_v hb ry]
  exact ⟨hs, k _ H Ext.refl (.bl _)⟩
theorem de_eqI {i j : Int} (ha : DE X ρ a (.int i)) (hb : DE X ρ b (.int j)) : DE X ρ (.Compare a [.Eq] [b] pos) (.bl (decide (i = j))) := by
  have := de_cmp (pos := pos) op_eq (r2_eq (K := X.K) (da := .int i) (db := .int j) rfl rfl rfl) ha hb (nomark _)
  simpa using this
theorem de_neI {i j : Int} (ha : DE X ρ a (.int i)) (hb : DE X ρ b (.int j)) : DE X ρ (.Compare a [.NotEq] [b] pos) (.bl (!decide (i = j))) := by
  have := de_cmp (pos := pos) op_ne (r2_ne (K := X.K) (da := .int i) (db := .int j) rfl rfl rfl) ha hb (nomark _)
  simpa using this
theorem dt_eqI {i j : Int} (ha : DE X ρ a (.int i)) (hb : DE X ρ b (.int j)) : DT X ρ (.Compare a [.Eq] [b] pos) (decide (i = j)) := by
  have := dt_cmp (pos := pos) op_eq (r2_eq (K := X.K) (da := .int i) (db := .int j) rfl rfl rfl) ha hb (nomark _)
  simpa using this
theorem dt_neI {i j : Int} (ha : DE X ρ a (.int i)) (hb : DE X ρ b (.int j)) : DT X ρ (.Compare a [.NotEq] [b] pos) (!decide (i = j)) := by
  have := dt_cmp (pos := pos) op_ne (r2_ne (K := X.K) (da := .int i) (db := .int j) rfl rfl rfl) ha hb (nomark _)
  simpa using this
theorem de_neg {i : Int} (ha : DE X ρ a (.int i)) : DE X ρ (.UnaryOp .USub a pos) (.int (-i)) :=
  PE.weak (pe_un un_neg ha) fun σ H Q ⟨S, ve, k⟩ => ⟨S, ve, fun v H' e r => ⟨i, r.intV, k _ H' e (.int _)⟩⟩

/-! ### and, or, not, if -/
theorem de_one {op} (h : DE X ρ a d) : DE X ρ (.BoolOp op [a] pos) d := pe_one h
theorem de_and {p q : Bool} {rest : List Expr} (ha : DE X ρ a (.bl p)) (hb : p = true → DE X ρ (.BoolOp .And (b :: rest) pos) (.bl q)) : DE X ρ (.BoolOp .And (a :: b :: rest) pos) (.bl (p && q)) := by
  cases p with
  | true => exact PE.weak (pe_and ha (hb rfl)) fun σ H Q ⟨S, ve, k⟩ => ⟨S, ve, fun v H' e r => ⟨true, r.blV, by refine iteT ?_; exact ⟨S, ve.ext e, fun v' H'' e' r' => k v' H'' (e.trans e') r'⟩⟩⟩
  | false =>
    have hn : PE X (.BoolOp .And (b :: rest) pos) (fun _ _ _ => False) := fun _ _ _ _ _ _ z => z.elim
    exact PE.weak (pe_and ha hn) fun σ H Q ⟨S, ve, k⟩ => ⟨S, ve, fun v H' e r => ⟨false, r.blV, by refine iteF ?_; exact k _ H' e (.bl _)⟩⟩
theorem de_or {p q : Bool} {rest : List Expr} (ha : DE X ρ a (.bl p)) (hb : p = false → DE X ρ (.BoolOp .Or (b :: rest) pos) (.bl q)) : DE X ρ (.BoolOp .Or (a :: b :: rest) pos) (.bl (p || q)) := by
  cases p with
  | false => exact PE.weak (pe_or ha (hb rfl)) fun σ H Q ⟨S, ve, k⟩ => ⟨S, ve, fun v H' e r => ⟨false, r.blV, by refine iteF ?_; exact ⟨S, ve.ext e, fun v' H'' e' r' => k v' H'' (e.trans e') r'⟩⟩⟩
  | true =>
    have hn : PE X (.BoolOp .Or (b :: rest) pos) (fun _ _ _ => False) := fun _ _ _ _ _ _ z => z.elim
    exact PE.weak (pe_or ha hn) fun σ H Q ⟨S, ve, k⟩ => ⟨S, ve, fun v H' e r => ⟨true, r.blV, by refine iteT ?_; exact k _ H' e (.bl _)⟩⟩
theorem de_not {p : Bool} (ha : DE X ρ a (.bl p)) : DE X ρ (.UnaryOp .Not a pos) (.bl (!p)) := PE.weak (pe_not ha) fun σ H Q ⟨S, ve, k⟩ => ⟨S, ve, fun v H' e r => ⟨p, r.blV, k _ H' e (.bl _)⟩⟩
theorem dt_not {p : Bool} (ha : DT X ρ a p) : DT X ρ (.UnaryOp .Not a pos) (!p) := PT.weak (pt_not ha) fun σ H Q ⟨S, ve, k⟩ => ⟨S, ve, fun H' e => k H' e⟩
theorem DW.dt {p : Bool} (h : DW X ρ e p) : DT X ρ e p := PW.pt h
theorem dw_and1 {p : Bool} (ha : DT X ρ a p) : DW X ρ (.BoolOp .And [a] pos) p := pw_and1 ha
theorem dw_or1 {p : Bool} (ha : DT X ρ a p) : DW X ρ (.BoolOp .Or [a] pos) p := pw_or1 ha
theorem dw_and {p q : Bool} {rest : List Expr} (ha : DT X ρ a p) (hb : p = true → DW X ρ (.BoolOp .And (b :: rest) pos) q) : DW X ρ (.BoolOp .And (a :: b :: rest) pos) (p && q) := by
  cases p with
  | true => exact PW.weak (pw_and ha (hb rfl)) fun σ H Q ⟨S, ve, k⟩ => ⟨S, ve, fun H' e => by refine iteT ?_; exact ⟨S, ve.ext e, fun H'' e' => k H'' (e.trans e')⟩⟩
  | false =>
    have hn : PW X (.BoolOp .And (b :: rest) pos) (fun _ _ _ => False) := fun _ _ _ _ _ _ _ z => z.elim
    exact PW.weak (pw_and ha hn) fun σ H Q ⟨S, ve, k⟩ => ⟨S, ve, fun H' e => by refine iteF ?_; exact k H' e⟩
theorem dw_or {p q : Bool} {rest : List Expr} (ha : DT X ρ a p) (hb : p = false → DW X ρ (.BoolOp .Or (b :: rest) pos) q) : DW X ρ (.BoolOp .Or (a :: b :: rest) pos) (p || q) := by
  cases p with
  | false => exact PW.weak (pw_or ha (hb rfl)) fun σ H Q ⟨S, ve, k⟩ => ⟨S, ve, fun H' e => by refine iteF ?_; exact ⟨S, ve.ext e, fun H'' e' => k H'' (e.trans e')⟩⟩
  | true =>
    have hn : PW X (.BoolOp .Or (b :: rest) pos) (fun _ _ _ => False) := fun _ _ _ _ _ _ _ z => z.elim
    exact PW.weak (pw_or ha hn) fun σ H Q ⟨S, ve, k⟩ => ⟨S, ve, fun H' e => by refine iteT ?_; exact k H' e⟩
theorem de_if {p : Bool} (hc : DT X ρ c p) (ha : p = true → DE X ρ a d) (hb : p = false → DE X ρ b d) : DE X ρ (.IfExp c a b pos) d := by
  have hn : ∀ e : Expr, PE X e (fun _ _ _ => False) := fun _ _ _ _ _ _ _ z => z.elim
  cases p with
  | true => exact PE.weak (pe_ifExp hc (ha rfl) (hn b)) fun σ H Q ⟨S, ve, k⟩ => ⟨S, ve, fun H' e => by refine iteT ?_; exact ⟨S, ve.ext e, fun v' H'' e' r' => k v' H'' (e.trans e') r'⟩⟩
  | false => exact PE.weak (pe_ifExp hc (hn a) (hb rfl)) fun σ H Q ⟨S, ve, k⟩ => ⟨S, ve, fun H' e => by refine iteF ?_; exact ⟨S, ve.ext e, fun v' H'' e' r' => k v' H'' (e.trans e') r'⟩⟩

/-! ### argument lists, displays, calls of built-ins, items -/
variable {es : List Expr} {ds : List D}
theorem da_nil : DA X ρ [] [] := PA.weak pa_nil fun σ H Q ⟨S, ve, k⟩ => k [] H Ext.refl .nil
theorem da_cons (ha : DE X ρ e d) (hr : DA X ρ es ds) (hs : starEach (e :: es) X.env = (false, eval e X.env) :: starEach es X.env := by rfl) : DA X ρ (e :: es) (d :: ds) :=
  PA.weak (pa_cons ha hr hs) fun σ H Q ⟨S, ve, k⟩ => ⟨S, ve, fun v H' e r => ⟨S, ve.ext e, fun vs H'' e' rs => k (v :: vs) H'' (e.trans e') (.cons (r.ext (e'.to S)) rs)⟩⟩
theorem de_tup {j} (h : DA X ρ es ds) (hl : ds.length ≤ sizeLine) : DE X ρ (.Tuple es j pos) (.tup ds) :=
  PE.weak (pe_tup h) fun σ H Q ⟨S, ve, k⟩ => ⟨S, ve, fun vs H' e rs => ⟨by rw [← rs.length]; exact hl, fun p hp => k _ _ (e.trans (Ext.new hp)) (Rds.newTup (ve.ext e).dom hp rs)⟩⟩
theorem de_lst (h : DA X ρ es ds) (hl : ds.length ≤ sizeLine) : DE X ρ (.List es pos) (.lst ds) :=
  PE.weak (pe_lst h) fun σ H Q ⟨S, ve, k⟩ => ⟨S, ve, fun vs H' e rs => ⟨by rw [← rs.length]; exact hl, fun p hp => k _ _ (e.trans (Ext.new hp)) (Rds.newLst (ve.ext e).dom hp rs)⟩⟩
/-- the call's rule r takes ds to d -/
def CD (K : PySem.W.Frag) (r : List V → Hp → VK → Prop) (ds : List D) (d : D) : Prop := ∀ (xs : List V) (H : Hp) (S : Ad) (Q : VK), RdsL K H S ds xs → Dom H S → (∀ v H', Ext0 H H' → Rds K H' S d v → Q v H') → r xs H Q
theorem call_D {r : List V → Hp → VK → Prop} (h : CD X.K r ds d) (σ : St) (H : Hp) (Q : VK) (q : tD X.K ρ d σ H Q) : tCB r (tDA X.K ρ ds) σ H Q := by
  obtain ⟨S, ve, k⟩ := q
  exact ⟨S, ve, fun vs H1 e1 rs => h vs H1 S Q rs (ve.ext e1).dom fun v H' e3 r3 => k v H' (e1.trans e3) r3⟩
end
end CT

set_option Elab.async false
set_option linter.all false
set_option maxRecDepth 100000
/-! THE DATA LAYER: what is walked, comprehensions, statements, defs -/
namespace CT
open PySem PySem.Spec L2
open PyProof.Rows hiding St

/-! ### what is walked -/
/-- J gives the items, in every later heap -/
def ItD (K : PySem.W.Frag) (S : Ad) (J : It) (its : List D) (H : Hp) : Prop :=
  ∀ (H' : Hp) (S' : Ad), Ext S H H' → (∀ a, S' a → S a ∨ H a = none) → Dom H' S' → ∀ i : Nat, (∀ d, its[i]? = some d → J.go i H' ∧ ∀ x H'', J.yld i H' x H'' → Ext0 H' H'' ∧ Rds K H'' S' d x) ∧ (its.length ≤ i → J.stop i H')
def tDI (K : PySem.W.Frag) (ρ : Rho) (its : List D) : TI := fun σ H R => ∃ S, VE K H S ρ σ ∧ ∀ J H', Ext0 H H' → ItD K S J its H' → R J H'
def DI (X : Cx) (tg : Expr) (ρ : Rho) (iter : Expr) (its : List D) : Prop := PI X tg iter (tDI X.K ρ its)
/-- .. in every later heap in which nothing is changed (a comprehension changes nothing) -/
def ItD0 (K : PySem.W.Frag) (S : Ad) (J : It) (its : List D) (H : Hp) : Prop :=
  ∀ H', Ext0 H H' → Dom H' S → ∀ i : Nat, (∀ d, its[i]? = some d → J.go i H' ∧ ∀ x H'', J.yld i H' x H'' → Ext0 H' H'' ∧ Rds K H'' S d x) ∧ (its.length ≤ i → J.stop i H')
def tDI0 (K : PySem.W.Frag) (ρ : Rho) (its : List D) : TI := fun σ H R => ∃ S, VE K H S ρ σ ∧ ∀ J H', Ext0 H H' → ItD0 K S J its H' → R J H'
def DI0 (X : Cx) (tg : Expr) (ρ : Rho) (iter : Expr) (its : List D) : Prop := PI X tg iter (tDI0 X.K ρ its)
section
variable {X : Cx} {tg e : Expr} {ρ : Rho} {pos : Pos}
theorem PI.weak {wi wi' : TI} (h : PI X tg e wi) (w : ∀ σ H R, wi' σ H R → wi σ H R) : PI X tg e wi' := fun pins s σ H R I q => h pins s σ H R I (w σ H R q)
theorem DI.dI0 {its : List D} (h : DI X tg ρ e its) : DI0 X tg ρ e its := PI.weak h fun σ H R ⟨S, ve, k⟩ => ⟨S, ve, fun J H' ex hJ => k J H' ex fun H'' ex' dm i => hJ H'' S (ex'.to S) (fun a h => .inl h) dm i⟩
theorem RdsL.later {K : PySem.W.Frag} {S S' : Ad} {H H' : Hp} {xs : List D} {vs : List V} (r : RdsL K H S xs vs) (e : Ext S H H') (h : ∀ a, S' a → S a ∨ H a = none) : RdsL K H' S' xs vs :=
  ((r.av (S' := fun a => S a ∨ S' a) fun a z => z.elim .inl (h a)).ext fun a o n q => e a o (fun z => n (.inl z)) q).av fun a z => .inl (.inr z)
theorem Rds.later_lst {K : PySem.W.Frag} {S : Ad} {H : Hp} {xs : List D} {v : V} (r : Rds K H S (.lst xs) v) : ∃ a vs, v = .ref a ∧ ∀ (H' : Hp) (S' : Ad), Ext S H H' → (∀ a, S' a → S a ∨ H a = none) → SqL K H' a vs ∧ RdsL K H' S' xs vs := by
  cases r with
  | lst h n r => exact ⟨_, _, rfl, fun H' S' e z => ⟨.inl (CT.Rd.ext e n h), r.later e z⟩⟩
  | lstK h r => exact ⟨_, _, rfl, fun H' S' e z => ⟨.inr h, r.later e z⟩⟩
theorem Rds.later_tup {K : PySem.W.Frag} {S : Ad} {H : Hp} {xs : List D} {v : V} (r : Rds K H S (.tup xs) v) : ∃ a vs, v = .ref a ∧ ∀ (H' : Hp) (S' : Ad), Ext S H H' → (∀ a, S' a → S a ∨ H a = none) → SqT K H' a vs ∧ RdsL K H' S' xs vs := by
  cases r with
  | tup h n r => exact ⟨_, _, rfl, fun H' S' e z => ⟨.inl (.inl (e _ _ n h)), r.later e z⟩⟩
theorem itd_lst {K : PySem.W.Frag} {S : Ad} {H : Hp} {xs : List D} {a : Addr} {vs : List V} (h : ∀ (H' : Hp) (S' : Ad), Ext S H H' → (∀ a, S' a → S a ∨ H a = none) → SqL K H' a vs ∧ RdsL K H' S' xs vs) : ItD K S (Itl K a) xs H := by
  intro H' S' e z dm i
  obtain ⟨sq, rl⟩ := h H' S' e z
  refine ⟨fun d hd => ?_, fun hi => ⟨vs, sq, by rw [← rl.length]; exact hi⟩⟩
  obtain ⟨v, hv, r⟩ := rl.get hd
  refine ⟨⟨vs, v, sq, hv⟩, fun x H'' y => ?_⟩
  obtain ⟨e2, y⟩ := y
  subst e2
  have hx := y vs sq
  rw [hv] at hx; cases hx
  exact ⟨Ext.refl, r⟩
theorem itd_tup {K : PySem.W.Frag} {S : Ad} {H : Hp} {xs : List D} {a : Addr} {vs : List V} (h : ∀ (H' : Hp) (S' : Ad), Ext S H H' → (∀ a, S' a → S a ∨ H a = none) → SqT K H' a vs ∧ RdsL K H' S' xs vs) : ItD K S (Itt K a) xs H := by
  intro H' S' e z dm i
  obtain ⟨sq, rl⟩ := h H' S' e z
  refine ⟨fun d hd => ?_, fun hi => ⟨vs, sq, by rw [← rl.length]; exact hi⟩⟩
  obtain ⟨v, hv, r⟩ := rl.get hd
  refine ⟨⟨vs, v, sq, hv⟩, fun x H'' y => ?_⟩
  obtain ⟨e2, y⟩ := y
  subst e2
  have hx := y vs sq
  rw [hv] at hx; cases hx
  exact ⟨Ext.refl, r⟩
theorem di_lst {xs : List D} (h : DE X ρ e (.lst xs)) : DI X tg ρ e xs := PI.weak (pi_list h) fun σ H R ⟨S, ve, k⟩ => ⟨S, ve, fun v H' ex r => by
  obtain ⟨a, vs, rfl, l⟩ := r.later_lst
  exact ⟨a, rfl, ⟨vs, (l H' S Ext.refl fun a h => .inl h).1⟩, k _ H' ex (itd_lst l)⟩⟩
theorem di_tup {xs : List D} (h : DE X ρ e (.tup xs)) : DI X tg ρ e xs := PI.weak (pi_tup h) fun σ H R ⟨S, ve, k⟩ => ⟨S, ve, fun v H' ex r => by
  obtain ⟨a, vs, rfl, l⟩ := r.later_tup
  exact ⟨a, rfl, ⟨vs, (l H' S Ext.refl fun a h => .inl h).1⟩, k _ H' ex (itd_tup l)⟩⟩
/-- 0, 1, .. -/
def upto (n : Nat) : List D := (List.range n).map fun k : Nat => D.int (k : Int)
theorem itd_rng {K : PySem.W.Frag} {S : Ad} {H : Hp} {n : Nat} : ItD K S (Itr 0 n) (upto n) H := by
  intro H' S' e z dm i
  refine ⟨fun d hd => ?_, fun hi => show n ≤ i by simpa [upto] using hi⟩
  have hi : i < n := by
    have := (List.getElem?_eq_some_iff.mp hd).1
    simpa [upto] using this
  refine ⟨hi, fun x H'' y => ?_⟩
  obtain ⟨e2, e3⟩ := y
  subst e2 e3
  have hd' : d = .int (i : Int) := by
    rw [upto, List.getElem?_map, List.getElem?_range hi] at hd
    exact (Option.some.inj hd).symm
  subst hd'
  rw [Int.zero_add]
  exact ⟨Ext.refl, .int _⟩
theorem di_range {a : Expr} {j : Int} {p : Pos} (hg : Gl X "range") (hm : X.mg "range" = none) (ha : DA X ρ [a] [.int j]) (h1 : -(2 ^ 62) ≤ j) (h2 : j < 2 ^ 62) (hs : starEach [a] X.env = [(false, eval a X.env)] := by rfl) : DI X tg ρ (.Call (.Name "range" p) [a] [] pos) (upto j.toNat) :=
  PI.weak (pi_range1 hg hm ha hs) fun σ H R ⟨S, ve, k⟩ => ⟨S, ve, fun vs H' ex rs => by
    obtain ⟨v, rfl, r⟩ := rs.one
    rw [r.intV]
    exact ⟨j, rfl, h1, h2, k _ H' ex itd_rng⟩⟩
/-- a sequence: a list or a tuple -/
inductive Sq : D → List D → Prop
  | lst (xs : List D) : Sq (.lst xs) xs
  | tup (xs : List D) : Sq (.tup xs) xs
theorem Sq.later {K : PySem.W.Frag} {S : Ad} {H : Hp} {d : D} {xs : List D} {v : V} (q : Sq d xs) (r : Rds K H S d v) : ∃ b a vs, v = .ref a ∧ ∀ (H' : Hp) (S' : Ad), Ext S H H' → (∀ a, S' a → S a ∨ H a = none) → SqB K H' b a vs ∧ RdsL K H' S' xs vs := by
  cases q with
  | lst => obtain ⟨a, vs, e, l⟩ := r.later_lst; exact ⟨false, a, vs, e, l⟩
  | tup => obtain ⟨a, vs, e, l⟩ := r.later_tup; exact ⟨true, a, vs, e, l⟩
theorem di_sq {d : D} {xs : List D} (q : Sq d xs) (h : DE X ρ e d) : DI X tg ρ e xs := by
  cases q with
  | lst => exact di_lst h
  | tup => exact di_tup h
def zipD : List D → List D → List D
  | x :: xs, y :: ys => .tup [x, y] :: zipD xs ys
  | _, _ => []
theorem zipD_get : ∀ {xs ys : List D} {i : Nat} {d : D}, (zipD xs ys)[i]? = some d → ∃ x y, xs[i]? = some x ∧ ys[i]? = some y ∧ d = .tup [x, y]
  | x :: xs, y :: ys, 0, d, h => by
    simp [zipD] at h
    exact ⟨x, y, rfl, rfl, h.symm⟩
  | x :: xs, y :: ys, i + 1, d, h => by
    simp [zipD] at h
    obtain ⟨x', y', h1, h2, h3⟩ := zipD_get h
    exact ⟨x', y', by simpa using h1, by simpa using h2, h3⟩
  | [], _, _, _, h => by simp [zipD] at h
  | _ :: _, [], _, _, h => by simp [zipD] at h
theorem zipD_len : ∀ {xs ys : List D}, (zipD xs ys).length = min xs.length ys.length
  | x :: xs, y :: ys => by simp [zipD, zipD_len]
  | [], _ => by simp [zipD]
  | _ :: _, [] => by simp [zipD]
theorem di_zip2 {a b : Expr} {da db : D} {xs ys : List D} {elts : List Expr} {k} {tpos p : Pos} (hg : Gl X "zip") (hm : X.mg "zip" = none) (qa : Sq da xs) (qb : Sq db ys) (ha : DA X ρ [a, b] [da, db])
    (hs : starEach [a, b] X.env = [(false, eval a X.env), (false, eval b X.env)] := by rfl) (hs2 : starEach [b] X.env = [(false, eval b X.env)] := by rfl) : DI X (.Tuple elts k tpos) ρ (.Call (.Name "zip" p) [a, b] [] pos) (zipD xs ys) :=
  PI.weak (pi_zip2 hg hm ha hs hs2) fun σ H R ⟨S, ve, kk⟩ => ⟨S, ve, fun vs H' ex rs => by
    obtain ⟨v, u, rfl, r1, r2⟩ := rs.two
    obtain ⟨b1, a1, vs1, rfl, l1⟩ := qa.later r1
    obtain ⟨b2, a2, vs2, rfl, l2⟩ := qb.later r2
    refine ⟨b1, b2, a1, a2, vs1, vs2, rfl, (l1 H' S Ext.refl fun a h => .inl h).1, (l2 H' S Ext.refl fun a h => .inl h).1, kk _ H' ex fun H2 S2 e2 z2 dm i => ?_⟩
    obtain ⟨s1, t1⟩ := l1 H2 S2 e2 z2
    obtain ⟨s2, t2⟩ := l2 H2 S2 e2 z2
    refine ⟨fun d hd => ?_, fun hi => ⟨vs1, vs2, s1, s2, ?_⟩⟩
    · obtain ⟨x, y, hx, hy, rfl⟩ := zipD_get hd
      obtain ⟨x', hx', rx⟩ := t1.get hx
      obtain ⟨y', hy', ry⟩ := t2.get hy
      refine ⟨⟨vs1, vs2, x', y', s1, s2, hx', hy'⟩, fun z H3 yl => ?_⟩
      obtain ⟨T, x2, y2, hT, rfl, rfl, g1, g2⟩ := yl
      have e1 := g1 vs1 s1
      have e2' := g2 vs2 s2
      rw [hx'] at e1; cases e1
      rw [hy'] at e2'; cases e2'
      exact ⟨Ext.new hT, Rds.newTup dm hT (.cons rx (.cons ry .nil))⟩
    · have h1 := t1.length
      have h2 := t2.length
      rw [zipD_len] at hi
      omega⟩
end

/-! ### targets -/
def Chg (ks : List Nat) (σ σ' : St) : Prop := σ'.length = σ.length ∧ ∀ i : Nat, i ∉ ks → σ'[i]? = σ[i]?
theorem Chg.fgt {ks : List Nat} {σ σ' : St} (c : Chg ks σ σ') (h : ∀ k ∈ ks, σ[k]? = some none) : Fgt σ σ' := ⟨c.1.symm, fun i v e => by
  by_cases hi : i ∈ ks
  · rw [h i hi] at e; cases e
  · rw [c.2 i hi]; exact e⟩
theorem Chg.trans {ks ls : List Nat} {σ σ' σ'' : St} (a : Chg ks σ σ') (b : Chg ls σ' σ'') : Chg (ks ++ ls) σ σ'' := ⟨b.1.trans a.1, fun i hi => by
  rw [List.mem_append, not_or] at hi
  exact (b.2 i hi.2).trans (a.2 i hi.1)⟩
def tDG (K : PySem.W.Frag) (ρ : Rho) (d : D) (ρ' : Rho) (ks : List Nat) : TG := fun v σ H Q => ∃ S, VE K H S ρ σ ∧ Rds K H S d v ∧ ∀ σ', VE K H S ρ' σ' → Chg ks σ σ' → Q σ' H
def tDGs (K : PySem.W.Frag) (ρ : Rho) (ds : List D) (ρ' : Rho) (ks : List Nat) : TGs := fun vs σ H Q => ∃ S, VE K H S ρ σ ∧ RdsL K H S ds vs ∧ ∀ σ', VE K H S ρ' σ' → Chg ks σ σ' → Q σ' H
def DG (X : Cx) (tg : Expr) (ρ : Rho) (d : D) (ρ' : Rho) (ks : List Nat) : Prop := PG X tg (tDG X.K ρ d ρ' ks)
def DGs (X : Cx) (tgs : List Expr) (ρ : Rho) (ds : List D) (ρ' : Rho) (ks : List Nat) : Prop := PGs X tgs (tDGs X.K ρ ds ρ' ks)
section
variable {X : Cx} {ρ ρ' ρ'' : Rho} {d : D} {ds : List D} {ks ls : List Nat} {pos : Pos} {tg : Expr} {tgs : List Expr}
theorem PG.weak {g g' : TG} (h : PG X tg g) (w : ∀ v σ H Q, g' v σ H Q → g v σ H Q) : PG X tg g' := fun pins s σ H v u Q I r q => h pins s σ H v u Q I r (w v σ H Q q)
theorem PGs.weak {g g' : TGs} (h : PGs X tgs g) (w : ∀ v σ H Q, g' v σ H Q → g v σ H Q) : PGs X tgs g' := fun pins s σ H v u Q I r q => h pins s σ H v u Q I r (w v σ H Q q)
theorem dg_name {k : Nat} {x : Str} (hN : X.N.Nodup) (hi : X.N[k]? = some x) (hx : Loc X.env.scope x) (hf : X.fn x = true ∨ X.env.scope.names.lookup x = some .local := by first | exact .inl rfl | exact .inr rfl | assumption) : DG X (.Name x pos) ρ d (ρ.set k (.val d)) [k] :=
  PG.weak (pg_name hN hi hx hf) fun v σ H Q ⟨S, ve, r, q⟩ => q _ (ve.set r) ⟨by simp, fun i hi => by
    rw [List.getElem?_set_ne]
    intro z; exact hi (by simp [z])⟩
theorem dgs_nil : DGs X [] ρ [] ρ [] := PGs.weak pgs_nil fun vs σ H Q ⟨S, ve, r, q⟩ => ⟨by cases r; rfl, q σ ve ⟨rfl, fun _ _ => rfl⟩⟩
theorem dgs_cons (h1 : DG X tg ρ d ρ' ks) (h2 : DGs X tgs ρ' ds ρ'' ls) (hs : (assignEach (tg :: tgs) X.env).map (·.2) = assign tg X.env :: (assignEach tgs X.env).map (·.2) := by rfl) : DGs X (tg :: tgs) ρ (d :: ds) ρ'' (ks ++ ls) :=
  PGs.weak (pgs_cons h1 h2 hs) fun vs σ H Q ⟨S, ve, r, q⟩ => by
    cases r with
    | cons r1 r2 => exact ⟨_, _, rfl, S, ve, r1, fun σ' ve' c => ⟨S, ve', r2, fun σ'' ve'' c' => q σ'' ve'' (c.trans c')⟩⟩
theorem dg_tup {k} {n : Nat} (hc : X.calm = true) (h : DGs X tgs ρ ds ρ' ks) (hl : ds.length = n) (hn : (assignEach tgs X.env).length = n := by rfl) (hst : (assignEach tgs X.env).findIdx? (·.1) = none := by rfl) : DG X (.Tuple tgs k pos) ρ (.tup ds) ρ' ks :=
  PG.weak (pg_tup hc h hn hst) fun v σ H Q ⟨S, ve, r, q⟩ => by
    obtain ⟨a, vs, rfl, ha, rl⟩ := r.tupV
    exact ⟨a, vs, rfl, .inl (.inl ha), by rw [← rl.length]; exact hl, S, ve, rl, q⟩
end

/-! ### comprehensions -/
def tDB (K : PySem.W.Frag) (ρ : Rho) (out : List D) : TB := fun σ H ys Q => ∃ S, VE K H S ρ σ ∧ ys.length + out.length ≤ sizeLine ∧ ∀ vs H', Ext0 H H' → RdsL K H' S out vs → Q (ys ++ vs) H'
def DB (Y : Cx) (acc : Addr) (m : Sem Unit) (ρ : Rho) (out : List D) : Prop := PB Y acc m (tDB Y.K ρ out)
def DTs (Y : Cx) (ρ : Rho) (ifs : List Expr) (b : Bool) : Prop := PTs Y ifs (tDT Y.K ρ b)
theorem PB.weak {Y : Cx} {acc : Addr} {m : Sem Unit} {t t' : TB} (h : PB Y acc m t) (w : ∀ σ H ys Q, t' σ H ys Q → t σ H ys Q) : PB Y acc m t' := fun pins s σ H ys Q I f a q => h pins s σ H ys Q I f a (w σ H ys Q q)
theorem PTs.weak {Y : Cx} {ifs : List Expr} {t t' : TT} (h : PTs Y ifs t) (w : ∀ σ H Q, t' σ H Q → t σ H Q) : PTs Y ifs t' := fun pins s σ H Q I q => h pins s σ H Q I (w σ H Q q)
section
variable {Y : Cx} {acc : Addr} {ρ : Rho} {d : D}
theorem dts_nil : DTs Y ρ [] true := PTs.weak pts_nil fun σ H Q ⟨S, ve, k⟩ => k H Ext.refl
theorem dts_one {c : Expr} {b : Bool} (h : DT Y ρ c b) : DTs Y ρ [c] b := pts_one h
theorem db_emit {elt : Expr} (he : DE Y ρ elt d) : DB Y acc (do let _ ← call (.builtin "list.append") [.ref acc, ← eval elt Y.env]) ρ [d] :=
  PB.weak (pb_emit he) fun σ H ys Q ⟨S, ve, hl, k⟩ => ⟨Nat.le_trans (Nat.le_add_right _ _) hl, S, ve, fun v H' e r => k [v] H' e (.cons r .nil)⟩
/-- one turn: the target is set, the tests are b, out comes -/
def TurnD (G : Rho → D → Rho → List Nat → Prop) (T : Rho → Bool → Prop) (B : Rho → List D → Prop) (ρ : Rho) (ks : List Nat) (d : D) (out : List D) : Prop :=
  ∃ ρ' b, G ρ d ρ' ks ∧ T ρ' b ∧ (b = true → B ρ' out) ∧ (b = false → out = [])
/-- the readings of a loop whose turns are known -/
def gA (K : PySem.W.Frag) (G : Rho → D → Rho → List Nat → Prop) : TG := fun v σ H Q => ∃ ρ d ρ' ks, G ρ d ρ' ks ∧ tDG K ρ d ρ' ks v σ H Q
def ttA (K : PySem.W.Frag) (T : Rho → Bool → Prop) : TT := fun σ H Q => ∃ ρ b, T ρ b ∧ tDT K ρ b σ H Q
def tbA (K : PySem.W.Frag) (B : Rho → List D → Prop) : TB := fun σ H ys Q => ∃ ρ out, B ρ out ∧ tDB K ρ out σ H ys Q
theorem pg_A {tg : Expr} {G : Rho → D → Rho → List Nat → Prop} (h : ∀ ρ d ρ' ks, G ρ d ρ' ks → DG Y tg ρ d ρ' ks) : PG Y tg (gA Y.K G) := fun pins s σ H v u Q I r ⟨_, _, _, _, g, q⟩ => h _ _ _ _ g pins s σ H v u Q I r q
theorem pts_A {ifs : List Expr} {T : Rho → Bool → Prop} (h : ∀ ρ b, T ρ b → DTs Y ρ ifs b) : PTs Y ifs (ttA Y.K T) := fun pins s σ H Q I ⟨_, _, g, q⟩ => h _ _ g pins s σ H Q I q
theorem pb_A {m : Sem Unit} {B : Rho → List D → Prop} (h : ∀ ρ out, B ρ out → DB Y acc m ρ out) : PB Y acc m (tbA Y.K B) := fun pins s σ H ys Q I f a ⟨_, _, g, q⟩ => h _ _ g pins s σ H ys Q I f a q
theorem flatten_step {outs : List (List D)} {i : Nat} (h : i < outs.length) : (outs.take (i + 1)).flatten = (outs.take i).flatten ++ outs[i] := by
  rw [List.take_succ_eq_append_getElem h, List.flatten_append]
  simp
theorem loop_D {K : PySem.W.Frag} {G : Rho → D → Rho → List Nat → Prop} {T : Rho → Bool → Prop} {B : Rho → List D → Prop} {ks : List Nat} {J : It} {its : List D} {outs : List (List D)} (hks : ∀ k ∈ ks, ρ[k]? = some .nil) (hl : its.length = outs.length)
    (ht : ∀ (i : Nat) d out, its[i]? = some d → outs[i]? = some out → TurnD G T B ρ ks d out) {σ : St} {H : Hp} {S : Ad} {ys : List V} {Q : List V → Hp → Prop} (ve : VE K H S ρ σ) (hJ : ItD0 K S J its H) (hz : ys.length + outs.flatten.length ≤ sizeLine)
    (q : ∀ vs H', Ext0 H H' → RdsL K H' S outs.flatten vs → Q (ys ++ vs) H') : tLoop (gA K G) (ttA K T) (tbA K B) J σ H ys Q := by
  refine ⟨fun i n ys' H' => n = its.length - i ∧ i ≤ its.length ∧ Ext0 H H' ∧ ∃ vs, ys' = ys ++ vs ∧ RdsL K H' S (outs.take i).flatten vs, ⟨its.length, by simp, Nat.zero_le _, Ext.refl, [], by simp, by simpa using RdsL.nil⟩, ?_⟩
  rintro i n ys' H' ⟨rfl, hi, ex, vs, rfl, rv⟩
  have dm := (ve.ext ex).dom
  obtain ⟨J1, J2⟩ := hJ H' ex dm i
  by_cases hlt : i < its.length
  · have hlo : i < outs.length := hl ▸ hlt
    have hd : its[i]? = some its[i] := by simp [hlt]
    have ho : outs[i]? = some outs[i] := by simp [hlo]
    obtain ⟨go, yld⟩ := J1 _ hd
    obtain ⟨ρ', b, hg, hts, hb1, hb2⟩ := ht i _ _ hd ho
    have step := flatten_step hlo
    have lenO : (outs.take i).flatten.length + outs[i].length ≤ outs.flatten.length := by
      have e : outs.flatten = (outs.take (i + 1)).flatten ++ (outs.drop (i + 1)).flatten := by rw [← List.flatten_append, List.take_append_drop]
      rw [e, step, List.length_append, List.length_append]
      omega
    refine .inr ⟨go, fun x H1 y => ?_⟩
    obtain ⟨e1, r1⟩ := yld x H1 y
    have ve1 := (ve.ext ex).ext e1
    refine ⟨ρ, its[i], ρ', ks, hg, S, ve1, r1, fun σ2 ve2 c => ⟨c.fgt fun k hk => ve.unset (hks k hk), ρ', b, hts, S, ve2, fun H2 e2 => ?_⟩⟩
    cases b with
    | true =>
      refine iteT ⟨ρ', _, hb1 rfl, S, ve2.ext e2, ?_, fun us H3 e3 ru => ⟨its.length - (i + 1), by omega, rfl, hlt, ex.trans (e1.trans (e2.trans e3)), vs ++ us, by rw [List.append_assoc], ?_⟩⟩
      · rw [List.length_append, ← rv.length]
        omega
      · rw [step]
        exact RdsL.app (rv.ext ((e1.trans (e2.trans e3)).to S)) ru
    | false =>
      refine iteF ⟨its.length - (i + 1), by omega, rfl, hlt, ex.trans (e1.trans e2), vs, rfl, ?_⟩
      rw [step, hb2 rfl, List.append_nil]
      exact rv.ext ((e1.trans e2).to S)
  · have e : i = its.length := by omega
    subst e
    refine .inl ⟨J2 (Nat.le_refl _), q vs H' ex ?_⟩
    rw [hl, List.take_length] at rv
    exact rv
theorem db_nest {elt : Expr} {gens : List Comprehension} {scope : Scope} {pos : Pos} {n : Nat} {tg iter : Expr} {ifs : List Expr} {ks : List Nat} {its : List D} {outs : List (List D)} (hg : gens[n + 1]? = some ⟨tg, iter, ifs, 0⟩) (hc : Y.calm = true) (hx : ∀ e s, Y.xe e s → False)
    (hi : DI0 Y tg ρ iter its) (hks : ∀ k ∈ ks, ρ[k]? = some .nil) (hl : its.length = outs.length)
    (ht : ∀ (i : Nat) d out, its[i]? = some d → outs[i]? = some out → TurnD (DG Y tg) (fun ρ b => DTs Y ρ ifs b) (DB Y acc (insideOf elt gens scope pos (n + 1) (.ref acc) Y.env)) ρ ks d out)
    (hs : ∀ x, foldedSetIterable iter Y.env x = pure x := by intro _; rfl) : DB Y acc (insideOf elt gens scope pos n (.ref acc) Y.env) ρ outs.flatten :=
  PB.weak (pb_nest hg hc hx hi (pg_A fun _ _ _ _ h => h) (pts_A fun _ _ h => h) (pb_A fun _ _ h => h) hs) fun σ H ys Q ⟨S, ve, hz, k⟩ => ⟨S, ve, fun J H' e hJ => loop_D hks hl ht (ve.ext e) hJ hz fun vs H'' e' r => k vs H'' (e.trans e') r⟩
end

/-- the block's slots -/
def capS : Option Sl → Sl
  | some (.val d) => .val d
  | some .nil => .nil
  | _ => .any
def cR (own : List Str) (cap : List (Str × Nat)) (ρ : Rho) : Rho := own.map (fun _ => .nil) ++ cap.map fun p => capS ρ[p.2]?
theorem capS_own {o : Option Sl} : ¬ (capS o).owns := by
  unfold capS
  split <;> exact fun h => h
theorem VE.cap {K : PySem.W.Frag} {H : Hp} {S : Ad} {ρ : Rho} {σ : St} {own : List Str} {cap : List (Str × Nat)} (ve : VE K H S ρ σ) : VE K H S (cR own cap ρ) (cS own cap σ) := by
  have nown : ∀ (i : Nat) (x : Sl), (cR own cap ρ)[i]? = some x → ¬ x.owns := fun i x h o => by
    have hm := List.mem_of_getElem? h
    unfold cR at hm
    rcases List.mem_append.mp hm with hm | hm
    · obtain ⟨y, _, e⟩ := List.mem_map.mp hm; rw [← e] at o; exact o
    · obtain ⟨p, _, e⟩ := List.mem_map.mp hm; rw [← e] at o; exact capS_own o
  refine ⟨by simp [cR, cS], fun i x h => ?_, fun i j x y a _ h _ o => absurd o (nown i x h), ve.dom⟩
  unfold cR at h
  unfold cS
  by_cases hi : i < own.length
  · rw [List.getElem?_append_left (by simpa using hi), List.getElem?_map] at h
    rw [List.getElem?_append_left (by simpa using hi), List.getElem?_map]
    cases hq : own[i]? with
    | none => rw [hq] at h; cases h
    | some y => rw [hq] at h; cases h; exact ⟨none, rfl, rfl⟩
  · have hi' : own.length ≤ i := Nat.le_of_not_lt hi
    rw [List.getElem?_append_right (by simpa using hi'), List.getElem?_map, List.length_map] at h
    rw [List.getElem?_append_right (by simpa using hi'), List.getElem?_map, List.length_map]
    cases hq : cap[i - own.length]? with
    | none => rw [hq] at h; cases h
    | some p =>
      rw [hq] at h
      have e : capS ρ[p.2]? = x := Option.some.inj h
      refine ⟨_, rfl, ?_⟩
      subst e
      cases hr : ρ[p.2]? with
      | none => trivial
      | some y =>
        cases y with
        | nil => show (σ[p.2]?).join = none; rw [ve.unset hr]; rfl
        | any => trivial
        | own xs => trivial
        | new C x dx fs => trivial
        | val d =>
          obtain ⟨u, hu, r⟩ := ve.get hr
          exact ⟨u, by show (σ[p.2]?).join = some u; rw [hu]; rfl, r⟩

section
variable {X : Cx} {scope : Scope} {own : List Str} {cap : List (Str × Nat)} {ρ : Rho} {elt tg iter : Expr} {ifs : List Expr} {rest : List Comprehension} {pos : Pos} {ks : List Nat} {its : List D} {outs : List (List D)}
/-- a comprehension that comes to ds, as a value and where a name is set to it -/
structure DC (X : Cx) (ρ : Rho) (e : Expr) (ds : List D) : Prop where
  /-- the list is new -/
  pe : PE X e (fun σ H Q => ∃ S, VE X.K H S ρ σ ∧ ∀ a vs H', Ext0 H H' → H' a = none → RdsL X.K H' S ds vs → Q (.ref a) (upd H' a (.lst vs)))
  ps : ∀ (i : Nat) (x : Str) (pos' spos : Pos), X.N.Nodup → X.N[i]? = some x → Loc X.env.scope x → (X.fn x = true ∨ X.env.scope.names.lookup x = some .local) → swapsWith e (some (.Name x pos')) spos.line X.env = pure true →
    PS X (.Assign [.Name x pos'] e spos) (tAsg (fun σ H Q => ∃ S, VE X.K H S ρ σ ∧ ∀ a vs H', Ext0 H H' → H' a = none → RdsL X.K H' S ds vs → Q (.ref a) (upd H' a (.lst vs))) (gName i))
theorem dc_comp (cs : CS X scope own cap) (hc : X.calm = true) (hi : DI0 X tg ρ iter its) (hks : ∀ k ∈ ks, (cR own cap ρ)[k]? = some .nil) (hl : its.length = outs.length) (hz : outs.flatten.length ≤ sizeLine)
    (ht : ∀ (i : Nat) d out, its[i]? = some d → outs[i]? = some out → TurnD (fun ρ d ρ' ks => ∀ p s h f, DG (cX X scope own cap p s h f) tg ρ d ρ' ks) (fun ρ b => ∀ p s h f, DTs (cX X scope own cap p s h f) ρ ifs b)
      (fun ρ out => ∀ p s h f acc, DB (cX X scope own cap p s h f) acc (insideOf elt (⟨tg, iter, ifs, 0⟩ :: rest) scope pos 0 (.ref acc) (cEnv X scope s.heap.objs.size)) ρ out) (cR own cap ρ) ks d out)
    (hs : ∀ x, foldedSetIterable iter X.env x = pure x := by intro _; rfl) : DC X ρ (.ListComp elt (⟨tg, iter, ifs, 0⟩ :: rest) scope pos) outs.flatten := by
  have rd : ∀ (σ : St) (H : Hp) (Q : VK), (∃ S, VE X.K H S ρ σ ∧ ∀ a vs H', Ext0 H H' → H' a = none → RdsL X.K H' S outs.flatten vs → Q (.ref a) (upd H' a (.lst vs))) →
      tComp own cap (tDI0 X.K ρ its) (gA X.K _) (ttA X.K _) (tbA X.K _) σ H Q := fun σ H Q ⟨S, ve, k⟩ => ⟨S, ve, fun J H1 e1 hJ => loop_D hks hl ht (ve.ext e1).cap hJ (by simpa using hz) fun vs H2 e2 r => ⟨by rw [List.nil_append, ← r.length]; exact hz, fun a ha => by
    rw [List.nil_append]; exact k a vs H2 (e1.trans e2) ha r⟩⟩
  have g1 : ∀ p s h f, PG (cX X scope own cap p s h f) tg (gA X.K (fun ρ d ρ' ks => ∀ p s h f, DG (cX X scope own cap p s h f) tg ρ d ρ' ks)) := fun p s h f => pg_A (Y := cX X scope own cap p s h f) fun _ _ _ _ g => g p s h f
  have g2 : ∀ p s h f, PTs (cX X scope own cap p s h f) ifs (ttA X.K (fun ρ b => ∀ p s h f, DTs (cX X scope own cap p s h f) ρ ifs b)) := fun p s h f => pts_A (Y := cX X scope own cap p s h f) fun _ _ g => g p s h f
  have g3 : ∀ p s h f acc, PB (cX X scope own cap p s h f) acc (insideOf elt (⟨tg, iter, ifs, 0⟩ :: rest) scope pos 0 (.ref acc) (cEnv X scope s.heap.objs.size)) (tbA X.K (fun ρ out => ∀ p s h f acc, DB (cX X scope own cap p s h f) acc (insideOf elt (⟨tg, iter, ifs, 0⟩ :: rest) scope pos 0 (.ref acc) (cEnv X scope s.heap.objs.size)) ρ out)) :=
    fun p s h f acc => pb_A (Y := cX X scope own cap p s h f) fun _ _ g => g p s h f acc
  refine ⟨PE.weak (pe_comp cs hc hi g1 g2 g3 hs) rd, fun i x pos' spos hN hix hx hf hsw => PS.weak (ps_comp cs hc hN hix hx hi g1 g2 g3 hsw hs hf) fun D σ H q => rd σ H _ q⟩
theorem DC.de {e : Expr} {ds : List D} (h : DC X ρ e ds) : DE X ρ e (.lst ds) := PE.weak h.pe fun σ H Q ⟨S, ve, k⟩ => ⟨S, ve, fun a vs H' e hp r => k _ _ (e.trans (Ext.new hp)) (Rds.newLst (ve.ext e).dom hp r)⟩

theorem getmap {α β : Type} {l : List α} {g : α → β} {i : Nat} {b : β} (h : (l.map g)[i]? = some b) : ∃ a, l[i]? = some a ∧ g a = b := by
  rw [List.getElem?_map] at h
  cases e : l[i]? with
  | none => rw [e] at h; cases h
  | some a => rw [e] at h; exact ⟨a, rfl, Option.some.inj h⟩
theorem flat_single {α : Type} {l : List α} {f : α → D} : (l.map fun a => [f a]).flatten = l.map f := by
  induction l with
  | nil => rfl
  | cons a l ih => simp only [List.map_cons, List.flatten_cons, ih]; rfl
variable {α : Type} {l : List α} {f g : α → D} {x : Str} {k : Nat} {px : Pos}
/-- [elt for x in iter] -/
theorem dc_map (cs : CS X scope own cap) (hc : X.calm = true) (hk : own[k]? = some x) (hi : DI0 X (.Name x px) ρ iter (l.map g)) (hz : l.length ≤ sizeLine)
    (he : ∀ a ∈ l, ∀ p s h fp, DE (cX X scope own cap p s h fp) ((cR own cap ρ).set k (.val (g a))) elt (f a))
    (hs : ∀ x, foldedSetIterable iter X.env x = pure x := by intro _; rfl) : DC X ρ (.ListComp elt [⟨.Name x px, iter, [], 0⟩] scope pos) (l.map f) := by
  have hown := (List.getElem?_eq_some_iff.mp hk).1
  rw [← flat_single]
  refine dc_comp (ks := [k]) (outs := l.map fun a => [f a]) cs hc hi (fun j hj => ?_) (by simp) (by rw [flat_single, List.length_map]; exact hz) (fun i d out h1 h2 => ?_) hs
  · have e : j = k := by simpa using hj
    subst e
    unfold cR
    rw [List.getElem?_append_left (by simpa using hown), List.getElem?_map, hk]; rfl
  · obtain ⟨a, ea, rfl⟩ := getmap h1
    obtain ⟨a', ea', rfl⟩ := getmap h2
    rw [ea] at ea'; cases ea'
    refine ⟨_, true, fun p s h fp => PG.weak (cg cs hk) ?_, fun p s h fp => dts_nil, fun _ p s h fp acc => db_emit (Y := cX X scope own cap p s h fp) (he a (List.mem_of_getElem? ea) p s h fp), fun z => nomatch z⟩
    intro v σ H Q ⟨S, ve, r, q⟩
    exact q _ (ve.set r) ⟨by simp, fun i hi => by
      rw [List.getElem?_set_ne]
      intro z; exact hi (by simp [z])⟩
end
end CT

set_option Elab.async false
set_option linter.all false
set_option maxRecDepth 100000
/-! THE DATA LAYER: statements, defs, calls -/
namespace CT
open PySem PySem.Spec L2
open PyProof.Rows hiding St

/-- how a statement ends: onward with the slots ρ; with the value d; with a new list -/
inductive Out where
  | nx (ρ : Rho) | rt (d : D) | rf (xs : List D)
abbrev Ad.and (S : Ad) (a : Addr) : Ad := fun b => S b ∨ b = a
/-- the frame: H₀, S₀ at the def's entry, H, S now -/
structure Fm (K : PySem.W.Frag) (H₀ : Hp) (S₀ : Ad) (H : Hp) (S : Ad) (ρ : Rho) (σ : St) : Prop where
  ve : VE K H S ρ σ
  ext : Ext0 H₀ H
  sub : ∀ a, S₀ a → S a
  new : ∀ a, S a → S₀ a ∨ H₀ a = none
  dm : Dom H₀ S₀
  own : ∀ (i : Nat) (x : Sl) (a : Addr), ρ[i]? = some x → x.owns → σ[i]? = some (some (.ref a)) → H₀ a = none
def OutK (K : PySem.W.Frag) (H₀ : Hp) (S₀ : Ad) (E : Ends) : Out → Prop
  | .nx ρ' => ∀ σ' H' S', Fm K H₀ S₀ H' S' ρ' σ' → E.nx σ' H'
  | .rt d => ∀ v H', Ext0 H₀ H' → Rds K H' S₀ d v → E.rt v H'
  | .rf xs => ∀ a vs H', Ext0 H₀ H' → H₀ a = none → H' a = some (.lst vs) → RdsL K H' (S₀.and a) xs vs → E.rt (.ref a) H'
def tDS (K : PySem.W.Frag) (ρ : Rho) (o : Out) : TS := fun E σ H => ∃ H₀ S₀ S, Fm K H₀ S₀ H S ρ σ ∧ OutK K H₀ S₀ E o
def DS (X : Cx) (ρ : Rho) (st : Stmt) (o : Out) : Prop := PS X st (tDS X.K ρ o)
def DSs (X : Cx) (ρ : Rho) (sts : List Stmt) (o : Out) : Prop := PSs X sts (tDS X.K ρ o)
/-- e comes to a new list -/
def tDF (K : PySem.W.Frag) (ρ : Rho) (xs : List D) : TE := fun σ H Q => ∃ S, VE K H S ρ σ ∧ ∀ a vs H', Ext0 H H' → H a = none → H' a = some (.lst vs) → RdsL K H' (S.and a) xs vs → Q (.ref a) H'
def DF (X : Cx) (ρ : Rho) (e : Expr) (xs : List D) : Prop := PE X e (tDF X.K ρ xs)

section
variable {K : PySem.W.Frag} {H₀ H H' : Hp} {S₀ S : Ad} {ρ : Rho} {σ : St}
theorem Ext.back {a : Addr} (e : Ext0 H H') (h : H' a = none) : H a = none := by
  cases q : H a with
  | none => rfl
  | some o => rw [e a o (fun z => z) q] at h; cases h
theorem Fm.grow (f : Fm K H₀ S₀ H S ρ σ) (e : Ext0 H H') : Fm K H₀ S₀ H' S ρ σ := ⟨f.ve.ext e, f.ext.trans e, f.sub, f.new, f.dm, f.own⟩
theorem Fm.set {i : Nat} {d : D} {u : V} (f : Fm K H₀ S₀ H S ρ σ) (r : Rds K H S d u) : Fm K H₀ S₀ H S (ρ.set i (.val d)) (σ.set i (some u)) := ⟨f.ve.set r, f.ext, f.sub, f.new, f.dm, fun j x a h o h2 => by
  by_cases hj : i = j
  · subst hj
    have hi := (List.getElem?_eq_some_iff.mp h).1
    rw [List.getElem?_set_self (by simpa using hi)] at h; cases h; exact o.elim
  · rw [List.getElem?_set_ne hj] at h h2
    exact f.own j x a h o h2⟩
theorem Fm.out (f : Fm K H₀ S₀ H S ρ σ) {d : D} {v : V} (r : Rds K H S d v) : Rds K H S₀ d v := r.av fun a h => .inl (f.sub a h)
theorem RO.av {S' : Ad} {x : Sl} {v : Option V} (e : ∀ a, S' a → S a ∨ H a = none) (up : ∀ a, v = some (.ref a) → S a → S' a) (r : RO K H S x v) : RO K H S' x v := by
  cases x with
  | nil => exact r
  | any => trivial
  | val d => obtain ⟨u, h, r⟩ := r; exact ⟨u, h, r.av e⟩
  | own xs => obtain ⟨a, vs, h, s, o, r⟩ := r; exact ⟨a, vs, h, up a h s, o, r.av e⟩
  | new C x dx fs => obtain ⟨gs, h, s, o, r⟩ := r; exact ⟨gs, h, up _ h s, o, r.av e⟩
/-- a new list of one's own is stored -/
theorem Fm.setOwn {i : Nat} {xs : List D} {a : Addr} {vs : List V} (f : Fm K H₀ S₀ H S ρ σ) (e : Ext0 H H') (hn : H a = none) (ha : H' a = some (.lst vs)) (r : RdsL K H' (S.and a) xs vs) :
    Fm K H₀ S₀ H' (S.and a) (ρ.set i (.own xs)) (σ.set i (some (.ref a))) := by
  have nS : ∀ b, S b → b ≠ a := fun b h z => f.ve.dom b h (by rw [z]; exact hn)
  have up : ∀ (x : Sl) (v : Option V), RO K H S x v → RO K H' (S.and a) x v := fun x v r => (RO.av (S' := S.and a) (fun b h => h.imp_right fun z => by rw [z]; exact hn) (fun b _ h => .inl h) r).ext e
  refine ⟨⟨by simpa using f.ve.len, fun j x h => ?_, fun j k x y b hjk h1 h2 o1 o2 h3 h4 => ?_, fun b h => ?_⟩, f.ext.trans e, fun b h => .inl (f.sub b h), fun b h => ?_, f.dm, fun j x b h o h2 => ?_⟩
  · by_cases hj : i = j
    · subst hj
      have hi := (List.getElem?_eq_some_iff.mp h).1
      rw [List.getElem?_set_self (by simpa using hi)] at h
      cases h
      exact ⟨some (.ref a), List.getElem?_set_self (f.ve.len ▸ (by simpa using hi)), a, vs, rfl, .inr rfl, ha, r⟩
    · rw [List.getElem?_set_ne hj] at h ⊢
      obtain ⟨v, h1, h2⟩ := f.ve.rel j x h
      exact ⟨v, h1, up x v h2⟩
  · -- distinct
    have own_ne : ∀ (m : Nat) (x : Sl) (c : Addr), ρ[m]? = some x → x.owns → σ[m]? = some (some (.ref c)) → S c := fun m x c hm ho hs => by
      obtain ⟨v, q1, q2⟩ := f.ve.rel m x hm
      rw [hs] at q1; cases q1
      cases x with
      | own xs => obtain ⟨a', _, z, s, _⟩ := q2; cases z; exact s
      | new C x dx fs => obtain ⟨_, z, s, _⟩ := q2; cases z; exact s
      | nil => exact ho.elim
      | any => exact ho.elim
      | val d => exact ho.elim
    by_cases hj : i = j
    · subst hj
      have hi := (List.getElem?_eq_some_iff.mp h1).1
      rw [List.getElem?_set_self (by rw [← f.ve.len]; simpa using hi)] at h3
      cases h3
      rw [List.getElem?_set_ne hjk] at h2 h4
      exact nS _ (own_ne k y _ h2 o2 h4) rfl
    · by_cases hk : i = k
      · subst hk
        have hi := (List.getElem?_eq_some_iff.mp h2).1
        rw [List.getElem?_set_self (by rw [← f.ve.len]; simpa using hi)] at h4
        cases h4
        rw [List.getElem?_set_ne hj] at h1 h3
        exact nS _ (own_ne j x _ h1 o1 h3) rfl
      · rw [List.getElem?_set_ne hj] at h1 h3
        rw [List.getElem?_set_ne hk] at h2 h4
        exact f.ve.dist j k x y b hjk h1 h2 o1 o2 h3 h4
  · rcases h with h | h
    · exact (f.ve.dom.ext e) b h
    · rw [h, ha]; intro z; cases z
  · rcases h with h | h
    · exact f.new b h
    · rw [h]; exact .inr (f.ext.back hn)
  · by_cases hj : i = j
    · subst hj
      have hi := (List.getElem?_eq_some_iff.mp h).1
      rw [List.getElem?_set_self (by rw [← f.ve.len]; simpa using hi)] at h2
      cases h2
      exact f.ext.back hn
    · rw [List.getElem?_set_ne hj] at h h2
      exact f.own j x b h o h2
/-- a list of one's own is changed -/
theorem Fm.putOwn {i : Nat} {xs ys : List D} {a : Addr} {us : List V} (f : Fm K H₀ S₀ H S ρ σ) (hr : ρ[i]? = some (.own xs)) (hs : σ[i]? = some (some (.ref a))) (r : RdsL K H S ys us) : Fm K H₀ S₀ (upd H a (.lst us)) S (ρ.set i (.own ys)) σ := by
  have hi := (List.getElem?_eq_some_iff.mp hr).1
  obtain ⟨v, q1, a', vs, z, sa, ha, _⟩ := f.ve.rel i _ hr
  rw [hs] at q1; cases q1; cases z
  have e : Ext S H (upd H a (.lst us)) := Ext.set sa
  refine ⟨⟨by simpa using f.ve.len, fun j x h => ?_, fun j k x y b hjk h1 h2 o1 o2 h3 => ?_, fun b h z => ?_⟩, fun b o n h => ?_, f.sub, f.new, f.dm, fun j x b h o h2 => ?_⟩
  · by_cases hj : i = j
    · subst hj
      rw [List.getElem?_set_self hi] at h
      cases h
      exact ⟨_, hs, a, us, rfl, sa, upd_same, r.ext e⟩
    · rw [List.getElem?_set_ne hj] at h
      obtain ⟨v, h1, h2⟩ := f.ve.rel j x h
      refine ⟨v, h1, ?_⟩
      cases x with
      | nil => exact h2
      | any => trivial
      | val d => obtain ⟨u, p, r⟩ := h2; exact ⟨u, p, r.ext e⟩
      | own zs =>
        obtain ⟨b, ws, p, s, o, r⟩ := h2
        subst p
        have nb : b ≠ a := fun z => f.ve.dist i j _ _ a hj hr h trivial trivial hs (by rw [h1, z])
        exact ⟨b, ws, rfl, s, by rw [upd_ne nb]; exact o, r.ext e⟩
      | new C b dx fs =>
        obtain ⟨gs, p, s, o, r⟩ := h2
        subst p
        have nb : b ≠ a := fun z => f.ve.dist i j _ _ a hj hr h trivial trivial hs (by rw [h1, z])
        exact ⟨gs, rfl, s, by rw [upd_ne nb]; exact o, r.ext e⟩
  · by_cases hj : i = j
    · subst hj
      rw [List.getElem?_set_ne hjk] at h2
      exact f.ve.dist i k _ y b hjk hr h2 trivial o2 h3
    · rw [List.getElem?_set_ne hj] at h1
      by_cases hk : i = k
      · subst hk
        exact f.ve.dist j i x _ b hjk h1 hr o1 trivial h3
      · rw [List.getElem?_set_ne hk] at h2
        exact f.ve.dist j k x y b hjk h1 h2 o1 o2 h3
  · by_cases hb : b = a
    · rw [hb, upd_same] at z; cases z
    · rw [upd_ne hb] at z; exact f.ve.dom b h z
  · have nb : b ≠ a := fun z => by
      have := f.own i _ a hr trivial hs
      rw [← z, h] at this; cases this
    rw [upd_ne nb]; exact f.ext b o n h
  · by_cases hj : i = j
    · subst hj
      exact f.own i _ b hr trivial h2
    · rw [List.getElem?_set_ne hj] at h
      exact f.own j x b h o h2
/-- fields -/
def putD (f : Str) (d : D) : List (Str × D) → List (Str × D)
  | [] => [(f, d)]
  | (g, x) :: r => if g = f then (g, d) :: r else (g, x) :: putD f d r
theorem RdsF.put {f : Str} {d : D} {v : V} (q : Rds K H S d v) : ∀ {ds : List (Str × D)} {vs : List (Str × V)}, RdsF K H S ds vs → RdsF K H S (putD f d ds) (putF f v vs)
  | [], _, .nil => .cons q .nil
  | (n, x) :: r, _, .cons q' t => by
    unfold putD putF
    split
    · exact .cons q t
    · exact .cons q' (RdsF.put q t)
theorem RdsF.len : ∀ {ds : List (Str × D)} {vs : List (Str × V)}, RdsF K H S ds vs → ds.length = vs.length
  | [], _, .nil => rfl
  | _ :: _, _, .cons _ t => by rw [List.length_cons, List.length_cons, RdsF.len t]
/-- the instance that is made gets a field -/
theorem Fm.putNew {i : Nat} {C a dx : Addr} {fs hs : List (Str × D)} {us : List (Str × V)} (f : Fm K H₀ S₀ H S ρ σ) (hr : ρ[i]? = some (.new C a dx fs)) (r : RdsF K H S hs us) : Fm K H₀ S₀ (upd H a (.ins C dx us)) S (ρ.set i (.new C a dx hs)) σ := by
  have hi := (List.getElem?_eq_some_iff.mp hr).1
  obtain ⟨v, hs', gs, z, sa, ha, _⟩ := f.ve.rel i _ hr
  subst z
  have e : Ext S H (upd H a (.ins C dx us)) := Ext.set sa
  refine ⟨⟨by simpa using f.ve.len, fun j x h => ?_, fun j k x y b hjk h1 h2 o1 o2 h3 => ?_, fun b h z => ?_⟩, fun b o n h => ?_, f.sub, f.new, f.dm, fun j x b h o h2 => ?_⟩
  · by_cases hj : i = j
    · subst hj
      rw [List.getElem?_set_self hi] at h
      cases h
      exact ⟨_, hs', us, rfl, sa, upd_same, r.ext e⟩
    · rw [List.getElem?_set_ne hj] at h
      obtain ⟨v, h1, h2⟩ := f.ve.rel j x h
      refine ⟨v, h1, ?_⟩
      cases x with
      | nil => exact h2
      | any => trivial
      | val d => obtain ⟨u, p, r⟩ := h2; exact ⟨u, p, r.ext e⟩
      | own zs =>
        obtain ⟨b, ws, p, s, o, r⟩ := h2
        subst p
        have nb : b ≠ a := fun z => f.ve.dist i j _ _ a hj hr h trivial trivial hs' (by rw [h1, z])
        exact ⟨b, ws, rfl, s, by rw [upd_ne nb]; exact o, r.ext e⟩
      | new C b dx fs =>
        obtain ⟨gs, p, s, o, r⟩ := h2
        subst p
        have nb : b ≠ a := fun z => f.ve.dist i j _ _ a hj hr h trivial trivial hs' (by rw [h1, z])
        exact ⟨gs, rfl, s, by rw [upd_ne nb]; exact o, r.ext e⟩
  · by_cases hj : i = j
    · subst hj
      rw [List.getElem?_set_ne hjk] at h2
      exact f.ve.dist i k _ y b hjk hr h2 trivial o2 h3
    · rw [List.getElem?_set_ne hj] at h1
      by_cases hk : i = k
      · subst hk
        exact f.ve.dist j i x _ b hjk h1 hr o1 trivial h3
      · rw [List.getElem?_set_ne hk] at h2
        exact f.ve.dist j k x y b hjk h1 h2 o1 o2 h3
  · by_cases hb : b = a
    · rw [hb, upd_same] at z; cases z
    · rw [upd_ne hb] at z; exact f.ve.dom b h z
  · have nb : b ≠ a := fun z => by
      have := f.own i _ a hr trivial hs'
      rw [← z, h] at this; cases this
    rw [upd_ne nb]; exact f.ext b o n h
  · by_cases hj : i = j
    · subst hj
      exact f.own i _ b hr trivial h2
    · rw [List.getElem?_set_ne hj] at h
      exact f.own j x b h o h2
end

section
variable {X : Cx} {ρ ρ' : Rho} {e : Expr} {d : D} {st : Stmt} {sts : List Stmt} {o : Out} {pos : Pos} {xs : List D}
theorem DF.de (h : DF X ρ e xs) : DE X ρ e (.lst xs) := PE.weak h fun σ H Q ⟨S, ve, k⟩ => ⟨S, ve, fun a vs H' ex hn ha r => k _ H' ex (.lst (.inl ha) (ve.dom.not hn) (r.av fun b h => .inl (.inl h)))⟩
theorem DC.df (h : DC X ρ e xs) : DF X ρ e xs := PE.weak h.pe fun σ H Q ⟨S, ve, k⟩ => ⟨S, ve, fun a vs H' ex hp r => k a vs _ (ex.trans (Ext.new hp)) (ex.back hp) upd_same ((r.av (S' := S.and a) fun b h => h.imp_right fun z => by rw [z]; exact hp).ext ((Ext.new hp).to _))⟩
theorem df_lst {es : List Expr} (h : DA X ρ es xs) (hl : xs.length ≤ sizeLine) : DF X ρ (.List es pos) xs :=
  PE.weak (pe_lst h) fun σ H Q ⟨S, ve, k⟩ => ⟨S, ve, fun vs H' ex rs => ⟨by rw [← rs.length]; exact hl, fun p hp => k p vs _ (ex.trans (Ext.new hp)) (ex.back hp) upd_same ((rs.av (S' := S.and p) fun b h => h.imp_right fun z => by rw [z]; exact hp).ext ((Ext.new hp).to _))⟩⟩

/-! ### blocks -/
theorem dss_nil : DSs X ρ [] (.nx ρ) := PSs.weak pss_nil fun E σ H ⟨H₀, S₀, S, f, k⟩ => k σ H S f
theorem dss_cons (h1 : DS X ρ st (.nx ρ')) (h2 : DSs X ρ' sts o) : DSs X ρ (st :: sts) o := PSs.weak (pss_cons h1 h2) fun E σ H ⟨H₀, S₀, S, f, k⟩ => ⟨H₀, S₀, S, f, fun σ' H' S' f' => ⟨H₀, S₀, S', f', k⟩⟩
/-- nothing behind a return is reached -/
def Out.ends : Out → Prop
  | .nx _ => False
  | _ => True
theorem dss_end (h1 : DS X ρ st o) (ho : o.ends) : DSs X ρ (st :: sts) o := PSs.weak (pss_cons h1 (pss_never (sts := sts))) fun E σ H ⟨H₀, S₀, S, f, k⟩ => ⟨H₀, S₀, S, f, by
  cases o with
  | nx _ => exact ho.elim
  | rt d => exact k
  | rf xs => exact k⟩
theorem ds_pass : DS X ρ (.Pass pos) (.nx ρ) := PS.weak ps_pass fun E σ H ⟨H₀, S₀, S, f, k⟩ => k σ H S f
theorem ds_ret (h : DE X ρ e d) : DS X ρ (.Return (some e) pos) (.rt d) := PS.weak (ps_ret h) fun E σ H ⟨H₀, S₀, S, f, k⟩ => ⟨S, f.ve, fun v H' ex r => k v H' (f.ext.trans ex) ((f.grow ex).out r)⟩
theorem ds_retN : DS X ρ (.Return none pos) (.rt .non) := PS.weak ps_retN fun E σ H ⟨H₀, S₀, S, f, k⟩ => k .non H f.ext .non
theorem ds_retF (h : DF X ρ e xs) : DS X ρ (.Return (some e) pos) (.rf xs) := PS.weak (ps_ret h) fun E σ H ⟨H₀, S₀, S, f, k⟩ => ⟨S, f.ve, fun a vs H' ex hn ha r => k a vs H' (f.ext.trans ex) (f.ext.back hn) ha (r.av fun b h => .inl (h.imp_left (f.sub b)))⟩
/-- return a list of one's own -/
theorem ds_retO {i : Nat} {x : Str} {p : Pos} (hN : X.N[i]? = some x) (hv : Vis X.env.scope x) (hr : ρ[i]? = some (.own xs)) (hd : (x == ("__debug__" : Str)) = false := by decide) (hcd : (x == ("__classdict__" : Str)) = false := by decide) :
    DS X ρ (.Return (some (.Name x p)) pos) (.rf xs) := PS.weak (ps_ret (pe_var hN hv hd hcd)) fun E σ H ⟨H₀, S₀, S, f, k⟩ => by
  obtain ⟨v, h1, a, vs, rfl, sa, ha, r⟩ := f.ve.rel i _ hr
  exact ⟨_, h1, k a vs H f.ext (f.own i _ a hr trivial h1) ha (r.av fun b h => .inl (h.elim (f.sub b) fun z => by rw [z]; exact sa))⟩
theorem ds_expr (h : DE X ρ e d) (hs : swapsWith e none pos.line X.env = pure false := by rfl) : DS X ρ (.Expr e pos) (.nx ρ) := PS.weak (ps_expr h hs) fun E σ H ⟨H₀, S₀, S, f, k⟩ => ⟨S, f.ve, fun v H' ex r => k σ H' S (f.grow ex)⟩
/-! ### assignments -/
variable {i : Nat} {x : Str} {pos' : Pos}
theorem ds_set (hN : X.N.Nodup) (hi : X.N[i]? = some x) (hx : Loc X.env.scope x) (he : DE X ρ e d) (hs : swapsWith e (some (.Name x pos')) pos.line X.env = pure false := by rfl) (hf : X.fn x = true ∨ X.env.scope.names.lookup x = some .local := by first | exact .inl rfl | exact .inr rfl | assumption) :
    DS X ρ (.Assign [.Name x pos'] e pos) (.nx (ρ.set i (.val d))) := PS.weak (ps_set hN hi hx he hs hf) fun E σ H ⟨H₀, S₀, S, f, k⟩ => ⟨S, f.ve, fun v H' ex r => k _ H' S ((f.grow ex).set r)⟩
theorem ds_setF (hN : X.N.Nodup) (hi : X.N[i]? = some x) (hx : Loc X.env.scope x) (he : DF X ρ e xs) (hs : swapsWith e (some (.Name x pos')) pos.line X.env = pure false := by rfl) (hf : X.fn x = true ∨ X.env.scope.names.lookup x = some .local := by first | exact .inl rfl | exact .inr rfl | assumption) :
    DS X ρ (.Assign [.Name x pos'] e pos) (.nx (ρ.set i (.own xs))) := PS.weak (ps_set hN hi hx he hs hf) fun E σ H ⟨H₀, S₀, S, f, k⟩ => ⟨S, f.ve, fun a vs H' ex hn ha r => k _ H' _ (f.setOwn ex hn ha r)⟩
theorem ds_setC (hN : X.N.Nodup) (hi : X.N[i]? = some x) (hx : Loc X.env.scope x) (he : DC X ρ e xs) (hsw : swapsWith e (some (.Name x pos')) pos.line X.env = pure true) (hf : X.fn x = true ∨ X.env.scope.names.lookup x = some .local := by first | exact .inl rfl | exact .inr rfl | assumption) :
    DS X ρ (.Assign [.Name x pos'] e pos) (.nx (ρ.set i (.val (.lst xs)))) := PS.weak (he.ps i x pos' pos hN hi hx hf hsw) fun E σ H ⟨H₀, S₀, S, f, k⟩ => ⟨S, f.ve, fun a vs H' ex hp r => k _ _ S ((f.grow (ex.trans (Ext.new hp))).set (Rds.newLst (f.ve.ext ex).dom hp r))⟩
theorem ds_setCF (hN : X.N.Nodup) (hi : X.N[i]? = some x) (hx : Loc X.env.scope x) (he : DC X ρ e xs) (hsw : swapsWith e (some (.Name x pos')) pos.line X.env = pure true) (hf : X.fn x = true ∨ X.env.scope.names.lookup x = some .local := by first | exact .inl rfl | exact .inr rfl | assumption) :
    DS X ρ (.Assign [.Name x pos'] e pos) (.nx (ρ.set i (.own xs))) := PS.weak (he.ps i x pos' pos hN hi hx hf hsw) fun E σ H ⟨H₀, S₀, S, f, k⟩ => ⟨S, f.ve, fun a vs H' ex hp r =>
      k _ _ _ (f.setOwn (ex.trans (Ext.new hp)) (ex.back hp) upd_same ((r.av (S' := S.and a) fun b h => h.imp_right fun z => by rw [z]; exact hp).ext ((Ext.new hp).to _)))⟩
theorem ds_addI {a b : Int} (hN : X.N.Nodup) (hi : X.N[i]? = some x) (hx : Loc X.env.scope x) (hr : ρ[i]? = some (.val (.int a))) (he : DE X ρ e (.int b)) (hf : X.fn x = true ∨ X.env.scope.names.lookup x = some .local := by first | exact .inl rfl | exact .inr rfl | assumption) :
    DS X ρ (.AugAssign (.Name x pos') .Add e pos) (.nx (ρ.set i (.val (.int (a + b))))) := PS.weak (ps_aug hN hi hx he ip_add hf) fun E σ H ⟨H₀, S₀, S, f, k⟩ => by
  obtain ⟨u, h1, r⟩ := f.ve.get hr
  exact ⟨u, h1, S, f.ve, fun v H' ex rv => ⟨a, b, r.intV, rv.intV, k _ H' S ((f.grow ex).set (.int _))⟩⟩
/-- x.append(e), x a list of one's own -/
theorem ds_append {a : Expr} {p ap cp : Pos} (hN : X.N[i]? = some x) (hv : Vis X.env.scope x) (hr : ρ[i]? = some (.own xs)) (he : DE X ρ a d) (hz : xs.length < sizeLine) (hd : (x == ("__debug__" : Str)) = false := by decide) (hcd : (x == ("__classdict__" : Str)) = false := by decide)
    (hs : swapsWith (.Call (.Attribute (.Name x p) "append" ap) [a] [] cp) none pos.line X.env = pure false := by rfl)
    (hbase : attributeBase (.Name x p) "append" X.env (eval (.Name x p) X.env) = eval (.Name x p) X.env := by rfl)
    (hfew : ((backTo cp (starEach [a] X.env)).all (fun x => !x.1) && (backToKw cp (keywordEach [] X.env)).all (fun x => x.1.isSome) && decide (([a] : List Expr).length + ([] : List Keyword).length + (if ([] : List Keyword).isEmpty then 0 else 1) < 30)) = true := by rfl)
    (hline : (ap.endLine == cp.line) = true := by rfl) (hst : starEach [a] X.env = (false, eval a X.env) :: starEach [] X.env := by rfl) (hplain : (backTo cp (starEach [] X.env)).any (·.1) = false := by rfl) :
    DS X ρ (.Expr (.Call (.Attribute (.Name x p) "append" ap) [a] [] cp) pos) (.nx (ρ.set i (.own (xs ++ [d])))) :=
  PS.weak (ps_expr (pe_bm PySem.F.plainAttrs_list PySem.F.slot_list_append PySem.F.type_list_append mt_append (pe_var hN hv hd hcd) (pa_cons he pa_nil hst) hbase hfew hline hst hplain) hs) fun E σ H ⟨H₀, S₀, S, f, k⟩ => by
    obtain ⟨v, h1, l, vs, rfl, sa, ha, r⟩ := f.ve.rel i _ hr
    refine ⟨_, h1, .inl ⟨rfl, vs, .inl (.inl ha)⟩, S, f.ve, fun y H' ex ry => ⟨l, vs, y, rfl, rfl, ex _ _ (fun z => z) ha, by rw [← r.length]; exact hz, ?_⟩⟩
    exact k _ _ S ((f.grow ex).putOwn hr h1 (RdsL.app (r.ext (ex.to S)) (.cons ry .nil)))
/-- x.clear() -/
theorem ds_clear {p ap cp : Pos} (hN : X.N[i]? = some x) (hv : Vis X.env.scope x) (hr : ρ[i]? = some (.own xs)) (hd : (x == ("__debug__" : Str)) = false := by decide) (hcd : (x == ("__classdict__" : Str)) = false := by decide)
    (hs : swapsWith (.Call (.Attribute (.Name x p) "clear" ap) [] [] cp) none pos.line X.env = pure false := by rfl)
    (hbase : attributeBase (.Name x p) "clear" X.env (eval (.Name x p) X.env) = eval (.Name x p) X.env := by rfl) (hline : (ap.endLine == cp.line) = true := by rfl) :
    DS X ρ (.Expr (.Call (.Attribute (.Name x p) "clear" ap) [] [] cp) pos) (.nx (ρ.set i (.own []))) :=
  PS.weak (ps_expr (pe_bm0 PySem.F.plainAttrs_list PySem.F.slot_list_clear PySem.F.type_list_clear mt_clear (pe_var hN hv hd hcd) hbase hline) hs) fun E σ H ⟨H₀, S₀, S, f, k⟩ => by
    obtain ⟨v, h1, l, vs, rfl, sa, ha, r⟩ := f.ve.rel i _ hr
    exact ⟨_, h1, .inl ⟨rfl, vs, .inl (.inl ha)⟩, l, vs, rfl, rfl, ha, k _ _ S (f.putOwn hr h1 .nil)⟩

/-- self.f = e, where the instance is made -/
theorem ds_fld {C a dx : Addr} {fs : List (Str × D)} {fl : Str} {p : Pos} (hN : X.N[i]? = some x) (hv : Vis X.env.scope x) (hr : ρ[i]? = some (.new C a dx fs)) (c : Cls X.K C) (na : NoAttr X.K C fl) (hl : fs.length < 1000) (he : DE X ρ e d)
    (hs : swapsWith e (some (.Attribute (.Name x p) fl pos')) pos.line X.env = pure false := by rfl) (hd : (x == ("__debug__" : Str)) = false := by decide) (hcd : (x == ("__classdict__" : Str)) = false := by decide) :
    DS X ρ (.Assign [.Attribute (.Name x p) fl pos'] e pos) (.nx (ρ.set i (.new C a dx (putD fl d fs)))) :=
  PS.weak (ps_fld (pe_var hN hv hd hcd) he hs) fun E σ H ⟨H₀, S₀, S, f, k⟩ => ⟨S, f.ve, fun v H' ex r => by
    have f' := f.grow ex
    obtain ⟨w, h1, gs, rfl, sa, ha, rf⟩ := f'.ve.rel i _ hr
    exact ⟨_, h1, a, C, dx, gs, rfl, ha, c, na, by rw [← rf.len]; exact hl, k _ _ S (f'.putNew hr (rf.put r))⟩⟩

/-! ### if -/
theorem pss_any {sts : List Stmt} : PSs X sts (fun E σ H => ∃ ρ o, DSs X ρ sts o ∧ tDS X.K ρ o E σ H) := fun pins s σ H D I ⟨_, _, h, q⟩ => h pins s σ H D I q
theorem ds_if {c : Expr} {a b : List Stmt} {q : Bool} (hc : DT X ρ c q) (ha : q = true → DSs X ρ a o) (hb : q = false → DSs X ρ b o) : DS X ρ (.If c a b pos) o :=
  PS.weak (ps_if hc (pss_any (sts := a)) (pss_any (sts := b))) fun E σ H ⟨H₀, S₀, S, f, k⟩ => ⟨S, f.ve, fun H' ex => by
    cases q with
    | true => exact iteT ⟨ρ, o, ha rfl, H₀, S₀, S, f.grow ex, k⟩
    | false => exact iteF ⟨ρ, o, hb rfl, H₀, S₀, S, f.grow ex, k⟩⟩
end
end CT

set_option Elab.async false
set_option linter.all false
set_option maxRecDepth 100000
/-! THE DATA LAYER: loops, what is given up, defs and calls -/
namespace CT
open PySem PySem.Spec L2
open PyProof.Rows hiding St

section
variable {X : Cx} {ρ ρ' : Rho} {e : Expr} {d : D} {o : Out} {pos : Pos} {xs : List D} {i : Nat}
/-! ### a list of one's own is given up: it is data from now on -/
theorem Fm.give {K : PySem.W.Frag} {H₀ H : Hp} {S₀ S : Ad} {σ : St} (f : Fm K H₀ S₀ H S ρ σ) (hr : ρ[i]? = some (.own xs)) : ∃ S', (∀ a, S' a → S a) ∧ Fm K H₀ S₀ H S' (ρ.set i (.val (.lst xs))) σ := by
  have hi := (List.getElem?_eq_some_iff.mp hr).1
  obtain ⟨v, q1, a, vs, rfl, sa, ha, r⟩ := f.ve.rel i _ hr
  have own_ne : ∀ (m : Nat) (x : Sl) (c : Addr), i ≠ m → ρ[m]? = some x → x.owns → σ[m]? = some (some (.ref c)) → c ≠ a := fun m x c hm h ho hs z => f.ve.dist i m _ x a hm hr h trivial ho q1 (by rw [hs, z])
  refine ⟨fun b => S b ∧ b ≠ a, fun b h => h.1, ⟨⟨by simpa using f.ve.len, fun j x h => ?_, fun j k x y b hjk h1 h2 o1 o2 h3 => ?_, fun b h => f.ve.dom b h.1⟩, f.ext, fun b h => ⟨f.sub b h, fun z => ?_⟩, fun b h => f.new b h.1, f.dm, fun j x b h o h2 => ?_⟩⟩
  · by_cases hj : i = j
    · subst hj
      rw [List.getElem?_set_self hi] at h
      cases h
      exact ⟨_, q1, _, rfl, .lst (.inl ha) (fun z => z.2 rfl) (r.av fun b h => .inl h.1)⟩
    · rw [List.getElem?_set_ne hj] at h
      obtain ⟨v, h1, h2⟩ := f.ve.rel j x h
      refine ⟨v, h1, ?_⟩
      cases x with
      | nil => exact h2
      | any => trivial
      | val d => obtain ⟨u, p, r⟩ := h2; exact ⟨u, p, r.av fun b h => .inl h.1⟩
      | own zs => exact RO.av (x := .own zs) (fun b h => .inl h.1) (fun b z s => ⟨s, own_ne j _ b hj h trivial (by rw [h1, z])⟩) h2
      | new C y dx fs => exact RO.av (x := .new C y dx fs) (fun b h => .inl h.1) (fun b z s => ⟨s, own_ne j _ b hj h trivial (by rw [h1, z])⟩) h2
  · have n1 : i ≠ j := fun z => by
      subst z
      rw [List.getElem?_set_self hi] at h1; cases h1; exact o1
    have n2 : i ≠ k := fun z => by
      subst z
      rw [List.getElem?_set_self hi] at h2; cases h2; exact o2
    rw [List.getElem?_set_ne n1] at h1
    rw [List.getElem?_set_ne n2] at h2
    exact f.ve.dist j k x y b hjk h1 h2 o1 o2 h3
  · have := f.own i _ a hr trivial q1
    exact f.dm b h (by rw [z]; exact this)
  · have n1 : i ≠ j := fun z => by
      subst z
      rw [List.getElem?_set_self hi] at h; cases h; exact o
    rw [List.getElem?_set_ne n1] at h
    exact f.own j x b h o h2

/-- before a statement: a list of one's own is given up -/
theorem dss_give {sts : List Stmt} (hr : ρ[i]? = some (.own xs)) (h : DSs X (ρ.set i (.val (.lst xs))) sts o) : DSs X ρ sts o := PSs.weak h fun E σ H ⟨H₀, S₀, S, f, k⟩ => by
  obtain ⟨S', _, f'⟩ := f.give hr
  exact ⟨H₀, S₀, S', f', k⟩
/-- a list of one's own is read by code that comes to a scalar -/
theorem VE.give {K : PySem.W.Frag} {H : Hp} {S : Ad} {σ : St} (f : VE K H S ρ σ) (hr : ρ[i]? = some (.own xs)) : ∃ S', VE K H S' (ρ.set i (.val (.lst xs))) σ := by
  have F : Fm K (fun _ => none) no H S ρ σ := ⟨f, (fun a o _ h => by cases h), fun a h => h.elim, fun a h => .inr rfl, fun a h => h.elim, fun _ _ _ _ _ _ => rfl⟩
  obtain ⟨S', _, f'⟩ := F.give hr
  exact ⟨S', f'.ve⟩
theorem de_read {u : V} (hr : ρ[i]? = some (.own xs)) (hf : flat d = some u) (h : DE X (ρ.set i (.val (.lst xs))) e d) : DE X ρ e d := PE.weak h fun σ H Q ⟨S, ve, k⟩ => by
  obtain ⟨S', ve'⟩ := ve.give hr
  refine ⟨S', ve', fun v H' ex r => k v H' ex ?_⟩
  cases d <;> first | (cases hf; done) | (cases r; constructor)
theorem dt_read {q : Bool} (hr : ρ[i]? = some (.own xs)) (h : DT X (ρ.set i (.val (.lst xs))) e q) : DT X ρ e q := PT.weak h fun σ H Q ⟨S, ve, k⟩ => by
  obtain ⟨S', ve'⟩ := ve.give hr
  exact ⟨S', ve', k⟩
/-- a comprehension walks a list of one's own -/
theorem di_own {x : Str} {p : Pos} {tg : Expr} (hN : X.N[i]? = some x) (hv : Vis X.env.scope x) (hr : ρ[i]? = some (.own xs)) (hd : (x == ("__debug__" : Str)) = false := by decide) (hcd : (x == ("__classdict__" : Str)) = false := by decide) : DI0 X tg ρ (.Name x p) xs :=
  PI.weak (pi_list (pe_var hN hv hd hcd)) fun σ H R ⟨S, ve, k⟩ => by
    obtain ⟨v, h1, a, vs, rfl, sa, ha, r⟩ := ve.rel i _ hr
    refine ⟨_, h1, a, rfl, ⟨vs, .inl (.inl ha)⟩, k _ H Ext.refl fun H' e dm j => ?_⟩
    have sq : SqL X.K H' a vs := .inl (.inl (e _ _ (fun z => z) ha))
    have rl := r.ext (e.to S)
    refine ⟨fun d hd => ?_, fun hi => ⟨vs, sq, by rw [← rl.length]; exact hi⟩⟩
    obtain ⟨v, hv, r⟩ := rl.get hd
    refine ⟨⟨vs, v, sq, hv⟩, fun x H'' y => ?_⟩
    obtain ⟨e2, y⟩ := y
    subst e2
    have hx := y vs sq
    rw [hv] at hx; cases hx
    exact ⟨Ext.refl, r⟩

/-! ### for -/
/-- a target sets slots to data -/
def TgOk (ρ ρ1 : Rho) (ks : List Nat) : Prop := ∀ (i : Nat) (x : Sl), ρ1[i]? = some x → x.owns → i ∉ ks ∧ ρ[i]? = some x
theorem tg_nil : TgOk ρ ρ [] := fun i x h _ => ⟨by simp, h⟩
theorem tg_set {k : Nat} : TgOk ρ (ρ.set k (.val d)) [k] := fun i x h o => by
  by_cases hj : k = i
  · subst hj
    have hi := (List.getElem?_eq_some_iff.mp h).1
    rw [List.getElem?_set_self (by simpa using hi)] at h; cases h; exact o.elim
  · rw [List.getElem?_set_ne hj] at h
    exact ⟨by simp [Ne.symm hj], h⟩
theorem TgOk.trans {ρ1 ρ2 : Rho} {ks ls : List Nat} (a : TgOk ρ ρ1 ks) (b : TgOk ρ1 ρ2 ls) : TgOk ρ ρ2 (ks ++ ls) := fun i x h o => by
  obtain ⟨n1, h1⟩ := b i x h o
  obtain ⟨n2, h2⟩ := a i x h1 o
  exact ⟨by simp [n1, n2], h2⟩
/-- the turns over the items, from the slots ρ -/
inductive ForO (X : Cx) (tg : Expr) (body : List Stmt) : List D → Rho → Out → Prop
  | nil (ρ : Rho) : ForO X tg body [] ρ (.nx ρ)
  | cons {d : D} {ds : List D} {ρ ρ1 ρ2 : Rho} {ks : List Nat} {o : Out} : DG X tg ρ d ρ1 ks → TgOk ρ ρ1 ks → DSs X ρ1 body (.nx ρ2) → ForO X tg body ds ρ2 o → ForO X tg body (d :: ds) ρ o
  | ret {d : D} {ds : List D} {ρ ρ1 : Rho} {ks : List Nat} {o : Out} : DG X tg ρ d ρ1 ks → TgOk ρ ρ1 ks → DSs X ρ1 body o → o.ends → ForO X tg body (d :: ds) ρ o
theorem Fm.tgt {K : PySem.W.Frag} {H₀ H : Hp} {S₀ S : Ad} {ρ ρ1 : Rho} {σ σ' : St} {ks : List Nat} (f : Fm K H₀ S₀ H S ρ σ) (ve : VE K H S ρ1 σ') (c : Chg ks σ σ') (h : TgOk ρ ρ1 ks) : Fm K H₀ S₀ H S ρ1 σ' :=
  ⟨ve, f.ext, f.sub, f.new, f.dm, fun i x a h1 o h2 => by
    obtain ⟨n, h3⟩ := h i x h1 o
    exact f.own i x a h3 o (by rw [← c.2 i n]; exact h2)⟩
theorem Fm.mono {K : PySem.W.Frag} {H₀ H1 H : Hp} {S₀ S : Ad} {σ : St} (f : Fm K H1 S₀ H S ρ σ) (e : Ext0 H₀ H1) (dm : Dom H₀ S₀) : Fm K H₀ S₀ H S ρ σ :=
  ⟨f.ve, e.trans f.ext, f.sub, fun a h => (f.new a h).imp_right e.back, dm, fun i x a h o h2 => e.back (f.own i x a h o h2)⟩
theorem OutK.mono {K : PySem.W.Frag} {H₀ H1 : Hp} {S₀ : Ad} {E : Ends} (e : Ext0 H₀ H1) (dm : Dom H₀ S₀) (k : OutK K H₀ S₀ E o) : OutK K H1 S₀ E o := by
  cases o with
  | nx ρ' => exact fun σ' H' S' f => k σ' H' S' (f.mono e dm)
  | rt d => exact fun v H' ex r => k v H' (e.trans ex) r
  | rf xs => exact fun a vs H' ex hn ha r => k a vs H' (e.trans ex) (e.back hn) ha r
/-- the heap without one's own lists, as a frame -/
def cut (H : Hp) (S S₀ : Ad) (H1 : Hp) : Prop := ∀ a o, H1 a = some o ↔ (H a = some o ∧ (S a → S₀ a))
open Classical in
noncomputable def cutH (H : Hp) (S S₀ : Ad) : Hp := fun a => if S a ∧ ¬ S₀ a then none else H a
theorem cutH_some {H : Hp} {S S₀ : Ad} {a : Addr} {u : HO} (h : H a = some u) (n : S a → S₀ a) : cutH H S S₀ a = some u := by
  unfold cutH; rw [if_neg fun z => z.2 (n z.1)]; exact h
theorem cutH_none {H : Hp} {S S₀ : Ad} {a : Addr} (h : S a) (n : ¬ S₀ a) : cutH H S S₀ a = none := by
  unfold cutH; rw [if_pos ⟨h, n⟩]
theorem cutH_of {H : Hp} {S S₀ : Ad} {a : Addr} {u : HO} (h : cutH H S S₀ a = some u) : H a = some u ∧ (S a → S₀ a) := by
  unfold cutH at h
  split at h
  · cases h
  · rename_i n
    exact ⟨h, fun s => Classical.byContradiction fun z => n ⟨s, z⟩⟩
theorem Fm.cut {K : PySem.W.Frag} {H₀ H : Hp} {S₀ S : Ad} {σ : St} (f : Fm K H₀ S₀ H S ρ σ) : Ext0 H₀ (cutH H S S₀) ∧ Fm K (cutH H S S₀) S₀ H S ρ σ := by
  refine ⟨fun a u n h => cutH_some (f.ext a u n h) fun s => (f.new a s).elim (fun z => z) fun z => (by rw [h] at z; cases z), ⟨f.ve, fun a u n h => (cutH_of h).1, f.sub, fun a s => ?_, fun a s z => ?_, fun i x a h o h2 => ?_⟩⟩
  · by_cases q : S₀ a
    · exact .inl q
    · exact .inr (cutH_none s q)
  · cases q : H a with
    | none => exact f.ve.dom a (f.sub a s) q
    | some u => rw [cutH_some q fun _ => s] at z; cases z
  · have hn := f.own i x a h o h2
    have ns : ¬ S₀ a := fun z => f.dm a z hn
    obtain ⟨v, q1, q2⟩ := f.ve.rel i x h
    rw [h2] at q1; cases q1
    cases x with
    | own xs => obtain ⟨b, _, z, s, _⟩ := q2; cases z; exact cutH_none s ns
    | new C y dx fs => obtain ⟨_, z, s, _⟩ := q2; cases z; exact cutH_none s ns
    | nil => exact o.elim
    | any => exact o.elim
    | val d => exact o.elim
theorem ds_for {tg iter : Expr} {body : List Stmt} {its : List D} (hp : PassesOwn (model X.prog X.w) X.A X.env X.xe) (hc : X.calm = true) (hi : DI X tg ρ iter its) (hb : ForO X tg body its ρ o)
    (hs : ∀ x, foldedSetIterable iter X.env x = pure x := by intro _; rfl) : DS X ρ (.For tg iter body [] pos) o := by
  refine PS.weak (ps_for hp hc hi (pg_A (G := DG X tg) fun _ _ _ _ h => h) (pss_any (sts := body)) hs) ?_
  rintro E σ H ⟨H₀, S₀, S, f, k⟩
  refine ⟨S, f.ve, fun J H1 ex hJ => ?_⟩
  have f1 := f.grow ex
  obtain ⟨e0, fc⟩ := f1.cut
  have k1 := k.mono e0 f.dm
  refine ⟨fun i m σ' H' => ∃ S' ρ', Fm X.K (cutH H1 S S₀) S₀ H' S' ρ' σ' ∧ ForO X tg body (its.drop i) ρ' o ∧ i ≤ its.length ∧ m = its.length - i, ⟨its.length, S, ρ, fc, by simpa using hb, Nat.zero_le _, by simp⟩, ?_⟩
  rintro i m σ' H' ⟨S', ρ', f', hf, hi', rfl⟩
  have ext1 : Ext S H1 H' := fun a u n h => f'.ext a u (fun z => z) (cutH_some h fun s => (n s).elim)
  have new1 : ∀ a, S' a → S a ∨ H1 a = none := fun a s => by
    rcases f'.new a s with z | z
    · exact .inl (f.sub a z)
    · by_cases q : S a
      · exact .inl q
      · cases h : H1 a with
        | none => exact .inr rfl
        | some u => rw [cutH_some h fun s => (q s).elim] at z; cases z
  obtain ⟨J1, J2⟩ := hJ H' S' ext1 new1 f'.ve.dom i
  by_cases hlt : i < its.length
  · have hd : its[i]? = some its[i] := by simp [hlt]
    obtain ⟨go, yld⟩ := J1 _ hd
    rw [List.drop_eq_getElem_cons hlt] at hf
    have rep : ∀ {ρ1 : Rho} {ks : List Nat} {x : V} {H2 : Hp}, J.yld i H' x H2 → DG X tg ρ' its[i] ρ1 ks → TgOk ρ' ρ1 ks → ∀ (R : St → Hp → Prop), (∀ σ2, Fm X.K (cutH H1 S S₀) S₀ H2 S' ρ1 σ2 → R σ2 H2) → gA X.K (DG X tg) x σ' H2 R := fun {ρ1 ks x H2} y hg htg R hR => by
      obtain ⟨e1, r1⟩ := yld x H2 y
      exact ⟨ρ', its[i], ρ1, ks, hg, S', (f'.grow e1).ve, r1, fun σ2 ve2 c => hR σ2 ((f'.grow e1).tgt ve2 c htg)⟩
    cases hf with
    | cons hg htg hbd hrest =>
      rename_i ρ1 ρ2 ks
      refine .inr ⟨go, fun σ2 H2 => ∃ S2, Fm X.K (cutH H1 S S₀) S₀ H2 S2 ρ2 σ2, fun σ2 H2 ⟨S2, f2⟩ => ⟨its.length - (i + 1), by omega, S2, ρ2, f2, hrest, hlt, rfl⟩, fun x H2 y => ?_⟩
      exact rep y hg htg _ fun σ2 f2 => ⟨ρ1, _, hbd, _, _, S', f2, fun σ3 H3 S3 f3 => ⟨S3, f3⟩⟩
    | ret hg htg hbd hend =>
      rename_i ρ1 ks
      refine .inr ⟨go, fun _ _ => False, fun _ _ z => z.elim, fun x H2 y => ?_⟩
      refine rep y hg htg _ fun σ2 f2 => ⟨ρ1, o, hbd, _, _, S', f2, ?_⟩
      cases o with
      | nx _ => exact hend.elim
      | rt d => exact k1
      | rf xs => exact k1
  · have e : i = its.length := by omega
    subst e
    rw [List.drop_length] at hf
    cases hf
    exact .inl ⟨J2 (Nat.le_refl _), k1 σ' H' S' f'⟩
end
end CT

set_option Elab.async false
set_option linter.all false
set_option maxRecDepth 100000
/-! THE DATA LAYER: defs, calls, methods, fields, instances, while -/
namespace CT
open PySem PySem.Spec L2
open PyProof.Rows hiding St

/-- a promise by data: P takes the arguments' data to the value's -/
def spD (K : PySem.W.Frag) (P : List D → D → Prop) : Sp := fun vs H Q _ => ∃ S ds d, Dom H S ∧ RdsL K H S ds vs ∧ P ds d ∧ ∀ v H', Ext0 H H' → Rds K H' S d v → Q v H'
/-- .. a new list comes -/
def spF (K : PySem.W.Frag) (P : List D → List D → Prop) : Sp := fun vs H Q _ => ∃ S ds xs, Dom H S ∧ RdsL K H S ds vs ∧ P ds xs ∧ ∀ a us H', Ext0 H H' → H a = none → H' a = some (.lst us) → RdsL K H' (S.and a) xs us → Q (.ref a) H'
/-- __init__: the instance's fields -/
def spI (K : PySem.W.Frag) (C : Addr) (P : List D → List (Str × D) → Prop) : Sp := fun vs H Q _ => ∃ S x dx us ds fs, vs = .ref x :: us ∧ H x = some (.ins C dx []) ∧ Dom H S ∧ S x ∧ RdsL K H S ds us ∧ P ds fs ∧
  ∀ H' gs, (∀ a o, a ≠ x → H a = some o → H' a = some o) → H' x = some (.ins C dx gs) → RdsF K H' S fs gs → Q .non H'
def startR (N : List Str) (ds : List D) : Rho := ds.map .val ++ List.replicate (N.length - ds.length) .nil
theorem start_ve {K : PySem.W.Frag} {H : Hp} {S : Ad} {N : List Str} {ds : List D} {vs : List V} (dm : Dom H S) (r : RdsL K H S ds vs) : VE K H S (startR N ds) (start N vs) := by
  have hl := r.length
  have nown : ∀ (i : Nat) (x : Sl), (startR N ds)[i]? = some x → ¬ x.owns := fun i x h o => by
    have hm := List.mem_of_getElem? h
    unfold startR at hm
    rcases List.mem_append.mp hm with hm | hm
    · obtain ⟨y, _, e⟩ := List.mem_map.mp hm; rw [← e] at o; exact o
    · rw [(List.mem_replicate.mp hm).2] at o; exact o
  refine ⟨by simp [startR, L2.start, hl], fun i x h => ?_, fun i j x y a _ h _ o => absurd o (nown i x h), dm⟩
  unfold startR at h
  unfold L2.start
  by_cases hi : i < ds.length
  · rw [List.getElem?_append_left (by simpa using hi), List.getElem?_map] at h
    rw [List.getElem?_append_left (by simpa [← hl] using hi), List.getElem?_map]
    cases hq : ds[i]? with
    | none => rw [hq] at h; cases h
    | some d =>
      rw [hq] at h; cases h
      obtain ⟨v, hv, rv⟩ := r.get hq
      exact ⟨some v, by rw [hv]; rfl, v, rfl, rv⟩
  · have hi' : ds.length ≤ i := Nat.le_of_not_lt hi
    rw [List.getElem?_append_right (by simpa using hi'), List.length_map, List.getElem?_replicate] at h
    rw [List.getElem?_append_right (by simpa [← hl] using hi'), List.length_map, List.getElem?_replicate]
    rw [← hl]
    split at h
    · rename_i z
      rw [if_pos z]
      cases h
      exact ⟨none, rfl, rfl⟩
    · cases h
theorem start_fm {K : PySem.W.Frag} {H : Hp} {S : Ad} {N : List Str} {ds : List D} {vs : List V} (dm : Dom H S) (r : RdsL K H S ds vs) : Fm K H S H S (startR N ds) (start N vs) :=
  ⟨start_ve dm r, Ext.refl, fun a h => h, fun a h => .inl h, dm, fun i x a h o _ => by
    have hm := List.mem_of_getElem? h
    unfold startR at hm
    rcases List.mem_append.mp hm with hm | hm
    · obtain ⟨y, _, e⟩ := List.mem_map.mp hm; rw [← e] at o; exact o.elim
    · rw [(List.mem_replicate.mp hm).2] at o; exact o.elim⟩
/-- a body's end and the value -/
def OutV : Out → D → Prop
  | .rt d, d' => d = d'
  | .nx _, d' => d' = .non
  | .rf xs, d' => d' = .lst xs

section
variable {P : Program} {w : World} {K : PySem.W.Frag} {mg : Str → Option Value} {base : Heap} {x qual : Str} {st : Stmt} {f : Addr} {fd : FuncData} {N ps : List Str} {k : Nat}
theorem fn_D {Pr : List D → D → Prop} (F : Fun K x qual st f fd) (S : FnScope N ps (defScope st)) (len : ∀ ds d, Pr ds d → ds.length = ps.length)
    (hb : ∀ (cdv : Value) (A : Around) (outer : List Env) (s : Shared) (H : Hp) (E : XK) (ds : List D) (d : D), Room k (A.deeper (envOfC qual (defScope st) s.heap.objs.size f cdv)) → Pr ds d →
      ∃ o, OutV o d ∧ DSs (cxOf CX0 P w K mg base N qual (defScope st) f cdv A outer s H E).nox (startR N ds) (defBody st) o) : FnOk P w K mg base CX0 (k + 1) f fd ps (spD K Pr) := by
  refine F.ok S (fun vs H Q E ⟨S, ds, d, dm, r, p, kk⟩ => by rw [← r.length]; exact len ds d p) fun cdv A outer s H vs Q E hr ⟨S', ds, d, dm, r, p, kk⟩ => ?_
  obtain ⟨o, ov, h⟩ := hb cdv A outer s H E ds d hr p
  refine ⟨_, h, H, S', S', start_fm dm r, ?_⟩
  cases o with
  | rt d' => cases ov; exact kk
  | nx ρ' => cases ov; exact fun σ' H' S'' f => kk .non H' f.ext .non
  | rf xs => cases ov; exact fun a vs H' ex hn ha r' => kk _ H' ex (.lst (.inl ha) (dm.not hn) (r'.av fun b h => .inl (.inl h)))
theorem fn_F {Pr : List D → List D → Prop} (F : Fun K x qual st f fd) (S : FnScope N ps (defScope st)) (len : ∀ ds xs, Pr ds xs → ds.length = ps.length)
    (hb : ∀ (cdv : Value) (A : Around) (outer : List Env) (s : Shared) (H : Hp) (E : XK) (ds xs : List D), Room k (A.deeper (envOfC qual (defScope st) s.heap.objs.size f cdv)) → Pr ds xs →
      DSs (cxOf CX0 P w K mg base N qual (defScope st) f cdv A outer s H E).nox (startR N ds) (defBody st) (.rf xs)) : FnOk P w K mg base CX0 (k + 1) f fd ps (spF K Pr) := by
  refine F.ok S (fun vs H Q E ⟨S, ds, d, dm, r, p, kk⟩ => by rw [← r.length]; exact len ds d p) fun cdv A outer s H vs Q E hr ⟨S', ds, d, dm, r, p, kk⟩ => ?_
  exact ⟨_, hb cdv A outer s H E ds d hr p, H, S', S', start_fm dm r, kk⟩
theorem FnOk.pure {Pr : List D → List D → Prop} (F : FnOk P w K mg base CX0 k f fd ps (spF K Pr)) : FnOk P w K mg base CX0 k f fd ps (spD K fun ds d => ∃ xs, Pr ds xs ∧ d = .lst xs) :=
  F.imp fun vs H Q E ⟨S, ds, d, dm, r, ⟨xs, p, e⟩, kk⟩ => ⟨S, ds, xs, dm, r, p, fun a us H' ex hn ha r' => by subst e; exact kk _ H' ex (.lst (.inl ha) (dm.not hn) (r'.av fun b h => .inl (.inl h)))⟩
/-- __init__ -/
theorem fn_I {C : Addr} {Pr : List D → List (Str × D) → Prop} (F : Fun K x qual st f fd) (S : FnScope N ps (defScope st)) (len : ∀ ds fs, Pr ds fs → ds.length + 1 = ps.length)
    (hb : ∀ (cdv : Value) (A : Around) (outer : List Env) (s : Shared) (H : Hp) (E : XK) (ds : List D) (fs : List (Str × D)) (z dx : Addr), Room k (A.deeper (envOfC qual (defScope st) s.heap.objs.size f cdv)) → Pr ds fs →
      ∃ ρ', ρ'[0]? = some (.new C z dx fs) ∧ DSs (cxOf CX0 P w K mg base N qual (defScope st) f cdv A outer s H E).nox (.new C z dx [] :: (startR N (.non :: ds)).tail) (defBody st) (.nx ρ')) : FnOk P w K mg base CX0 (k + 1) f fd ps (spI K C Pr) := by
  refine F.ok S ?_ ?_
  · rintro vs H Q E ⟨S, z, dx, us, ds, fs, rfl, hz, dm, sz, r, p, kk⟩
    rw [List.length_cons, ← r.length]; exact len ds fs p
  · rintro cdv A outer s H vs Q E hr ⟨S', z, dx, us, ds, fs, rfl, hz, dm, sz, r, p, kk⟩
    obtain ⟨ρ', h0, h⟩ := hb cdv A outer s H E ds fs z dx hr p
    have ve := start_ve (N := N) dm (.cons (.non : Rds K H S' .non .non) r)
    have e1 : startR N (.non :: ds) = .val .non :: (startR N (.non :: ds)).tail := rfl
    have e2 : start N (.non :: us) = some .non :: (start N (.non :: us)).tail := rfl
    have e3 : start N (.ref z :: us) = some (.ref z) :: (start N (.non :: us)).tail := rfl
    have nown : ∀ (i : Nat) (x : Sl), (startR N (.non :: ds))[i]? = some x → ¬ x.owns := fun i x h o => by
      have hm := List.mem_of_getElem? h
      unfold startR at hm
      rcases List.mem_append.mp hm with hm | hm
      · obtain ⟨y, _, e⟩ := List.mem_map.mp hm; rw [← e] at o; exact o
      · rw [(List.mem_replicate.mp hm).2] at o; exact o
    have nt : ∀ (i : Nat) (x : Sl), (startR N (.non :: ds)).tail[i]? = some x → ¬ x.owns := fun i x h => nown (i + 1) x (by rw [e1]; exact h)
    refine ⟨_, h, fun a => if a = z then none else H a, fun a => S' a ∧ a ≠ z, S', ⟨⟨?_, fun i x h => ?_, fun i j x y a hij h1 h2 o1 o2 _ => ?_, dm⟩, fun a o _ h => ?_, fun a h => h.1, fun a h => ?_, fun a h => ?_, fun i x a h o h2 => ?_⟩, fun σ' H' S'' f => ?_⟩
    · have := ve.len
      rw [e3, List.length_cons, List.length_cons]
      rw [e1, e2, List.length_cons, List.length_cons] at this
      exact this
    · rw [e3]
      cases i with
      | zero => cases h; exact ⟨_, rfl, [], rfl, sz, hz, .nil⟩
      | succ i =>
        obtain ⟨v, q1, q2⟩ := ve.rel (i + 1) x (by rw [e1]; exact h)
        rw [e2] at q1
        exact ⟨v, q1, q2⟩
    · cases i with
      | zero => cases j with
        | zero => exact absurd rfl hij
        | succ j => exact absurd o2 (nt j y h2)
      | succ i => exact absurd o1 (nt i x h1)
    · by_cases ha : a = z
      · rw [if_pos ha] at h; cases h
      · rw [if_neg ha] at h; exact h
    · by_cases ha : a = z
      · exact .inr (if_pos ha)
      · exact .inl ⟨h, ha⟩
    · show (if a = z then none else H a) ≠ none
      rw [if_neg h.2]; exact dm a h.1
    · cases i with
      | zero =>
        rw [e3] at h2
        cases h2
        exact if_pos rfl
      | succ i => exact absurd o (nt i x h)
    · obtain ⟨v, _, gs, _, sz', hz', rf⟩ := f.ve.rel 0 _ h0
      refine kk H' gs (fun a o ha h => f.ext a o (fun z => z) (by rw [if_neg ha]; exact h)) hz' (rf.av fun a h => ?_)
      by_cases ha : a = z
      · subst ha; exact .inl sz'
      · exact .inl (f.sub a ⟨h, ha⟩)
end

section
variable {X : Cx} {ρ : Rho} {k : Nat} {f C : Addr} {fd : FuncData} {ps : List Str} {x m : Str} {p pos apos : Pos} {e o : Expr} {es : List Expr} {ds : List D} {d : D}
theorem app_nil {K : PySem.W.Frag} {H : Hp} {S : Ad} {ds : List D} {vs : List V} (r : RdsL K H S ds vs) : RdsL K H S ds (vs ++ []) := by rw [List.append_nil]; exact r
theorem de_call {Pr : List D → D → Prop} (F : FnOk X.prog X.w X.K X.mg X.base CX0 k f fd ps (spD X.K Pr)) (hr : Room k X.A) (hg : Gl X x) (hm : X.mg x = some (.ref f)) (hk : PySem.W.keepIn X.K (.ref f) = true) (hb : Binds X.K fd ps [])
    (ha : DA X ρ (e :: es) ds) (hp : Pr ds d) (hdb : (x == ("__debug__" : Str)) = false := by decide) (he : starEach (e :: es) X.env = (false, eval e X.env) :: starEach es X.env := by rfl) (hpl : (backTo pos (starEach es X.env)).any (·.1) = false := by rfl) :
    DE X ρ (.Call (.Name x p) (e :: es) [] pos) d := PE.weak (pe_call F hr hg hm hk hb .nil pass0 ha hdb he hpl) fun σ H Q ⟨S, ve, kk⟩ => ⟨S, ve, fun vs H' ex r => ⟨S, ds, d, (ve.ext ex).dom, app_nil r, hp, fun v H'' ex' r' => kk v H'' (ex.trans ex') r'⟩⟩
theorem df_call {Pr : List D → List D → Prop} {xs : List D} (F : FnOk X.prog X.w X.K X.mg X.base CX0 k f fd ps (spF X.K Pr)) (hr : Room k X.A) (hg : Gl X x) (hm : X.mg x = some (.ref f)) (hk : PySem.W.keepIn X.K (.ref f) = true) (hb : Binds X.K fd ps [])
    (ha : DA X ρ (e :: es) ds) (hp : Pr ds xs) (hdb : (x == ("__debug__" : Str)) = false := by decide) (he : starEach (e :: es) X.env = (false, eval e X.env) :: starEach es X.env := by rfl) (hpl : (backTo pos (starEach es X.env)).any (·.1) = false := by rfl) :
    DF X ρ (.Call (.Name x p) (e :: es) [] pos) xs := PE.weak (pe_call F hr hg hm hk hb .nil pass0 ha hdb he hpl) fun σ H Q ⟨S, ve, kk⟩ => ⟨S, ve, fun vs H' ex r => ⟨S, ds, xs, (ve.ext ex).dom, app_nil r, hp, fun a us H'' ex' hn ha r' => kk a us H'' (ex.trans ex') (ex.back hn) ha r'⟩⟩
/-- o.m(e, ..) -/
theorem de_meth {Pr : List D → D → Prop} {fs : List (Str × D)} {pl : Sem Bool} (ho : DE X ρ o (.ins C fs)) (hl : fs.lookup m = none) (c : Cls X.K C) (hm : Meth X.K C m f) (F : FnOk X.prog X.w X.K X.mg X.base CX0 k f fd ps (spD X.K Pr)) (hr : Room k X.A) (hb : Binds X.K fd ps [])
    (ha : DA X ρ (e :: es) ds) (hp : Pr (.ins C fs :: ds) d) (hst : starEach (e :: es) X.env = (false, eval e X.env) :: starEach es X.env := by rfl) (hpl : (backTo pos (starEach es X.env)).any (·.1) = false := by rfl)
    (ht : eval (.Call (.Attribute o m apos) (e :: es) [] pos) X.env = (do
      let ov ← eval o X.env
      standAt apos.atName
      let (f, first) ← holding [ov] (getMethod ov m pl)
      callWith pos f first (backTo pos (starEach (e :: es) X.env)) (backToKw pos (keywordEach [] X.env))) := by rfl) :
    DE X ρ (.Call (.Attribute o m apos) (e :: es) [] pos) d := PE.weak (pe_meth ho c hm F hr hb .nil pass0 ha hst hpl ht) fun σ H Q ⟨S, ve, kk⟩ => ⟨S, ve, fun v H1 ex1 r1 => by
      obtain ⟨a, dx, gs, rfl, hh, rf⟩ := r1.insV
      exact ⟨a, dx, gs, rfl, hh, rf.none hl, S, ve.ext ex1, fun vs H' ex r => ⟨S, _, d, ((ve.ext ex1).ext ex).dom, .cons (r1.ext (ex.to S)) (app_nil r), hp, fun v H'' ex' r' => kk v H'' (ex1.trans (ex.trans ex')) r'⟩⟩⟩
/-- o.m() -/
theorem de_meth0 {Pr : List D → D → Prop} {fs : List (Str × D)} {pl : Sem Bool} (ho : DE X ρ o (.ins C fs)) (hl : fs.lookup m = none) (c : Cls X.K C) (hm : Meth X.K C m f) (F : FnOk X.prog X.w X.K X.mg X.base CX0 k f fd ps (spD X.K Pr)) (hr : Room k X.A) (hb : Binds X.K fd ps [])
    (hp : Pr [.ins C fs] d)
    (ht : eval (.Call (.Attribute o m apos) [] [] pos) X.env = (do
      let ov ← eval o X.env
      standAt apos.atName
      let (f, first) ← holding [ov] (getMethod ov m pl)
      callWith pos f first (backTo pos (starEach [] X.env)) (backToKw pos (keywordEach [] X.env))) := by rfl) :
    DE X ρ (.Call (.Attribute o m apos) [] [] pos) d := PE.weak (pe_meth0 ho c hm F hr hb .nil pass0 ht) fun σ H Q ⟨S, ve, kk⟩ => ⟨S, ve, fun v H1 ex1 r1 => by
      obtain ⟨a, dx, gs, rfl, hh, rf⟩ := r1.insV
      exact ⟨a, dx, gs, rfl, hh, rf.none hl, S, _, d, (ve.ext ex1).dom, .cons r1 .nil, hp, fun v H'' ex' r' => kk v H'' (ex1.trans ex') r'⟩⟩
theorem df_meth0 {Pr : List D → List D → Prop} {xs : List D} {fs : List (Str × D)} {pl : Sem Bool} (ho : DE X ρ o (.ins C fs)) (hl : fs.lookup m = none) (c : Cls X.K C) (hm : Meth X.K C m f) (F : FnOk X.prog X.w X.K X.mg X.base CX0 k f fd ps (spF X.K Pr)) (hr : Room k X.A) (hb : Binds X.K fd ps [])
    (hp : Pr [.ins C fs] xs)
    (ht : eval (.Call (.Attribute o m apos) [] [] pos) X.env = (do
      let ov ← eval o X.env
      standAt apos.atName
      let (f, first) ← holding [ov] (getMethod ov m pl)
      callWith pos f first (backTo pos (starEach [] X.env)) (backToKw pos (keywordEach [] X.env))) := by rfl) :
    DF X ρ (.Call (.Attribute o m apos) [] [] pos) xs := PE.weak (pe_meth0 ho c hm F hr hb .nil pass0 ht) fun σ H Q ⟨S, ve, kk⟩ => ⟨S, ve, fun v H1 ex1 r1 => by
      obtain ⟨a, dx, gs, rfl, hh, rf⟩ := r1.insV
      exact ⟨a, dx, gs, rfl, hh, rf.none hl, S, _, xs, (ve.ext ex1).dom, .cons r1 .nil, hp, fun a us H'' ex' hn ha r' => kk a us H'' (ex1.trans ex') (ex1.back hn) ha r'⟩⟩
/-- o.f -/
theorem de_fld {fs : List (Str × D)} {fl : Str} (ho : DE X ρ o (.ins C fs)) (c : Cls X.K C) (n : NoAttr X.K C fl) (l : fs.lookup fl = some d) (hb : attributeBase o fl X.env (eval o X.env) = eval o X.env := by rfl) : DE X ρ (.Attribute o fl pos) d :=
  PE.weak (pe_fld ho hb) fun σ H Q ⟨S, ve, kk⟩ => ⟨S, ve, fun v H1 ex1 r1 => by
    obtain ⟨a, dx, gs, rfl, hh, rf⟩ := r1.insV
    obtain ⟨u, hu, ru⟩ := rf.look l
    exact ⟨a, C, dx, gs, u, rfl, hh, c, n, hu, kk u H1 ex1 ru⟩⟩
/-- C(e, ..) -/
theorem de_make {Pr : List D → List (Str × D) → Prop} {fs : List (Str × D)} (M : Mk X.K C f) (F : FnOk X.prog X.w X.K X.mg X.base CX0 k f fd ps (spI X.K C Pr)) (hr : Room (k + 1) X.A) (hg : Gl X x) (hm : X.mg x = some (.ref C)) (hb : Binds X.K fd ps [])
    (ha : DA X ρ (e :: es) ds) (hp : Pr ds fs) (hdb : (x == ("__debug__" : Str)) = false := by decide) (he : starEach (e :: es) X.env = (false, eval e X.env) :: starEach es X.env := by rfl) (hpl : (backTo pos (starEach es X.env)).any (·.1) = false := by rfl) :
    DE X ρ (.Call (.Name x p) (e :: es) [] pos) (.ins C fs) := PE.weak (pe_make M F hr hg hm hb .nil pass0 ha hdb he hpl) fun σ H Q ⟨S, ve, kk⟩ => ⟨S, ve, fun vs H1 ex r z dx hz hdx hne => by
      have e1 : Ext0 H1 (upd H1 dx (.own z)) := Ext.new hdx
      have hz1 : upd H1 dx (.own z) z = none := by rw [upd_ne (Ne.symm hne)]; exact hz
      have e2 : Ext0 H1 (upd (upd H1 dx (.own z)) z (.ins C dx [])) := e1.trans (Ext.new hz1)
      have dm := (ve.ext ex).dom
      refine ⟨S.and z, z, dx, vs ++ [], ds, fs, rfl, upd_same, fun a h => ?_, .inr rfl, app_nil ((r.av (S' := S.and z) fun b h => h.imp_right fun q => by rw [q]; exact hz).ext (e2.to _)), hp, fun H' gs hk hz' rf => ⟨rfl, ?_⟩⟩
      · rcases h with h | h
        · exact dm.ext e2 a h
        · rw [h, upd_same]; intro q; cases q
      · refine kk _ H' (ex.trans fun a o n h => hk a o (ne_of_none h hz) (e2 a o n h)) (.ins hz' (dm.not hz) (rf.av fun b h => .inl (.inl h)))⟩
end
end CT

set_option Elab.async false
set_option linter.all false
set_option maxRecDepth 100000
/-! THE DATA LAYER: built-in functions, operators on tuples and lists, equality of data -/
namespace CT
open PySem PySem.Spec L2
open PyProof.Rows hiding St

/-! ### rules of the hand layer -/
section
variable {X : Cx}
theorem bools_of : ∀ {ys : List Bool} {its : List Value}, Vals (ys.map .bl) its → its = ys.map .bool
  | [], _, .nil => rfl
  | y :: ys, _, .cons r t => by rw [bools_of t, show _ = Value.bool y from r]; rfl
theorem ints_of : ∀ {ns : List Int} {its : List Value}, Vals (ns.map .int) its → IntsAre its ns
  | [], _, .nil => .nil
  | n :: ns, _, .cons r t => by obtain ⟨k, rfl⟩ := (show ∃ k, _ = Value.int n k from r); exact .cons n k (ints_of t)
theorem all_range {ys : List Bool} : (List.range ys.length).all (fun i => ys.getD i true) = ys.all id := by
  induction ys with
  | nil => rfl
  | cons y ys ih =>
    rw [List.length_cons, List.range_succ_eq_map, List.all_cons, List.all_map, List.all_cons]
    rw [← ih]
    rfl
theorem any_range {ys : List Bool} : (List.range ys.length).any (fun i => ys.getD i true) = ys.any id := by
  induction ys with
  | nil => rfl
  | cons y ys ih =>
    rw [List.length_cons, List.range_succ_eq_map, List.any_cons, List.any_map, List.any_cons]
    rw [← ih]
    rfl
theorem truth_bools {prog : Program} {w : World} {A : Around} {ys : List Bool} : TruthOf prog w A (fun i v => (ys.map Value.bool).toArray[i]? = some v) (fun i => ys.getD i true) := fun i v s Q E hv q => by
  have hv' : (ys.map Value.bool)[i]? = some v := by simpa using hv
  obtain ⟨b, hb, rfl⟩ := getmap hv'
  have e : ys.getD i true = b := by simp [hb]
  exact wpAny_truthy_bool (by rw [← e]; exact q)
theorem walk_S {prog : Program} {w : World} {A : Around} (hh : A.handled = none) (b : Bool) (I ax : Addr) (hne : ax ≠ I) (items : Array Value) : Walks prog w A I [I, ax] [I] items.size (fun i v => items[i]? = some v) (fun i h => Sit h b I ax i ∧ Ssq h b ax items) := by
  cases b with
  | true => exact Walks.tuple hh I ax hne items
  | false => exact Walks.list hh I ax hne items
theorem call_allB (hc : X.calm = true) : CallR X (.builtin "all") (fun xs H Q => ∃ (b : Bool) (a : Addr) (ys : List Bool), xs = [.ref a] ∧ SqB X.K H b a (ys.map .bl) ∧ Q (.bl (ys.all id)) H) := by
  intro pins s σ H xs us Q I r h
  obtain ⟨b, a, ys, rfl, hq, q⟩ := h
  obtain ⟨u, rfl, rx⟩ := vals1 r
  cases rx
  obtain ⟨its, r', pl, hz⟩ := CT.Inv.sqb I hq
  have e := bools_of r'
  subst e
  have hal : a < s.heap.objs.size := by
    cases b with
    | true => obtain ⟨o, ho, _⟩ := pl; exact Heap.lt_size ho
    | false => obtain ⟨o, ho, _⟩ := pl; exact Heap.lt_size ho
  refine call_all_walk (pyIterS pl ⟨_, _, _, _, _, _, _, rfl, walk_S (A := X.A.in1) (I.ok.hd hc) b s.heap.objs.size a (Nat.ne_of_lt hal) (ys.map Value.bool).toArray, ⟨Sit.new b a, pl.at fun o e => Heap.get?_push_of_some _ e⟩, truth_bools (ys := ys), fun h' tk hk => ?_⟩)
  refine ⟨.bl (ys.all id), H, I.kept (t' := tk) fun c o e => hk c o (by simp; exact Nat.ne_of_lt (Heap.lt_size e)) (Heap.get?_push_of_some _ e), ?_, q⟩
  show Value.bool _ = Value.bool _
  rw [List.size_toArray, List.length_map, all_range]
theorem call_anyB (hc : X.calm = true) : CallR X (.builtin "any") (fun xs H Q => ∃ (b : Bool) (a : Addr) (ys : List Bool), xs = [.ref a] ∧ SqB X.K H b a (ys.map .bl) ∧ Q (.bl (ys.any id)) H) := by
  intro pins s σ H xs us Q I r h
  obtain ⟨b, a, ys, rfl, hq, q⟩ := h
  obtain ⟨u, rfl, rx⟩ := vals1 r
  cases rx
  obtain ⟨its, r', pl, hz⟩ := CT.Inv.sqb I hq
  have e := bools_of r'
  subst e
  have hal : a < s.heap.objs.size := by
    cases b with
    | true => obtain ⟨o, ho, _⟩ := pl; exact Heap.lt_size ho
    | false => obtain ⟨o, ho, _⟩ := pl; exact Heap.lt_size ho
  refine call_any_walk (pyIterS pl ⟨_, _, _, _, _, _, _, rfl, walk_S (A := X.A.in1) (I.ok.hd hc) b s.heap.objs.size a (Nat.ne_of_lt hal) (ys.map Value.bool).toArray, ⟨Sit.new b a, pl.at fun o e => Heap.get?_push_of_some _ e⟩, truth_bools (ys := ys), fun h' tk hk => ?_⟩)
  refine ⟨.bl (ys.any id), H, I.kept (t' := tk) fun c o e => hk c o (by simp; exact Nat.ne_of_lt (Heap.lt_size e)) (Heap.get?_push_of_some _ e), ?_, q⟩
  show Value.bool _ = Value.bool _
  rw [List.size_toArray, List.length_map, any_range]
theorem call_sumI (hc : X.calm = true) : CallR X (.builtin "sum") (fun xs H Q => ∃ (a : Addr) (ns : List Int), xs = [.ref a] ∧ SqL X.K H a (ns.map .int) ∧ Q (.int ns.sum) H) := by
  intro pins s σ H xs us Q I r h
  obtain ⟨a, ns, rfl, hq, q⟩ := h
  obtain ⟨u, rfl, rx⟩ := vals1 r
  cases rx
  obtain ⟨its, r', pl, hz⟩ := I.list hq
  have hi := ints_of r'
  obtain ⟨xs, ex⟩ := hi.allInts.items
  have en : xs.toList.map (·.1) = ns := by rw [← nums_intItems, ← ex]; exact hi.numsOf
  refine sum_intListG (I.ok.hd hc) (xs := xs) (by rw [← ex]; exact pl.isList) fun h' tk t' hk => ?_
  rw [preSum_eq, List.take_of_length_le (by simp), en]
  exact ⟨.int ns.sum, H, I.kept (t' := tk) hk, ⟨t', rfl⟩, q⟩
/-- is, is not, of truths -/
theorem op_isB : OpR X (compareOp .Is) (fun x y H Q => ∃ a b, x = .bl a ∧ y = .bl b ∧ Q (.bl (a == b)) H) := by
  intro pins s σ H x y v u Q I rx ry h
  obtain ⟨a, b, rfl, rfl, q⟩ := h
  cases rx; cases ry
  exact is_bool ⟨.bl _, H, I, rfl, q⟩
theorem op_isnotB : OpR X (compareOp .IsNot) (fun x y H Q => ∃ a b, x = .bl a ∧ y = .bl b ∧ Q (.bl (a != b)) H) := by
  intro pins s σ H x y v u Q I rx ry h
  obtain ⟨a, b, rfl, rfl, q⟩ := h
  cases rx; cases ry
  exact isnot_bool ⟨.bl _, H, I, rfl, q⟩
/-- () + t -/
theorem op_catT0 : OpR X (binaryOp .Add) (fun x y H Q => ∃ a b ys, x = .ref a ∧ y = .ref b ∧ SqT X.K H a [] ∧ SqT X.K H b ys ∧ Q (.ref b) H) := by
  intro pins s σ H x y v u Q I rx ry h
  obtain ⟨a, b, ys, rfl, rfl, ha, hb, q⟩ := h
  cases rx
  cases ry
  obtain ⟨its, r1, p1, _⟩ := I.tuple ha
  obtain ⟨its2, r2, p2, _⟩ := I.tuple hb
  cases r1
  obtain ⟨⟨cls, dd, data, sl⟩, ho, hc, n, hd⟩ := p1
  obtain ⟨⟨cls2, dd2, data2, sl2⟩, ho2, hc2, n2, hd2⟩ := p2
  simp only at hc hd hc2 hd2
  subst hc hd hc2 hd2
  exact concat_meets ⟨_, ho, rfl⟩ ⟨_, ho2, rfl⟩ noFill_tuple_add seq_tuple_add PySem.F.slot_tuple_add PySem.F.entry_tuple_add (PySem.F.args_tuple_add_2 _ _)
    (tuple_addW0 a b #[] its2.toArray n n2 dd dd2 sl sl2 (by simp)) ⟨ho, ho2, ⟨.ref b, H, I, rfl, q⟩⟩
/-- (v,) * k -/
theorem op_repT : OpR X (binaryOp .Mult) (fun x y H Q => ∃ a k z, x = .ref a ∧ y = .int k ∧ SqT X.K H a [z] ∧ 0 ≤ k ∧ k < 2 ^ 20 ∧ (k = 1 → Q (.ref a) H) ∧ (k ≠ 1 → ∀ p, H p = none → Q (.ref p) (upd H p (.tup (List.replicate k.toNat z))))) := by
  intro pins s σ H x y v u Q I rx ry h
  obtain ⟨a, k, z, rfl, rfl, ha, h0, h1, q1, q2⟩ := h
  cases rx
  obtain ⟨t, rfl⟩ := ry
  obtain ⟨its, r1, p1, _⟩ := I.tuple ha
  cases r1 with
  | cons rz rn =>
    cases rn
    rename_i uz
    obtain ⟨⟨cls, dd, data, sl⟩, ho, hc, n, hd⟩ := p1
    simp only at hc hd
    subst hc hd
    refine wpAny_binaryOp_repeat_ref (T := "tuple") (U := "int") (by decide) ⟨_, ho, rfl⟩ (fun s' => typeIs_int s' k t) noFill_tuple_mul F.fills_int_mul F.slot_int_rmul repeat_tuple F.slot_int_index.lookup
      (call_meets F.slot_int_rmul (typeIs_int s k t) F.entry_int_rmul (F.args_int_rmul_2 _ _) (rmul_int_tuple k t a dd _ n sl)
        ⟨ho, rfl, ⟨_, ho, rfl⟩, call_meets F.slot_tuple_mul ⟨_, ho, rfl⟩ F.entry_tuple_mul (F.args_tuple_mul_2 _ _) (mul_one_tuple a dd uz n sl k t h0 h1) ⟨ho, ?_⟩⟩)
    by_cases k1 : k = 1
    · rw [if_pos k1]
      exact ⟨.ref a, H, I, rfl, q1 k1⟩
    · rw [if_neg k1]
      have rr : ∀ m : Nat, Vals (List.replicate m z) (List.replicate m uz) := fun m => by
        induction m with
        | zero => exact .nil
        | succ m ih => exact .cons rz ih
      refine ⟨.ref s.heap.objs.size, _, I.laid (t' := s.toks) (o := .tup (List.replicate k.toNat z)) (fun b ob q => Heap.get?_push_of_some _ q) (Nat.le_refl _) ?_, rfl, q2 k1 _ (I.hok.fresh (Nat.le_refl _))⟩
      exact ⟨by rw [List.length_replicate]; show k.toNat ≤ 2 ^ 24; omega, _, rr _, IsTup.new _ _⟩
end
end CT

set_option Elab.async false
set_option linter.all false
set_option maxRecDepth 100000
/-! THE DATA LAYER: built-ins over data -/
namespace CT
open PySem PySem.Spec L2
open PyProof.Rows hiding St

section
variable {X : Cx} {ρ : Rho} {e a b : Expr} {es : List Expr} {d da db : D} {ds xs ys : List D} {x : Str} {p pos : Pos}
/-! ### calls of built-ins -/
theorem de_callB {id : String} {r : List V → Hp → VK → Prop} (hc : CallR X (.builtin id) r) (hcd : CD X.K r ds d) (hg : Gl X x) (hm : X.mg x = none) (hv : bootBuiltins x = some (.builtin id)) (ha : DA X ρ (e :: es) ds) (hn : x ≠ "__name__" := by decide) (hdb : (x == ("__debug__" : Str)) = false := by decide)
    (he : starEach (e :: es) X.env = (false, eval e X.env) :: starEach es X.env := by rfl) (hpl : (backTo pos (starEach es X.env)).any (·.1) = false := by rfl) : DE X ρ (.Call (.Name x p) (e :: es) [] pos) d := PE.weak (pe_callB hc hg hm hv ha hn hdb he hpl) (call_D hcd)
theorem de_callTy {T : String} {r : List V → Hp → VK → Prop} (hc : CallR X (.type T) r) (hcd : CD X.K r ds d) (hg : Gl X x) (hm : X.mg x = none) (hv : bootBuiltins x = some (.type T)) (ha : DA X ρ (e :: es) ds) (hn : x ≠ "__name__" := by decide) (hdb : (x == ("__debug__" : Str)) = false := by decide)
    (he : starEach (e :: es) X.env = (false, eval e X.env) :: starEach es X.env := by rfl) (hpl : (backTo pos (starEach es X.env)).any (·.1) = false := by rfl) : DE X ρ (.Call (.Name x p) (e :: es) [] pos) d := PE.weak (pe_callTy hc hg hm hv ha hn hdb he hpl) (call_D hcd)
theorem Sq.sq {K : PySem.W.Frag} {H : Hp} {S : Ad} {v : V} (q : Sq d xs) (r : Rds K H S d v) : ∃ b a vs, v = .ref a ∧ SqB K H b a vs ∧ RdsL K H S xs vs := by
  obtain ⟨b, a, vs, e, l⟩ := q.later r
  exact ⟨b, a, vs, e, l H S Ext.refl fun _ h => .inl h⟩
theorem SqB.or {K : PySem.W.Frag} {H : Hp} {c : Bool} {a : Addr} {vs : List V} (h : SqB K H c a vs) : SqL K H a vs ∨ SqT K H a vs := by
  cases c with
  | true => exact .inr h
  | false => exact .inl h
theorem de_len (q : Sq da xs) (hg : Gl X "len") (hm : X.mg "len" = none) (ha : DA X ρ [e] [da]) (he : starEach [e] X.env = (false, eval e X.env) :: starEach [] X.env := by rfl) (hpl : (backTo pos (starEach [] X.env)).any (·.1) = false := by rfl) : DE X ρ (.Call (.Name "len" p) [e] [] pos) (.int xs.length) :=
  de_callB call_len_seq (fun vs H S Q rs dm k => by
    obtain ⟨v, rfl, r⟩ := rs.one
    obtain ⟨c, a, us, rfl, sq, rl⟩ := q.sq r
    exact ⟨a, us, rfl, sq.or, by rw [← rl.length]; exact k _ H Ext.refl (.int _)⟩) hg hm boot_len ha (by decide) (by decide) he hpl
theorem boot_tuple' : bootBuiltins "tuple" = some (.type "tuple") := by decide +kernel
theorem boot_list' : bootBuiltins "list" = some (.type "list") := by decide +kernel
theorem boot_int' : bootBuiltins "int" = some (.type "int") := by decide +kernel
theorem boot_bool' : bootBuiltins "bool" = some (.type "bool") := by decide +kernel
theorem boot_all' : bootBuiltins "all" = some (.builtin "all") := by decide +kernel
theorem boot_any' : bootBuiltins "any" = some (.builtin "any") := by decide +kernel
theorem boot_sum' : bootBuiltins "sum" = some (.builtin "sum") := by decide +kernel
theorem boot_abs' : bootBuiltins "abs" = some (.builtin "abs") := by decide +kernel
theorem boot_isinstance' : bootBuiltins "isinstance" = some (.builtin "isinstance") := by decide +kernel
theorem boot_str' : bootBuiltins "str" = some (.type "str") := by decide +kernel
theorem boot_ValueError' : bootBuiltins "ValueError" = some (.type "ValueError") := by decide +kernel
theorem de_tuple (q : Sq da xs) (hg : Gl X "tuple") (hm : X.mg "tuple" = none) (ha : DA X ρ [e] [da]) (he : starEach [e] X.env = (false, eval e X.env) :: starEach [] X.env := by rfl) (hpl : (backTo pos (starEach [] X.env)).any (·.1) = false := by rfl) : DE X ρ (.Call (.Name "tuple" p) [e] [] pos) (.tup xs) :=
  de_callTy call_tuple_of (fun vs H S Q rs dm k => by
    obtain ⟨v, rfl, r⟩ := rs.one
    cases q with
    | lst =>
      obtain ⟨a, us, rfl, sq, rl⟩ := r.lstV
      exact ⟨a, us, rfl, .inl ⟨sq, fun l hl => k _ _ (Ext.new hl) (Rds.newTup dm hl rl)⟩⟩
    | tup =>
      obtain ⟨a, us, rfl, h, rl⟩ := r.tupV
      exact ⟨a, us, rfl, .inr ⟨.inl (.inl h), k _ H Ext.refl r⟩⟩) hg hm boot_tuple' ha (by decide) (by decide) he hpl
theorem df_list (q : Sq da xs) (hg : Gl X "list") (hm : X.mg "list" = none) (ha : DA X ρ [e] [da]) (he : starEach [e] X.env = (false, eval e X.env) :: starEach [] X.env := by rfl) (hpl : (backTo pos (starEach [] X.env)).any (·.1) = false := by rfl) : DF X ρ (.Call (.Name "list" p) [e] [] pos) xs :=
  PE.weak (pe_callTy call_list_of hg hm boot_list' ha (by decide) (by decide) he hpl) fun σ H Q ⟨S, ve, k⟩ => ⟨S, ve, fun vs H' ex rs => by
    obtain ⟨v, rfl, r⟩ := rs.one
    obtain ⟨c, a, us, rfl, sq, rl⟩ := q.sq r
    exact ⟨a, us, rfl, sq.or, fun l hl => k l us _ (ex.trans (Ext.new hl)) (ex.back hl) upd_same ((rl.av (S' := S.and l) fun b h => h.imp_right fun z => by rw [z]; exact hl).ext ((Ext.new hl).to _))⟩⟩
theorem bls_V {K : PySem.W.Frag} {H : Hp} {S : Ad} : ∀ {ys : List Bool} {vs : List V}, RdsL K H S (ys.map .bl) vs → vs = ys.map .bl
  | [], _, .nil => rfl
  | y :: ys, _, .cons r t => by rw [bls_V t, r.blV]; rfl
theorem ints_V {K : PySem.W.Frag} {H : Hp} {S : Ad} : ∀ {ns : List Int} {vs : List V}, RdsL K H S (ns.map .int) vs → vs = ns.map .int
  | [], _, .nil => rfl
  | y :: ys, _, .cons r t => by rw [ints_V t, r.intV]; rfl
theorem de_all {bs : List Bool} (hc : X.calm = true) (q : Sq da (bs.map .bl)) (hg : Gl X "all") (hm : X.mg "all" = none) (ha : DA X ρ [e] [da]) (he : starEach [e] X.env = (false, eval e X.env) :: starEach [] X.env := by rfl) (hpl : (backTo pos (starEach [] X.env)).any (·.1) = false := by rfl) :
    DE X ρ (.Call (.Name "all" p) [e] [] pos) (.bl (bs.all id)) :=
  de_callB (call_allB hc) (fun vs H S Q rs dm k => by
    obtain ⟨v, rfl, r⟩ := rs.one
    obtain ⟨c, a, us, rfl, sq, rl⟩ := q.sq r
    exact ⟨c, a, bs, rfl, by rw [← bls_V rl]; exact sq, k _ H Ext.refl (.bl _)⟩) hg hm boot_all' ha (by decide) (by decide) he hpl
theorem de_any {bs : List Bool} (hc : X.calm = true) (q : Sq da (bs.map .bl)) (hg : Gl X "any") (hm : X.mg "any" = none) (ha : DA X ρ [e] [da]) (he : starEach [e] X.env = (false, eval e X.env) :: starEach [] X.env := by rfl) (hpl : (backTo pos (starEach [] X.env)).any (·.1) = false := by rfl) :
    DE X ρ (.Call (.Name "any" p) [e] [] pos) (.bl (bs.any id)) :=
  de_callB (call_anyB hc) (fun vs H S Q rs dm k => by
    obtain ⟨v, rfl, r⟩ := rs.one
    obtain ⟨c, a, us, rfl, sq, rl⟩ := q.sq r
    exact ⟨c, a, bs, rfl, by rw [← bls_V rl]; exact sq, k _ H Ext.refl (.bl _)⟩) hg hm boot_any' ha (by decide) (by decide) he hpl
theorem de_sum {ns : List Int} (hc : X.calm = true) (hg : Gl X "sum") (hm : X.mg "sum" = none) (ha : DA X ρ [e] [.lst (ns.map .int)]) (he : starEach [e] X.env = (false, eval e X.env) :: starEach [] X.env := by rfl) (hpl : (backTo pos (starEach [] X.env)).any (·.1) = false := by rfl) :
    DE X ρ (.Call (.Name "sum" p) [e] [] pos) (.int ns.sum) :=
  de_callB (call_sumI hc) (fun vs H S Q rs dm k => by
    obtain ⟨v, rfl, r⟩ := rs.one
    obtain ⟨a, us, rfl, sq, rl⟩ := r.lstV
    exact ⟨a, ns, rfl, by rw [← ints_V rl]; exact sq, k _ H Ext.refl (.int _)⟩) hg hm boot_sum' ha (by decide) (by decide) he hpl
theorem de_abs {i : Int} (hg : Gl X "abs") (hm : X.mg "abs" = none) (ha : DA X ρ [e] [.int i]) (he : starEach [e] X.env = (false, eval e X.env) :: starEach [] X.env := by rfl) (hpl : (backTo pos (starEach [] X.env)).any (·.1) = false := by rfl) :
    DE X ρ (.Call (.Name "abs" p) [e] [] pos) (.int (if i < 0 then -i else i)) :=
  de_callB call_abs (fun vs H S Q rs dm k => by
    obtain ⟨v, rfl, r⟩ := rs.one
    exact ⟨i, by rw [r.intV], k _ H Ext.refl (.int _)⟩) hg hm boot_abs' ha (by decide) (by decide) he hpl
theorem de_intB {q : Bool} (hg : Gl X "int") (hm : X.mg "int" = none) (ha : DA X ρ [e] [.bl q]) (he : starEach [e] X.env = (false, eval e X.env) :: starEach [] X.env := by rfl) (hpl : (backTo pos (starEach [] X.env)).any (·.1) = false := by rfl) :
    DE X ρ (.Call (.Name "int" p) [e] [] pos) (.int (if q then 1 else 0)) :=
  de_callTy call_int1 (fun vs H S Q rs dm k => by
    obtain ⟨v, rfl, r⟩ := rs.one
    exact .inr ⟨q, by rw [r.blV], k _ H Ext.refl (.int _)⟩) hg hm boot_int' ha (by decide) (by decide) he hpl

/-! ### operators -/
theorem de_isB {q r : Bool} (ha : DE X ρ a (.bl q)) (hb : DE X ρ b (.bl r)) : DE X ρ (.Compare a [.Is] [b] pos) (.bl (q == r)) :=
  de_cmp op_isB (fun x y H S Q rx ry dm k => ⟨q, r, rx.blV, ry.blV, k _ H Ext.refl (.bl _)⟩) ha hb (nomark _)
theorem de_isnotB {q r : Bool} (ha : DE X ρ a (.bl q)) (hb : DE X ρ b (.bl r)) : DE X ρ (.Compare a [.IsNot] [b] pos) (.bl (q != r)) :=
  de_cmp op_isnotB (fun x y H S Q rx ry dm k => ⟨q, r, rx.blV, ry.blV, k _ H Ext.refl (.bl _)⟩) ha hb (nomark _)
theorem dt_isB {q r : Bool} (ha : DE X ρ a (.bl q)) (hb : DE X ρ b (.bl r)) : DT X ρ (.Compare a [.Is] [b] pos) (q == r) :=
  dt_cmp op_isB (fun x y H S Q rx ry dm k => ⟨q, r, rx.blV, ry.blV, k _ H Ext.refl (.bl _)⟩) ha hb (nomark _)
theorem dt_isnotB {q r : Bool} (ha : DE X ρ a (.bl q)) (hb : DE X ρ b (.bl r)) : DT X ρ (.Compare a [.IsNot] [b] pos) (q != r) :=
  dt_cmp op_isnotB (fun x y H S Q rx ry dm k => ⟨q, r, rx.blV, ry.blV, k _ H Ext.refl (.bl _)⟩) ha hb (nomark _)
theorem de_catT (ha : DE X ρ a (.tup xs)) (hb : DE X ρ b (.tup ys)) (hl : xs.length + ys.length ≤ sizeLine) : DE X ρ (.BinOp a .Add b pos) (.tup (xs ++ ys)) := by
  by_cases hx : xs = []
  · subst hx
    exact de_op op_catT0 (fun x y H S Q rx ry dm k => by
      obtain ⟨p, us, rfl, h1, r1⟩ := rx.tupV
      obtain ⟨q, vs, rfl, h2, r2⟩ := ry.tupV
      cases r1
      exact ⟨p, q, vs, rfl, rfl, .inl (.inl h1), .inl (.inl h2), k _ H Ext.refl ry⟩) ha hb
  · exact de_op op_catT (fun x y H S Q rx ry dm k => by
      obtain ⟨p, us, rfl, h1, r1⟩ := rx.tupV
      obtain ⟨q, vs, rfl, h2, r2⟩ := ry.tupV
      refine ⟨p, q, us, vs, rfl, rfl, .inl (.inl h1), .inl (.inl h2), fun z => hx ?_, by rw [← r1.length, ← r2.length]; exact hl, fun z => ?_, fun z l hp => k _ _ (Ext.new hp) (Rds.newTup dm hp (RdsL.app r1 r2))⟩
      · subst z; cases r1; rfl
      · subst z; cases r2; rw [List.append_nil] at k; exact k _ H Ext.refl rx) ha hb
theorem de_repT {k : Int} (ha : DE X ρ a (.tup [d])) (hb : DE X ρ b (.int k)) (h0 : 0 ≤ k) (h1 : k < 2 ^ 20) : DE X ρ (.BinOp a .Mult b pos) (.tup (List.replicate k.toNat d)) :=
  de_op op_repT (fun x y H S Q rx ry dm kk => by
    obtain ⟨p, us, rfl, h2, r1⟩ := rx.tupV
    obtain ⟨v, rfl, r⟩ := r1.one
    refine ⟨p, k, v, rfl, ry.intV, .inl (.inl h2), h0, h1, fun z => ?_, fun z l hp => kk _ _ (Ext.new hp) (Rds.newTup dm hp (RdsL.rep r _))⟩
    subst z
    exact kk _ H Ext.refl rx) ha hb
theorem atI_D {K : PySem.W.Frag} {H : Hp} {S : Ad} {vs : List V} {i : Int} (r : RdsL K H S xs vs) (h : atI xs i = some d) : ∃ v, atI vs i = some v ∧ Rds K H S d v := by
  unfold atI at h ⊢
  rw [← r.length]
  cases q : ixN xs.length i with
  | none => rw [q] at h; cases h
  | some j =>
    rw [q] at h
    exact r.get h
theorem de_ixL {i : Int} (ha : DE X ρ a (.lst xs)) (hb : DE X ρ b (.int i)) (h : atI xs i = some d) (hs : PlainIx b := by exact fun _ _ => rfl) : DE X ρ (.Subscript a b pos) d :=
  PE.weak (pe_ix ix_list ha hb hs) (op_D fun x y H S Q rx ry dm k => by
    obtain ⟨p, us, rfl, sq, r1⟩ := rx.lstV
    obtain ⟨v, hv, r⟩ := atI_D r1 h
    exact ⟨p, us, i, v, rfl, ry.intV, sq, hv, k _ H Ext.refl r⟩)
theorem de_ixT {i : Int} (ha : DE X ρ a (.tup xs)) (hb : DE X ρ b (.int i)) (h : atI xs i = some d) (hs : PlainIx b := by exact fun _ _ => rfl) : DE X ρ (.Subscript a b pos) d :=
  PE.weak (pe_ix ix_tup ha hb hs) (op_D fun x y H S Q rx ry dm k => by
    obtain ⟨p, us, rfl, h2, r1⟩ := rx.tupV
    obtain ⟨v, hv, r⟩ := atI_D r1 h
    exact ⟨p, us, i, v, rfl, ry.intV, .inl (.inl h2), hv, k _ H Ext.refl r⟩)
/-- a <= b < c, of ints -/
theorem de_chain {c : Expr} {i j k : Int} (ha : DE X ρ a (.int i)) (hb : DE X ρ b (.int j)) (hc : DE X ρ c (.int k)) (hm : lastMarks [CmpOp.LtE, CmpOp.Lt] [b, c] = false := by with_unfolding_all rfl) :
    DE X ρ (.Compare a [.LtE, .Lt] [b, c] pos) (.bl (decide (i ≤ j) && decide (j < k))) := PE.weak (pe_chain op_le op_lt ha hb hc hm) fun σ H Q ⟨S, ve, kk⟩ =>
  ⟨S, ve, fun x H1 e1 r1 => ⟨S, ve.ext e1, fun y H2 e2 r2 => ⟨i, j, r1.intV, r2.intV, decide (i ≤ j), rfl, by
    cases hq : decide (i ≤ j) with
    | false =>
      rw [hq] at kk
      exact iteF (kk _ H2 (e1.trans e2) (.bl _))
    | true =>
      rw [hq, Bool.true_and] at kk
      exact iteT ⟨S, (ve.ext e1).ext e2, fun z H3 e3 r3 => ⟨j, k, r2.intV, r3.intV, kk _ H3 (e1.trans (e2.trans e3)) (.bl _)⟩⟩⟩⟩⟩

/-! ### isinstance -/
/-- what an own class must be for isinstance -/
structure Isi (K : PySem.W.Frag) (C : Addr) : Prop where
  cl : Cls K C
  ha : PySem.W.findIn K (.ref C) "__class__" = some (some (.builtin "object.__class__"))
  hn : PySem.W.specialIn K (.builtin "object.__class__") "__get__" = some (some (.builtin "getset_descriptor.__get__"))
  tk : PySem.W.takesIn K (.builtin "object.__class__") = some true
  mr : PySem.W.mroIn K C (.type "object") = some true
/-- what a class of exceptions must be for isinstance -/
structure XIsi (K : PySem.W.Frag) (C : Addr) : Prop where
  cl : XCls K C
  ha : PySem.W.findIn K (.ref C) "__class__" = some (some (.builtin "object.__class__"))
  hn : PySem.W.specialIn K (.builtin "object.__class__") "__get__" = some (some (.builtin "getset_descriptor.__get__"))
  tk : PySem.W.takesIn K (.builtin "object.__class__") = some true
theorem XIsi.find {K : PySem.W.Frag} {C : Addr} (i : XIsi K C) (od : Option Obj) : PySem.W.findObj K C od "__class__" = some (.bind (.builtin "getset_descriptor.__get__") (.builtin "object.__class__")) := by
  obtain ⟨cd, hc, _⟩ := PySem.W.any_some i.cl.ov
  unfold PySem.W.findObj
  rw [hc, Option.bind_some, i.ha, Option.bind_some]
  simp [i.hn, i.tk]
/-- the type of data -/
inductive TyD (K : PySem.W.Frag) : D → Value → Prop
  | non : TyD K .non (.type "NoneType")
  | bl (b : Bool) : TyD K (.bl b) (.type "bool")
  | int (i : Int) : TyD K (.int i) (.type "int")
  | str (x : Str) : TyD K (.str x) (.type "str")
  | tup (xs : List D) : TyD K (.tup xs) (.type "tuple")
  | lst (xs : List D) : TyD K (.lst xs) (.type "list")
  | ins {C : Addr} (fs : List (Str × D)) (i : Isi K C) : TyD K (.ins C fs) (.ref C)
  | exc {C : Addr} (fs : List (Str × D)) (i : XIsi K C) : TyD K (.exc C fs) (.ref C)
  | dct (kvs : List (D × D)) : TyD K (.dct kvs) (.type "dict")
theorem kit_D {pins : List (Addr × Obj)} {σ : St} {H : Hp} {s : Shared} {S : Ad} {v : V} {u t : Value} (I : Inv X pins σ H s) (r : Rds X.K H S d v) (rv : RelV v u) (ty : TyD X.K d t) :
    ∃ Hh : Heap → Prop, PySem.W.KitX X.K u t Hh ∧ Hh s.heap ∧ u ≠ .builtin "__main__.__loader__#opaque" := by
  cases ty with
  | non => cases r; cases (show u = Value.none from rv); exact ⟨_, PySem.W.kitx_none, True.intro, fun z => nomatch z⟩
  | bl b => cases r; cases (show u = Value.bool b from rv); exact ⟨_, PySem.W.kitx_bool, True.intro, fun z => nomatch z⟩
  | int i => cases r; obtain ⟨t, q⟩ := (show ∃ t, u = Value.int i t from rv); cases q; exact ⟨_, PySem.W.kitx_int, True.intro, fun z => nomatch z⟩
  | str x => cases r; obtain ⟨t, q⟩ := (show ∃ t, u = Value.str x t from rv); cases q; exact ⟨_, PySem.W.kitx_str, True.intro, fun z => nomatch z⟩
  | tup xs =>
    obtain ⟨a, vs, rfl, h, _⟩ := r.tupV
    cases (show u = Value.ref a from rv)
    obtain ⟨its, _, ⟨o, h1, h2, _⟩, _⟩ := I.tuple (.inl (.inl h))
    exact ⟨_, PySem.W.kitx_tuple, ⟨o, h1, h2⟩, fun z => nomatch z⟩
  | lst xs =>
    obtain ⟨a, vs, rfl, h, _⟩ := r.lstV
    cases (show u = Value.ref a from rv)
    obtain ⟨its, _, ⟨o, n, h1, h2, _⟩, _⟩ := I.list h
    exact ⟨_, PySem.W.kitx_list, ⟨o, h1, h2⟩, fun z => nomatch z⟩
  | @ins C fs i =>
    obtain ⟨a, dx, gs, rfl, h, _⟩ := r.insV
    cases (show u = Value.ref a from rv)
    obtain ⟨mA, O, _⟩ := ins_get I.hok h
    obtain ⟨od, J, _⟩ := O.look
    exact ⟨_, PySem.W.kitx_own (i.cl.get _) i.cl.hd i.ha i.hn i.tk i.mr, J, fun z => nomatch z⟩
  | @exc C fs i =>
    cases r with
    | @exc0 fr a _ h n =>
      cases (show u = Value.ref a from rv)
      obtain ⟨vs, h1, _⟩ := exc_at (I.hok a _ h)
      exact ⟨_, kitx_exc (ox := ⟨.ref C, none, .fields vs, #[]⟩) (od := none) i.cl (i.find none), ⟨h1, rfl, rfl, trivial⟩, fun z => nomatch z⟩
    | @exc fr a _ dx _ gs h h2 n n2 rf =>
      cases (show u = Value.ref a from rv)
      obtain ⟨vs, mA, odd, h1, _, _, _, J, _⟩ := xinst I h h2
      exact ⟨_, kitx_exc i.cl (i.find _), J, fun z => nomatch z⟩
  | dct kvs =>
    cases r with
    | @dK a ks _ h _ _ _ =>
      cases (show u = Value.ref a from rv)
      obtain ⟨_, _, _, _, o, _, _, h1, h2, _⟩ := I.hok a _ h
      exact ⟨_, PySem.W.kitx_dict, ⟨o, h1, h2.1⟩, fun z => nomatch z⟩
/-- a class as data -/
inductive ClD : D → Value → Prop
  | ty (n : String) : ClD (.ty n) (.type n)
  | cl (C : Addr) : ClD (.cl C) (.ref C)
inductive ClDs : List D → List Value → Prop
  | nil : ClDs [] []
  | cons {d : D} {c : Value} {ds : List D} {cs : List Value} : ClD d c → ClDs ds cs → ClDs (d :: ds) (c :: cs)
theorem ClD.val {K : PySem.W.Frag} {H : Hp} {S : Ad} {v : V} {u c : Value} (h : ClD d c) (r : Rds K H S d v) (rv : RelV v u) : u = c := by
  cases h with
  | ty n => cases r; exact rv
  | cl C => cases r; exact rv
theorem ClDs.vals {K : PySem.W.Frag} {H : Hp} {S : Ad} : ∀ {ds : List D} {vs : List V} {us cs : List Value}, ClDs ds cs → RdsL K H S ds vs → Vals vs us → us = cs
  | _, _, _, _, .nil, .nil, .nil => rfl
  | _, _, _, _, .cons h t, .cons r rt, .cons q qt => by rw [h.val r q, ClDs.vals t rt qt]
theorem call_pair {t : TA} {R : V → V → Hp → VK → Prop} (hR : ∀ (pins : List (Addr × Obj)) (s : Shared) (σ : St) (H : Hp) (x y : V) (u c : Value) (Q : VK), Inv X pins σ H s → RelV x u → RelV y c → R x y H Q → wpAny (model X.prog X.w) X.A (call (.builtin "isinstance") [u, c]) (EP X pins σ Q) X.xe s) :
    CallR X (.builtin "isinstance") (fun xs H Q => ∃ x y, xs = [x, y] ∧ R x y H Q) := by
  intro pins s σ H xs us Q I r h
  obtain ⟨x, y, rfl, q⟩ := h
  cases r with
  | cons r1 r2 =>
    cases r2 with
    | cons r2 r3 =>
      cases r3
      exact hR pins s σ H x y _ _ Q I r1 r2 q
theorem de_isi {t c : Value} {q : Bool} {dc : D} (hg : Gl X "isinstance") (hm : X.mg "isinstance" = none) (ty : TyD X.K d t) (cl : ClD dc c) (hk : PySem.W.kitOne X.K t c = some q) (ha : DA X ρ [a, b] [d, dc])
    (he : starEach [a, b] X.env = (false, eval a X.env) :: starEach [b] X.env := by rfl) (hpl : (backTo pos (starEach [b] X.env)).any (·.1) = false := by rfl) : DE X ρ (.Call (.Name "isinstance" p) [a, b] [] pos) (.bl q) := by
  refine de_callB (call_pair (t := tNil) (R := fun x y H Q => ∃ S, Rds X.K H S d x ∧ Rds X.K H S dc y ∧ Q (.bl q) H) ?_) (fun vs H S Q rs dm k => ?_) hg hm boot_isinstance' ha (by decide) (by decide) he hpl
  · intro pins s σ H x y u cv Q I rx ry ⟨S, r1, r2, qq⟩
    obtain ⟨Hh, Z, hh, hx⟩ := kit_D I r1 rx ty
    rw [cl.val r2 ry]
    exact PySem.W.kia_one Z I.kIn hh hk hx fun tk => ⟨.bl q, H, I.tok tk, rfl, qq⟩
  · obtain ⟨v, u, rfl, r1, r2⟩ := rs.two
    exact ⟨v, u, rfl, S, r1, r2, k _ H Ext.refl (.bl _)⟩
theorem de_isiT {t : Value} {cs : List Value} {q : Bool} {dcs : List D} (hg : Gl X "isinstance") (hm : X.mg "isinstance" = none) (ty : TyD X.K d t) (cl : ClDs dcs cs) (hk : PySem.W.kitAny X.K t cs = some q) (ha : DA X ρ [a, b] [d, .tup dcs])
    (he : starEach [a, b] X.env = (false, eval a X.env) :: starEach [b] X.env := by rfl) (hpl : (backTo pos (starEach [b] X.env)).any (·.1) = false := by rfl) : DE X ρ (.Call (.Name "isinstance" p) [a, b] [] pos) (.bl q) := by
  refine de_callB (call_pair (t := tNil) (R := fun x y H Q => ∃ S, Rds X.K H S d x ∧ Rds X.K H S (.tup dcs) y ∧ Q (.bl q) H) ?_) (fun vs H S Q rs dm k => ?_) hg hm boot_isinstance' ha (by decide) (by decide) he hpl
  · intro pins s σ H x y u cv Q I rx ry ⟨S, r1, r2, qq⟩
    obtain ⟨Hh, Z, hh, hx⟩ := kit_D I r1 rx ty
    obtain ⟨tp, us, rfl, h2, rl⟩ := r2.tupV
    cases (show cv = Value.ref tp from ry)
    obtain ⟨its, rv, ⟨⟨oc, od, odt, osl⟩, h3, h4, n, h5⟩, _⟩ := I.tuple (.inl (.inl h2))
    simp only at h4 h5
    subst h4 h5
    rw [← cl.vals rl rv] at hk
    exact PySem.W.kia_tup Z I.kIn hh h3 hk hx fun tk => ⟨.bl q, H, I.tok tk, rfl, qq⟩
  · obtain ⟨v, u, rfl, r1, r2⟩ := rs.two
    exact ⟨v, u, rfl, S, r1, r2, k _ H Ext.refl (.bl _)⟩

/-! ### equality of data -/
mutual
def toPy : D → PyData
  | .non => .none | .bl b => .bool b | .int i => .int i | .str x => .str x
  | .tup xs => .tuple (toPyL xs) | .lst xs => .list (toPyL xs)
  | .ins _ _ => .none | .ty _ => .none | .cl _ => .none | .exc _ _ => .none | .dct _ => .none
def toPyL : List D → List PyData
  | [] => []
  | x :: xs => toPy x :: toPyL xs
end
mutual
/-- data alone: no instance, no class -/
def isDat : D → Bool
  | .non => true | .bl _ => true | .int _ => true | .str x => PyData.strOk x
  | .tup xs => isDatL xs | .lst xs => isDatL xs
  | .ins _ _ => false | .ty _ => false | .cl _ => false | .exc _ _ => false | .dct _ => false
def isDatL : List D → Bool
  | [] => true
  | x :: xs => isDat x && isDatL xs
end
mutual
theorem dat_lay : ∀ {d : D}, isDat d = true → (toPy d).canLay0 = true
  | .non, _ => rfl
  | .bl _, _ => rfl
  | .int _, _ => rfl
  | .str x, h => h
  | .tup xs, h => dat_layL (xs := xs) h
  | .lst xs, h => dat_layL (xs := xs) h
  | .ins _ _, h => nomatch h
  | .exc _ _, h => nomatch h
  | .dct _, h => nomatch h
  | .ty _, h => nomatch h
  | .cl _, h => nomatch h
theorem dat_layL : ∀ {xs : List D}, isDatL xs = true → PyData.canLayAll0 (toPyL xs) = true
  | [], _ => rfl
  | x :: xs, h => by
    have h' : isDat x = true ∧ isDatL xs = true := by simpa [isDatL] using h
    show (PyData.canLay0 (toPy x) && PyData.canLayAll0 (toPyL xs)) = true
    rw [dat_lay h'.1, dat_layL h'.2]; rfl
end
section
variable {pins : List (Addr × Obj)} {σ : St} {H : Hp} {s : Shared} {S : Ad}
mutual
theorem reads_D (I : Inv X pins σ H s) : ∀ (d : D) {v : V} {u : Value}, isDat d = true → Rds X.K H S d v → RelV v u → ∃ as, Reads s.heap u (toPy d) as
  | .non, _, u, _, r, q => by cases r; cases (show u = Value.none from q); exact ⟨_, .none⟩
  | .bl b, _, u, _, r, q => by cases r; cases (show u = Value.bool b from q); exact ⟨_, .bool b⟩
  | .int i, _, u, _, r, q => by cases r; obtain ⟨t, q⟩ := (show ∃ t, u = Value.int i t from q); cases q; exact ⟨_, .int i t⟩
  | .str x, _, u, _, r, q => by cases r; obtain ⟨t, q⟩ := (show ∃ t, u = Value.str x t from q); cases q; exact ⟨_, .str x t⟩
  | .tup xs, _, u, hd, r, q => by
    obtain ⟨a, vs, rfl, h, rl⟩ := r.tupV
    cases (show u = Value.ref a from q)
    obtain ⟨its, rv, ⟨o, h1, h2, k, h3⟩, _⟩ := I.tuple (.inl (.inl h))
    obtain ⟨as, ra⟩ := readsL_D I xs hd rl rv
    exact ⟨_, .tuple h1 h2 h3 ra⟩
  | .lst xs, _, u, hd, r, q => by
    obtain ⟨a, vs, rfl, h, rl⟩ := r.lstV
    cases (show u = Value.ref a from q)
    obtain ⟨its, rv, ⟨o, k, h1, h2, _, h3⟩, _⟩ := I.list h
    obtain ⟨as, ra⟩ := readsL_D I xs hd rl rv
    exact ⟨_, .list h1 h2 h3 ra⟩
  | .ins _ _, _, _, h, _, _ => nomatch h
  | .exc _ _, _, _, h, _, _ => nomatch h
  | .dct _, _, _, h, _, _ => nomatch h
  | .ty _, _, _, h, _, _ => nomatch h
  | .cl _, _, _, h, _, _ => nomatch h
theorem readsL_D (I : Inv X pins σ H s) : ∀ (ds : List D) {vs : List V} {us : List Value}, isDatL ds = true → RdsL X.K H S ds vs → Vals vs us → ∃ as, ReadsAll s.heap us (toPyL ds) as
  | [], _, _, _, r, q => by cases r; cases q; exact ⟨_, .nil⟩
  | d :: ds, _, _, hd, r, q => by
    cases r with
    | cons r t =>
      cases q with
      | cons q qt =>
        have h' : isDat d = true ∧ isDatL ds = true := by simpa [isDatL] using hd
        obtain ⟨as, ra⟩ := reads_D I d h'.1 r q
        obtain ⟨bs, rb⟩ := readsL_D I ds h'.2 t qt
        exact ⟨_, .cons ra rb⟩
end
end
/-- == of data -/
def eqD (d d' : D) : Bool := PyData.eqv (toPy d) (toPy d')
theorem op_eqD {hu : X.A.units + 64 < cLine} (h1 : isDat da = true) (h2 : isDat db = true) (hd : min (toPy da).depth (toPy db).depth ≤ 64) : OpR X (compareOp .Eq) (fun x y H Q => ∃ S, Rds X.K H S da x ∧ Rds X.K H S db y ∧ Q (.bl (eqD da db)) H) := by
  intro pins s σ H x y v u Q I rx ry ⟨S, r1, r2, q⟩
  obtain ⟨as, ra⟩ := reads_D I _ h1 r1 rx
  obtain ⟨bs, rb⟩ := reads_D I _ h2 r2 ry
  exact SeqAt.compareEq_reads ra rb (dat_lay h1) (dat_lay h2) (Nat.lt_of_le_of_lt (Nat.add_le_add_left hd _) hu) ⟨.bl _, H, I, rfl, q⟩
theorem op_neD {hu : X.A.units + 64 < cLine} (h1 : isDat da = true) (h2 : isDat db = true) (hd : min (toPy da).depth (toPy db).depth ≤ 64) : OpR X (compareOp .NotEq) (fun x y H Q => ∃ S, Rds X.K H S da x ∧ Rds X.K H S db y ∧ Q (.bl (!eqD da db)) H) := by
  intro pins s σ H x y v u Q I rx ry ⟨S, r1, r2, q⟩
  obtain ⟨as, ra⟩ := reads_D I _ h1 r1 rx
  obtain ⟨bs, rb⟩ := reads_D I _ h2 r2 ry
  exact SeqAt.compareNe_reads ra rb (dat_lay h1) (dat_lay h2) (Nat.lt_of_le_of_lt (Nat.add_le_add_left hd _) hu) ⟨.bl _, H, I, rfl, q⟩
theorem de_eqD (hu : X.A.units + 64 < cLine) (h1 : isDat da = true) (h2 : isDat db = true) (hd : min (toPy da).depth (toPy db).depth ≤ 64) (ha : DE X ρ a da) (hb : DE X ρ b db) : DE X ρ (.Compare a [.Eq] [b] pos) (.bl (eqD da db)) :=
  de_cmp (op_eqD (hu := hu) h1 h2 hd) (fun x y H S Q rx ry dm k => ⟨S, rx, ry, k _ H Ext.refl (.bl _)⟩) ha hb (nomark _)
theorem de_neD (hu : X.A.units + 64 < cLine) (h1 : isDat da = true) (h2 : isDat db = true) (hd : min (toPy da).depth (toPy db).depth ≤ 64) (ha : DE X ρ a da) (hb : DE X ρ b db) : DE X ρ (.Compare a [.NotEq] [b] pos) (.bl (!eqD da db)) :=
  de_cmp (op_neD (hu := hu) h1 h2 hd) (fun x y H S Q rx ry dm k => ⟨S, rx, ry, k _ H Ext.refl (.bl _)⟩) ha hb (nomark _)
theorem dt_eqD (hu : X.A.units + 64 < cLine) (h1 : isDat da = true) (h2 : isDat db = true) (hd : min (toPy da).depth (toPy db).depth ≤ 64) (ha : DE X ρ a da) (hb : DE X ρ b db) : DT X ρ (.Compare a [.Eq] [b] pos) (eqD da db) :=
  dt_cmp (op_eqD (hu := hu) h1 h2 hd) (fun x y H S Q rx ry dm k => ⟨S, rx, ry, k _ H Ext.refl (.bl _)⟩) ha hb (nomark _)
theorem dt_neD (hu : X.A.units + 64 < cLine) (h1 : isDat da = true) (h2 : isDat db = true) (hd : min (toPy da).depth (toPy db).depth ≤ 64) (ha : DE X ρ a da) (hb : DE X ρ b db) : DT X ρ (.Compare a [.NotEq] [b] pos) (!eqD da db) :=
  dt_cmp (op_neD (hu := hu) h1 h2 hd) (fun x y H S Q rx ry dm k => ⟨S, rx, ry, k _ H Ext.refl (.bl _)⟩) ha hb (nomark _)
end
end CT

set_option Elab.async false
set_option linter.all false
set_option maxRecDepth 100000
/-! short words for one's own program -/
namespace CT
open PySem PySem.Spec L2
open PyProof.Rows hiding St

/-- the block's scope by the scope around it -/
def relS (scope sc : Scope) : Scope := { scope with names := scope.names.map fun (n, k) => if (k == .free && sc.kind == .function && sc.names.lookup n == some .cell) then (n, .cell) else (n, k) }
def csOk (scope : Scope) (own : List Str) (cap : List (Str × Nat)) (sc : Scope) (N : List Str) : Bool :=
  decide (scope.kind = .function) && decide ((scope.names.map (·.1)).Nodup) && (scope.names.all fun x => x.2 != .free || sc.names.lookup x.1 == some .cell || sc.names.lookup x.1 == some .free) &&
    (own.all fun x => scope.names.contains (x, .local) || scope.names.contains (x, .cell)) && (cap.all fun p => N[p.2]? == some p.1 && scope.names.contains (p.1, .free)) && decide ((own ++ cap.map (·.1)).Nodup)
theorem CS.of {X : Cx} {scope : Scope} {own : List Str} {cap : List (Str × Nat)} (sc : Scope) (N : List Str) (h1 : X.env.scope = sc) (h2 : X.N = N) (h : csOk scope own cap sc N = true) : CS X scope own cap := by
  unfold csOk at h
  simp only [Bool.and_eq_true, decide_eq_true_eq, List.all_eq_true, Bool.or_eq_true, beq_iff_eq, bne_iff_ne, ne_eq, List.contains_iff_mem] at h
  obtain ⟨⟨⟨⟨⟨a1, a2⟩, a3⟩, a4⟩, a5⟩, a6⟩ := h
  subst h2
  refine ⟨a1, a2, fun x hx e => ?_, a4, a5, a6⟩
  show X.env.scope.names.lookup x.1 = _ ∨ X.env.scope.names.lookup x.1 = _
  rw [h1]
  rcases a3 x hx with (z | z) | z
  · exact absurd e z
  · exact .inl z
  · exact .inr z
section
variable {X : Cx} {scope : Scope} {own : List Str} {cap : List (Str × Nat)} {p : List (Addr × Obj)} {s : Shared} {h : Hp} {fp : List Addr} {ρ : Rho} {d : D} {x : Str} {pos : Pos}
theorem de_cv (cs : CS X scope own cap) {i : Nat} (hi : (own ++ cap.map (·.1))[i]? = some x) (hr : ρ[i]? = some (.val d)) (hd : (x == ("__debug__" : Str)) = false := by decide) (hcd : (x == ("__classdict__" : Str)) = false := by decide) :
    DE (cX X scope own cap p s h fp) ρ (.Name x pos) d := de_var hi (cs.vis hi) hr hd hcd
end
section
variable {X : Cx} {scope : Scope} {own : List Str} {cap : List (Str × Nat)} {ρ : Rho} {elt iter : Expr} {pos px : Pos} {α : Type} {l : List α} {f g : α → D} {x : Str} {k : Nat} {sc : Scope} {N : List Str}
/-- [elt for x in iter], the scope's facts by their check -/
theorem dc_mapW (h1 : X.env.scope = sc) (h2 : X.N = N) (hcs : csOk scope own cap sc N = true) (hc : X.calm = true) (hk : own[k]? = some x) (hi : DI0 X (.Name x px) ρ iter (l.map g)) (hz : l.length ≤ sizeLine)
    (he : CS X scope own cap → ∀ a ∈ l, ∀ p s h fp, DE (cX X scope own cap p s h fp) ((cR own cap ρ).set k (.val (g a))) elt (f a))
    (hs : ∀ x, foldedSetIterable iter X.env x = pure x := by intro _; rfl) : DC X ρ (.ListComp elt [⟨.Name x px, iter, [], 0⟩] scope pos) (l.map f) :=
  dc_map (CS.of sc N h1 h2 hcs) hc hk hi hz (he (CS.of sc N h1 h2 hcs)) hs
end
section
variable {X : Cx} {scope : Scope} {own : List Str} {cap : List (Str × Nat)} {ρ : Rho} {elt iter iter2 : Expr} {pos px py tp : Pos} {α β : Type} {l : List α} {m : α → List β} {g g1 g2 g3 : α → D} {h : β → D} {x y z : Str} {k k2 k3 : Nat} {sc : Scope} {N : List Str}
theorem cR_nil (hk : own[k]? = some x) : (cR own cap ρ)[k]? = some .nil := by
  have hown := (List.getElem?_eq_some_iff.mp hk).1
  unfold cR
  rw [List.getElem?_append_left (by simpa using hown), List.getElem?_map, hk]; rfl
theorem dg_c {p : List (Addr × Obj)} {s : Shared} {H : Hp} {fp : List Addr} {ρ : Rho} {d : D} (cs : CS X scope own cap) (hk : own[k]? = some x) : DG (cX X scope own cap p s H fp) (.Name x px) ρ d (ρ.set k (.val d)) [k] :=
  PG.weak (cg cs hk) fun v σ H Q ⟨S, ve, r, q⟩ => q _ (ve.set r) ⟨by simp, fun i hi => by
      rw [List.getElem?_set_ne]
      intro z; exact hi (by simp [z])⟩
theorem flat_flat {f : α → β → D} : (l.map fun a => ((m a).map fun b => [f a b]).flatten).flatten = l.flatMap fun a => (m a).map (f a) := by
  rw [List.flatMap_def]
  congr 1
  refine List.map_congr_left fun a _ => flat_single
/-- [elt for x in iter for y in iter2] -/
theorem dc_flat {f : α → β → D} (h1 : X.env.scope = sc) (h2 : X.N = N) (hcs : csOk scope own cap sc N = true) (hc : X.calm = true) (hk : own[k]? = some x) (hk2 : own[k2]? = some y) (hne : k ≠ k2) (hi : DI0 X (.Name x px) ρ iter (l.map g))
    (hz : (l.flatMap fun a => (m a).map (f a)).length ≤ sizeLine)
    (hi2 : CS X scope own cap → ∀ a ∈ l, ∀ p s H fp, DI0 (cX X scope own cap p s H fp) (.Name y py) ((cR own cap ρ).set k (.val (g a))) iter2 ((m a).map h))
    (he : CS X scope own cap → ∀ a ∈ l, ∀ b ∈ m a, ∀ p s H fp, DE (cX X scope own cap p s H fp) (((cR own cap ρ).set k (.val (g a))).set k2 (.val (h b))) elt (f a b))
    (hs : ∀ x, foldedSetIterable iter X.env x = pure x := by intro _; rfl) (hs2 : ∀ (p : List (Addr × Obj)) (s : Shared) (H : Hp) (fp : List Addr) (x : Value), foldedSetIterable iter2 (cX X scope own cap p s H fp).env x = pure x := by intros; rfl) :
    DC X ρ (.ListComp elt [⟨.Name x px, iter, [], 0⟩, ⟨.Name y py, iter2, [], 0⟩] scope pos) (l.flatMap fun a => (m a).map (f a)) := by
  have cs := CS.of sc N h1 h2 hcs
  rw [← flat_flat] at hz ⊢
  refine dc_comp (ks := [k]) (outs := l.map fun a => ((m a).map fun b => [f a b]).flatten) cs hc hi (fun j hj => ?_) (by simp) hz (fun i d out q1 q2 => ?_) hs
  · have e : j = k := by simpa using hj
    subst e
    exact cR_nil hk
  · obtain ⟨a, ea, rfl⟩ := getmap q1
    obtain ⟨a', ea', rfl⟩ := getmap q2
    rw [ea] at ea'; cases ea'
    have ha := List.mem_of_getElem? ea
    refine ⟨_, true, fun p s H fp => dg_c cs hk, fun p s H fp => dts_nil, fun _ p s H fp acc => ?_, fun z => nomatch z⟩
    refine db_nest (Y := cX X scope own cap p s H fp) (ks := [k2]) (n := 0) rfl hc (fun _ _ z => z) (hi2 cs a ha p s H fp) (fun j hj => ?_) (by simp) (fun i d out q1 q2 => ?_) (hs2 p s H fp)
    · have e : j = k2 := by simpa using hj
      subst e
      rw [List.getElem?_set_ne hne]
      exact cR_nil hk2
    · obtain ⟨b, eb, rfl⟩ := getmap q1
      obtain ⟨b', eb', rfl⟩ := getmap q2
      rw [eb] at eb'; cases eb'
      exact ⟨_, true, dg_c cs hk2, dts_nil, fun _ => db_emit (Y := cX X scope own cap p s H fp) (he cs a ha b (List.mem_of_getElem? eb) p s H fp), fun z => nomatch z⟩
/-- [elt for x, y in iter] -/
theorem dc_map2 {f : α → D} {j} (h1 : X.env.scope = sc) (h2 : X.N = N) (hcs : csOk scope own cap sc N = true) (hc : X.calm = true) (hk : own[k]? = some x) (hk2 : own[k2]? = some y) (hi : DI0 X (.Tuple [.Name x px, .Name y py] j tp) ρ iter (l.map fun a => .tup [g1 a, g2 a])) (hz : l.length ≤ sizeLine)
    (he : CS X scope own cap → ∀ a ∈ l, ∀ p s H fp, DE (cX X scope own cap p s H fp) (((cR own cap ρ).set k (.val (g1 a))).set k2 (.val (g2 a))) elt (f a))
    (hs : ∀ x, foldedSetIterable iter X.env x = pure x := by intro _; rfl) : DC X ρ (.ListComp elt [⟨.Tuple [.Name x px, .Name y py] j tp, iter, [], 0⟩] scope pos) (l.map f) := by
  have cs := CS.of sc N h1 h2 hcs
  rw [← flat_single]
  refine dc_comp (ks := [k] ++ ([k2] ++ [])) (outs := l.map fun a => [f a]) cs hc hi (fun i hj => ?_) (by simp) (by rw [flat_single, List.length_map]; exact hz) (fun i d out q1 q2 => ?_) hs
  · simp only [List.append_nil, List.cons_append, List.nil_append, List.mem_cons, List.not_mem_nil, or_false] at hj
    rcases hj with rfl | rfl
    · exact cR_nil hk
    · exact cR_nil hk2
  · obtain ⟨a, ea, rfl⟩ := getmap q1
    obtain ⟨a', ea', rfl⟩ := getmap q2
    rw [ea] at ea'; cases ea'
    exact ⟨_, true, fun p s H fp => dg_tup (X := cX X scope own cap p s H fp) hc (dgs_cons (dg_c cs hk) (dgs_cons (dg_c cs hk2) dgs_nil)) rfl, fun p s H fp => dts_nil, fun _ p s H fp acc => db_emit (Y := cX X scope own cap p s H fp) (he cs a (List.mem_of_getElem? ea) p s H fp), fun z => nomatch z⟩
end
theorem zipD_ints : ∀ {ks ns : List Int}, zipD (ks.map .int) (ns.map .int) = (ks.zip ns).map fun p => .tup [.int p.1, .int p.2]
  | [], _ => by simp [zipD]
  | _ :: _, [] => by simp [zipD]
  | k :: ks, n :: ns => by simp [zipD, zipD_ints]
theorem zipD_zip {α β : Type} {g : α → D} {h : β → D} : ∀ {as : List α} {bs : List β}, zipD (as.map g) (bs.map h) = (as.zip bs).map fun p => .tup [g p.1, h p.2]
  | [], _ => by simp [zipD]
  | _ :: _, [] => by simp [zipD]
  | a :: as, b :: bs => by simp [zipD, zipD_zip]
/-! ### parts of the text -/
def stN (l : List Stmt) (i : Nat) : Stmt := l.getD i (.Pass ⟨0, 0, 0, 0⟩)
def retE : Stmt → Expr
  | .Return (some e) _ => e
  | .Assign _ e _ => e
  | _ => .Constant .none 0 ⟨0, 0, 0, 0⟩
def compSc : Expr → Scope
  | .ListComp _ _ s _ => s
  | .DictComp _ _ _ s _ => s
  | .Call _ (.ListComp _ _ s _ :: _) _ _ => s
  | _ => { kind := .function, names := [], isGenerator := false, isCoroutine := false }
/-- 0, 1, .. as ints -/
def kNats (n : Int) : List Int := (List.range n.toNat).map fun k : Nat => (k : Int)
theorem upto_ints (n : Int) : upto n.toNat = (kNats n).map D.int := by simp [upto, kNats]
theorem kNats_len (n : Nat) : (kNats n).length = n := by simp [kNats]
theorem mem_kNats {n k : Int} (h : k ∈ kNats n) : 0 ≤ k ∧ k < n := by
  obtain ⟨i, hi, rfl⟩ := List.mem_map.mp h
  have := List.mem_range.mp hi
  omega
theorem di_rangeK {X : Cx} {tg a : Expr} {ρ : Rho} {j : Int} {p pos : Pos} (hg : Gl X "range") (hm : X.mg "range" = none) (ha : DA X ρ [a] [.int j]) (h1 : -(2 ^ 62) ≤ j) (h2 : j < 2 ^ 62) (hs : starEach [a] X.env = [(false, eval a X.env)] := by rfl) : DI X tg ρ (.Call (.Name "range" p) [a] [] pos) ((kNats j).map D.int) := by
  rw [← upto_ints]
  exact di_range hg hm ha h1 h2 hs
theorem sz {n : Nat} (h : n ≤ 1000) : n ≤ sizeLine := Nat.le_trans h (by decide)
theorem DE.to {X : Cx} {ρ : Rho} {e : Expr} {d d' : D} (h : DE X ρ e d) (q : d = d') : DE X ρ e d' := q ▸ h
theorem DT.to {X : Cx} {ρ : Rho} {e : Expr} {d d' : Bool} (h : DT X ρ e d) (q : d = d') : DT X ρ e d' := q ▸ h
theorem DE.tru {X : Cx} {ρ : Rho} {e : Expr} {c : Prop} [Decidable c] (h : DE X ρ e (.bl (decide c))) (q : c) : DE X ρ e (.bl true) := h.to (by rw [decide_eq_true q])
theorem Sq.l {xs : List D} : Sq (.lst xs) xs := .lst xs
theorem Sq.t {xs : List D} : Sq (.tup xs) xs := .tup xs
abbrev intsD (ns : List Int) : List D := ns.map .int
abbrev tupI (ns : List Int) : D := .tup (ns.map .int)
theorem cmR {i j : Int} (h1 : -(2 ^ 64) < j) (h2 : j < 2 ^ 64) : CMul i j := .inr ⟨h1, h2⟩
theorem cmL {i j : Int} (h1 : -(2 ^ 64) < i) (h2 : i < 2 ^ 64) : CMul i j := .inl ⟨h1, h2⟩
/-- the last one walked, as a slot -/
def lastS {α : Type} (g : α → D) (z : Sl) (done : List α) : Sl := match done.getLast? with | some a => .val (g a) | none => z
theorem lastS_nil {α : Type} {g : α → D} {z : Sl} : lastS g z [] = z := rfl
theorem lastS_snoc {α : Type} {g : α → D} {z : Sl} {done : List α} {a : α} : lastS g z (done ++ [a]) = .val (g a) := by unfold lastS; simp
/-- a for over data, by the slots R behind each turn -/
theorem forO_by {X : Cx} {tg : Expr} {body : List Stmt} {α : Type} {g : α → D} (R : List α → Rho) (all : List α)
    (h : ∀ (done : List α) (a : α) (rest : List α), all = done ++ a :: rest → ∃ ρ1 ks ρ2, DG X tg (R done) (g a) ρ1 ks ∧ TgOk (R done) ρ1 ks ∧ DSs X ρ1 body (.nx ρ2) ∧ ρ2 = R (done ++ [a])) :
    ForO X tg body (all.map g) (R []) (.nx (R all)) := by
  have go : ∀ (l done : List α), all = done ++ l → ForO X tg body (l.map g) (R done) (.nx (R (done ++ l))) := by
    intro l
    induction l with
    | nil => intro done _; rw [List.append_nil]; exact .nil _
    | cons a l ih =>
      intro done e
      obtain ⟨ρ1, ks, ρ2, h1, h2, h3, rfl⟩ := h done a l e
      have := ih (done ++ [a]) (by rw [e, List.append_assoc]; rfl)
      rw [List.append_assoc] at this
      exact .cons h1 h2 h3 this
  have := go all [] rfl
  exact this

/-! ### slots forgotten -/
def Wk (ρ ρ' : Rho) : Prop := ρ'.length = ρ.length ∧ ∀ (i : Nat) (x : Sl), ρ'[i]? = some x → x = .any ∨ ρ[i]? = some x
theorem Wk.refl {ρ : Rho} : Wk ρ ρ := ⟨rfl, fun _ _ h => .inr h⟩
theorem Wk.nil : Wk [] [] := Wk.refl
theorem Wk.same {ρ ρ' : Rho} {x : Sl} (h : Wk ρ ρ') : Wk (x :: ρ) (x :: ρ') := ⟨by simp [h.1], fun i y e => by
  cases i with
  | zero => exact .inr e
  | succ i => exact h.2 i y e⟩
theorem Wk.any {ρ ρ' : Rho} {x : Sl} (h : Wk ρ ρ') : Wk (x :: ρ) (.any :: ρ') := ⟨by simp [h.1], fun i y e => by
  cases i with
  | zero => cases e; exact .inl rfl
  | succ i => exact h.2 i y e⟩
theorem Wk.cons {ρ ρ' : Rho} {x y : Sl} (q : x = y) (h : Wk ρ ρ') : Wk (x :: ρ) (y :: ρ') := q ▸ h.same
theorem Fm.wk {K : PySem.W.Frag} {H₀ H : Hp} {S₀ S : Ad} {ρ ρ' : Rho} {σ : St} (w : Wk ρ ρ') (f : Fm K H₀ S₀ H S ρ σ) : Fm K H₀ S₀ H S ρ' σ := by
  have go : ∀ (i : Nat) (x : Sl), ρ'[i]? = some x → x.owns → ρ[i]? = some x := fun i x h o => by
    rcases w.2 i x h with z | z
    · rw [z] at o; exact o.elim
    · exact z
  refine ⟨⟨w.1.trans f.ve.len, fun i x h => ?_, fun i j x y a hij h1 h2 o1 o2 => f.ve.dist i j x y a hij (go i x h1 o1) (go j y h2 o2) o1 o2, f.ve.dom⟩, f.ext, f.sub, f.new, f.dm, fun i x a h o => f.own i x a (go i x h o) o⟩
  rcases w.2 i x h with z | z
  · subst z
    have hi := (List.getElem?_eq_some_iff.mp h).1
    have hi' : i < σ.length := by rw [← f.ve.len, ← w.1]; exact hi
    exact ⟨σ[i], by simp [hi'], trivial⟩
  · exact f.ve.rel i x z
section
variable {X : Cx} {ρ ρ' ρ1 : Rho} {sts : List Stmt} {st : Stmt} {o : Out}
theorem dss_pre (w : Wk ρ ρ') (h : DSs X ρ' sts o) : DSs X ρ sts o := PSs.weak h fun E σ H ⟨H₀, S₀, S, f, k⟩ => ⟨H₀, S₀, S, f.wk w, k⟩
theorem dss_post (h : DSs X ρ sts (.nx ρ1)) (w : Wk ρ1 ρ') : DSs X ρ sts (.nx ρ') := PSs.weak h fun E σ H ⟨H₀, S₀, S, f, k⟩ => ⟨H₀, S₀, S, f, fun σ' H' S' f' => k σ' H' S' (f'.wk w)⟩
theorem ds_pre (w : Wk ρ ρ') (h : DS X ρ' st o) : DS X ρ st o := PS.weak h fun E σ H ⟨H₀, S₀, S, f, k⟩ => ⟨H₀, S₀, S, f.wk w, k⟩
theorem ds_post (h : DS X ρ st (.nx ρ1)) (w : Wk ρ1 ρ') : DS X ρ st (.nx ρ') := PS.weak h fun E σ H ⟨H₀, S₀, S, f, k⟩ => ⟨H₀, S₀, S, f, fun σ' H' S' f' => k σ' H' S' (f'.wk w)⟩
/-- a for over data, by the slots R, those not needed forgotten -/
theorem ds_forW {tg iter : Expr} {body : List Stmt} {α : Type} {g : α → D} {pos : Pos} (hp : PassesOwn (model X.prog X.w) X.A X.env X.xe) (hc : X.calm = true) (R : List α → Rho) (all : List α) (hi : DI X tg (R []) iter (all.map g)) (w0 : Wk ρ (R []))
    (h : ∀ (done : List α) (a : α) (rest : List α), all = done ++ a :: rest → ∃ ρ1 ks ρ2, DG X tg (R done) (g a) ρ1 ks ∧ TgOk (R done) ρ1 ks ∧ DSs X ρ1 body (.nx ρ2) ∧ Wk ρ2 (R (done ++ [a])))
    (hs : ∀ x, foldedSetIterable iter X.env x = pure x := by intro _; rfl) : DS X ρ (.For tg iter body [] pos) (.nx (R all)) :=
  ds_pre w0 (ds_for hp hc hi (forO_by R all fun done a rest e => by
    obtain ⟨ρ1, ks, ρ2, h1, h2, h3, h4⟩ := h done a rest e
    exact ⟨ρ1, ks, _, h1, h2, dss_post h3 h4, rfl⟩) hs)
end
theorem DSs.to {X : Cx} {ρ : Rho} {sts : List Stmt} {o o' : Out} (h : DSs X ρ sts o) (q : o = o') : DSs X ρ sts o' := q ▸ h

/-! ### a list of one's own is read by code whose value holds no list -/
mutual
def noLst : D → Bool
  | .non => true | .bl _ => true | .int _ => true | .str _ => true | .ty _ => true | .cl _ => false
  | .tup xs => noLstL xs | .lst _ => false | .ins _ fs => noLstF fs | .exc _ _ => false | .dct _ => false
def noLstL : List D → Bool
  | [] => true
  | x :: xs => noLst x && noLstL xs
def noLstF : List (Str × D) → Bool
  | [] => true
  | (_, x) :: xs => noLst x && noLstF xs
end
section
variable {K : PySem.W.Frag} {H : Hp} {S : Ad} {a : Addr} {us : List V}
mutual
theorem Rds.addL (ha : H a = some (.lst us)) : ∀ (d : D) {v : V}, noLst d = true → Rds K H S d v → Rds K H (S.and a) d v
  | .non, _, _, r => by cases r; exact .non
  | .bl b, _, _, r => by cases r; exact .bl b
  | .int i, _, _, r => by cases r; exact .int i
  | .str x, _, _, r => by cases r; exact .str x
  | .ty n, _, _, r => by cases r; exact .ty n
  | .cl _, _, h, _ => nomatch h
  | .lst _, _, h, _ => nomatch h
  | .exc _ _, _, h, _ => nomatch h
  | .dct _, _, h, _ => nomatch h
  | .tup xs, _, h, r => by
    cases r with
    | tup e n r => exact .tup e (fun z => z.elim n fun q => by rw [q, ha] at e; cases e) (RdsL.addL ha xs h r)
  | .ins C fs, _, h, r => by
    cases r with
    | ins e n r => exact .ins e (fun z => z.elim n fun q => by rw [q, ha] at e; cases e) (RdsF.addL ha fs h r)
theorem RdsL.addL (ha : H a = some (.lst us)) : ∀ (ds : List D) {vs : List V}, noLstL ds = true → RdsL K H S ds vs → RdsL K H (S.and a) ds vs
  | [], _, _, r => by cases r; exact .nil
  | d :: ds, _, h, r => by
    have h' : noLst d = true ∧ noLstL ds = true := by simpa [noLstL] using h
    cases r with
    | cons r t => exact .cons (Rds.addL ha d h'.1 r) (RdsL.addL ha ds h'.2 t)
theorem RdsF.addL (ha : H a = some (.lst us)) : ∀ (ds : List (Str × D)) {vs : List (Str × V)}, noLstF ds = true → RdsF K H S ds vs → RdsF K H (S.and a) ds vs
  | [], _, _, r => by cases r; exact .nil
  | (n, d) :: ds, _, h, r => by
    have h' : noLst d = true ∧ noLstF ds = true := by simpa [noLstF] using h
    cases r with
    | cons r t => exact .cons (Rds.addL ha d h'.1 r) (RdsF.addL ha ds h'.2 t)
end
end
theorem noLst_ints : ∀ ks : List Int, noLstL (ks.map .int) = true
  | [] => rfl
  | k :: ks => by show (true && noLstL (ks.map .int)) = true; rw [noLst_ints ks]; rfl
theorem VE.give2 {K : PySem.W.Frag} {H : Hp} {S : Ad} {ρ : Rho} {σ : St} {i : Nat} {xs : List D} (f : VE K H S ρ σ) (hr : ρ[i]? = some (.own xs)) : ∃ S' a us, H a = some (.lst us) ∧ (∀ b, S b → S' b ∨ b = a) ∧ VE K H S' (ρ.set i (.val (.lst xs))) σ := by
  obtain ⟨v, q1, a, vs, rfl, sa, ha, r⟩ := f.rel i _ hr
  have hi := (List.getElem?_eq_some_iff.mp hr).1
  have own_ne : ∀ (m : Nat) (x : Sl) (c : Addr), i ≠ m → ρ[m]? = some x → x.owns → σ[m]? = some (some (.ref c)) → c ≠ a := fun m x c hm h ho hs z => f.dist i m _ x a hm hr h trivial ho q1 (by rw [hs, z])
  refine ⟨fun b => S b ∧ b ≠ a, a, vs, ha, fun b h => (Classical.em (b = a)).elim .inr fun n => .inl ⟨h, n⟩, ⟨by simpa using f.len, fun j x h => ?_, fun j k x y b hjk h1 h2 o1 o2 h3 => ?_, fun b h => f.dom b h.1⟩⟩
  · by_cases hj : i = j
    · subst hj
      rw [List.getElem?_set_self hi] at h
      cases h
      exact ⟨_, q1, _, rfl, .lst (.inl ha) (fun z => z.2 rfl) (r.av fun b h => .inl h.1)⟩
    · rw [List.getElem?_set_ne hj] at h
      obtain ⟨v, h1, h2⟩ := f.rel j x h
      refine ⟨v, h1, ?_⟩
      cases x with
      | nil => exact h2
      | any => trivial
      | val d => obtain ⟨u, p, r⟩ := h2; exact ⟨u, p, r.av fun b h => .inl h.1⟩
      | own zs => exact RO.av (x := .own zs) (fun b h => .inl h.1) (fun b z s => ⟨s, own_ne j _ b hj h trivial (by rw [h1, z])⟩) h2
      | new C y dx fs => exact RO.av (x := .new C y dx fs) (fun b h => .inl h.1) (fun b z s => ⟨s, own_ne j _ b hj h trivial (by rw [h1, z])⟩) h2
  · have n1 : i ≠ j := fun z => by
      subst z
      rw [List.getElem?_set_self hi] at h1; cases h1; exact o1
    have n2 : i ≠ k := fun z => by
      subst z
      rw [List.getElem?_set_self hi] at h2; cases h2; exact o2
    rw [List.getElem?_set_ne n1] at h1
    rw [List.getElem?_set_ne n2] at h2
    exact f.dist j k x y b hjk h1 h2 o1 o2 h3
theorem de_readN {X : Cx} {ρ : Rho} {e : Expr} {d : D} {i : Nat} {xs : List D} (hr : ρ[i]? = some (.own xs)) (hf : noLst d = true) (h : DE X (ρ.set i (.val (.lst xs))) e d) : DE X ρ e d := PE.weak h fun σ H Q ⟨S, ve, k⟩ => by
  obtain ⟨S', a, us, ha, hS, ve'⟩ := ve.give2 hr
  refine ⟨S', ve', fun v H' ex r => k v H' ex ?_⟩
  exact (Rds.addL (ex _ _ (fun z => z) ha) d hf r).av fun b h => .inl (hS b h)
end CT

set_option Elab.async false
set_option linter.all false
set_option maxRecDepth 100000
/-! zip of three; while; any of ints; min, max, range(a, b), ** over data -/
namespace CT
open PySem PySem.Spec L2
open PyProof.Rows hiding St

theorem sub5 {α : Type} {a b c d e f x : α} (h : x ∈ [a, c, d, e, f]) : x ∈ [a, b, c, d, e, f] := by
  simp only [List.mem_cons, List.not_mem_nil, or_false] at h ⊢
  rcases h with h | h | h | h | h <;> simp [h]
theorem turn_zip3 {P : Program} {w : World} {K : PySem.W.Frag} {elts : List Expr} {x1} {pos : Pos} {z TI TO i1 i2 i3 a1 a2 a3 : Addr} {b1 b2 b3 : Bool} (nd : [z, TI, TO, i1, i2, i3].Nodup) :
    Turn P w K (.Tuple elts x1 pos) (Itz3 K b1 b2 b3 a1 a2 a3) [z, TI, TO, i1, i2, i3] z
      (fun i h => IsZip h z TI TO .none ∧ IsTupAt h TI #[.ref i1, .ref i2, .ref i3] ∧ (∃ ts, IsTupAt h TO ts ∧ ts.size = 3) ∧ Sit h b1 i1 a1 i ∧ Sit h b2 i2 a2 i ∧ Sit h b3 i3 a3 i) where
  mem := by simp
  obj := fun i h ⟨q1, q2, ⟨ts, q3, _⟩, q4, q5, q6⟩ b hb => by
    simp only [List.mem_cons, List.not_mem_nil, or_false] at hb
    rcases hb with rfl | rfl | rfl | rfl | rfl | rfl
    · exact ⟨_, q1, fun v e => by have e' : Data.fields _ = Data.cell v := e; cases e'⟩
    · exact ⟨_, q2, fun v e => by have e' : Data.seq _ _ = Data.cell v := e; cases e'⟩
    · exact ⟨_, q3, fun v e => by have e' : Data.seq _ _ = Data.cell v := e; cases e'⟩
    · obtain ⟨o, n, vs, e, _, d⟩ := q4.rec
      exact ⟨o, e, fun v e => by rw [d] at e; cases e⟩
    · obtain ⟨o, n, vs, e, _, d⟩ := q5.rec
      exact ⟨o, e, fun v e => by rw [d] at e; cases e⟩
    · obtain ⟨o, n, vs, e, _, d⟩ := q6.rec
      exact ⟨o, e, fun v e => by rw [d] at e; cases e⟩
  keep := fun i h h' ⟨q1, q2, ⟨ts, q3, q3'⟩, q4, q5, q6⟩ k => ⟨k z (by simp) _ q1, k TI (by simp) _ q2, ⟨ts, k TO (by simp) _ q3, q3'⟩, q4.at fun o e => k i1 (by simp) o e, q5.at fun o e => k i2 (by simp) o e, q6.at fun o e => k i3 (by simp) o e⟩
  item := by
    intro X hP hw hK hc i pins s σ H E I hf ⟨q1, q2, ⟨ts, q3, q3'⟩, q4, q5, q6⟩ hg
    subst hP hw hK
    obtain ⟨xs, ys, us, x, y, u0, hx, hy, hu, ex, ey, eu0⟩ := hg
    obtain ⟨its, r1, p1, _⟩ := CT.Inv.sqb I hx
    obtain ⟨its2, r2, p2, _⟩ := CT.Inv.sqb I hy
    obtain ⟨its3, r3, p3, _⟩ := CT.Inv.sqb I hu
    obtain ⟨u, eu, ru⟩ := vget r1 ex
    obtain ⟨v, ev, rv⟩ := vget r2 ey
    obtain ⟨t, et, rt⟩ := vget r3 eu0
    have n1 : a1 ∉ [z, TO, i1, i2, i3] := fun m => CT.Inv.ne_fp I hx (hf a1 (sub5 m)) rfl
    have n2 : a2 ∉ [z, TO, i1, i2, i3] := fun m => CT.Inv.ne_fp I hy (hf a2 (sub5 m)) rfl
    have n3 : a3 ∉ [z, TO, i1, i2, i3] := fun m => CT.Inv.ne_fp I hu (hf a3 (sub5 m)) rfl
    refine pyNext_zip q1 (zip3_item nd n1 n2 n3 q1 q2 q3 q3' q4 q5 q6 p1 p2 p3 eu ev et fun h' z1 z2 z3 z4 z4' z5 z6 kk => ?_)
    refine ⟨_, rfl, wpAny_letOwnedTupleGo_zip z1 fun h2 z1' sb => ?_⟩
    have nT : ∀ b ∈ [z, TI, TO, i1, i2, i3], b ≠ s.heap.objs.size := fun b hb => by
      simp only [List.mem_cons, List.not_mem_nil, or_false] at hb
      rcases hb with rfl | rfl | rfl | rfl | rfl | rfl
      · exact Nat.ne_of_lt (Heap.lt_size q1)
      · exact Nat.ne_of_lt (Heap.lt_size q2)
      · exact Nat.ne_of_lt (Heap.lt_size q3)
      · obtain ⟨o, n, vs, e, _, d⟩ := q4.rec; exact Nat.ne_of_lt (Heap.lt_size e)
      · obtain ⟨o, n, vs, e, _, d⟩ := q5.rec; exact Nat.ne_of_lt (Heap.lt_size e)
      · obtain ⟨o, n, vs, e, _, d⟩ := q6.rec; exact Nat.ne_of_lt (Heap.lt_size e)
    have nd' := nd
    simp only [List.nodup_cons, List.mem_cons, List.not_mem_nil, or_false, not_or, List.nodup_nil, and_true, not_false_eq_true] at nd'
    obtain ⟨⟨zTI, zTO, zi1, zi2, zi3⟩, ⟨TITO, TIi1, TIi2, TIi3⟩, ⟨TOi1, TOi2, TOi3⟩, ⟨i12, i13⟩, i23⟩ := nd'
    have k2 : ∀ c o, c ∉ [z, TO, i1, i2, i3] → s.heap.get? c = some o → h2.get? c = some o := fun c o hc e => sb.extBut c o (fun q => hc (by simp [q])) (kk c o hc e)
    have I1 : Inv X pins σ H { s with heap := h2 } := CT.Inv.turnedL (t' := s.toks) (ch := [z, TO, i1, i2, i3]) I (fun b hb => hf b (sub5 hb)) k2
    have hT : h2.get? s.heap.objs.size = some { cls := .type "tuple", data := .seq #[u, v, t] } := sb.extBut _ _ (Ne.symm (nT z (by simp))) z5
    have I2 : Inv X pins σ (upd H s.heap.objs.size (.tup [x, y, u0])) { s with heap := h2 } := CT.Inv.adopt I1 (I.fpOk (Nat.le_refl _) (I.hok.fresh (Nat.le_refl _)))
      ⟨by show 3 ≤ sizeLine; decide, [u, v, t], .cons ru (.cons rv (.cons rt .nil)), _, hT, rfl, _, rfl⟩
    refine ⟨.ref s.heap.objs.size, _, I2, rfl, ⟨_, x, y, u0, I.hok.fresh (Nat.le_refl _), rfl, rfl, fun xs' h' => by rw [CT.Inv.sqb_inj I h' hx]; exact ex, fun ys' h' => by rw [CT.Inv.sqb_inj I h' hy]; exact ey, fun us' h' => by rw [CT.Inv.sqb_inj I h' hu]; exact eu0⟩, ?_, fun b hb => ?_⟩
    · refine ⟨z1', k2 _ _ (by simp [Ne.symm zTI, TITO, TIi1, TIi2, TIi3]) q2, ⟨#[u, v, t], sb.extBut _ _ (Ne.symm zTO) z2, rfl⟩, z3.at fun o e => sb.extBut _ _ (Ne.symm zi1) e, z4.at fun o e => sb.extBut _ _ (Ne.symm zi2) e, z4'.at fun o e => sb.extBut _ _ (Ne.symm zi3) e⟩
    · rw [upd_ne (nT b hb)]; exact (hf b hb).1
  done := by
    intro X hP hw hK hc i pins s σ H E I hf ⟨q1, q2, ⟨ts, q3, q3'⟩, q4, q5, q6⟩ hg
    subst hP hw hK
    obtain ⟨xs, ys, us, hx, hy, hu, he⟩ := hg
    obtain ⟨its, r1, p1, _⟩ := CT.Inv.sqb I hx
    obtain ⟨its2, r2, p2, _⟩ := CT.Inv.sqb I hy
    obtain ⟨its3, r3, p3, _⟩ := CT.Inv.sqb I hu
    have n1 : a1 ∉ [z, TO, i1, i2, i3] := fun m => CT.Inv.ne_fp I hx (hf a1 (sub5 m)) rfl
    have n2 : a2 ∉ [z, TO, i1, i2, i3] := fun m => CT.Inv.ne_fp I hy (hf a2 (sub5 m)) rfl
    have n3 : a3 ∉ [z, TO, i1, i2, i3] := fun m => CT.Inv.ne_fp I hu (hf a3 (sub5 m)) rfl
    refine pyNext_zip q1 (zip3_end (I.ok.hd hc) nd n1 n2 n3 q1 q2 q3 q3' q4 q5 q6 p1 p2 p3 (he.imp (vend r1) fun z => z.imp (vend r2) (vend r3)) fun h' e kk ⟨o, ho, hcls⟩ => ⟨e, o, rfl, ho, hcls, rfl, ?_⟩)
    exact CT.Inv.turnedL (t' := s.toks) (ch := [z, TO, i1, i2, i3]) I (fun b hb => hf b (sub5 hb)) kk
  self := fun _ _ _ _ _ ⟨q1, _⟩ h => wpAny_pyIter_zip q1 h
section
variable {X : Cx} {elts : List Expr} {tpos : Pos}
theorem pi_zip3 {a b c : Expr} {ta : TA} {k} {p pos : Pos} (hg : Gl X "zip") (hm : X.mg "zip" = none) (ha : PA X [a, b, c] ta) (hs : starEach [a, b, c] X.env = [(false, eval a X.env), (false, eval b X.env), (false, eval c X.env)] := by rfl)
    (hs2 : starEach [b, c] X.env = [(false, eval b X.env), (false, eval c X.env)] := by rfl) : PI X (.Tuple elts k tpos) (.Call (.Name "zip" p) [a, b, c] [] pos) (iZip3 X.K ta) := by
  intro pins s σ H R I h
  refine Call_ (ld_blt I hg hm boot_zip (PyProof.Rows.callWith_type1 (thn (ha pos pins s σ H _ I h) fun us s1 ⟨vs, H1, I1, r1, q1⟩ => ?_) (by rw [hs, hs2]) (by rw [hs2]; rfl)))
  obtain ⟨b1, b2, b3, a1, a2, a3, xs, ys, us', e, hx, hy, hu, q⟩ := q1
  subst e
  cases r1 with
  | cons r rr =>
    cases rr with
    | cons r' rr =>
      cases rr with
      | cons r'' rr =>
        cases rr
        cases r
        cases r'
        cases r''
        obtain ⟨its, rv1, p1, _⟩ := CT.Inv.sqb I1 hx
        obtain ⟨its2, rv2, p2, _⟩ := CT.Inv.sqb I1 hy
        obtain ⟨its3, rv3, p3, _⟩ := CT.Inv.sqb I1 hu
        refine call_zip3S p1 p2 p3 fun h' x1 x2 x3 x4 x5 x5' x6 x7 => ?_
        refine wpAny_pyIter_zip x3 ?_
        refine ⟨_, _, _, _, H1, rfl, I1.kept (t' := s1.toks) x6, turn_zip3 (TI := s1.heap.objs.size + 3) (TO := s1.heap.objs.size + 4) (i1 := s1.heap.objs.size) (i2 := s1.heap.objs.size + 1) (i3 := s1.heap.objs.size + 2) (by simp), ⟨x3, x1, ⟨_, x2, rfl⟩, x4, x5, x5'⟩, fun b hb => ?_, q⟩
        have hle : s1.heap.objs.size ≤ b := by
          simp only [List.mem_cons, List.not_mem_nil, or_false] at hb
          rcases hb with rfl | rfl | rfl | rfl | rfl | rfl <;> omega
        exact I1.fpOk hle (I1.hok.fresh hle)
end
theorem RdsL.three {K : PySem.W.Frag} {H : Hp} {S : Ad} {d e f : D} {vs : List V} (r : RdsL K H S [d, e, f] vs) : ∃ v u t, vs = [v, u, t] ∧ Rds K H S d v ∧ Rds K H S e u ∧ Rds K H S f t := by
  cases r with | cons r t => obtain ⟨u, w, rfl, q1, q2⟩ := t.two; exact ⟨_, _, _, rfl, r, q1, q2⟩
def zipD3 : List D → List D → List D → List D
  | x :: xs, y :: ys, z :: zs => .tup [x, y, z] :: zipD3 xs ys zs
  | _, _, _ => []
theorem zipD3_get : ∀ {xs ys zs : List D} {i : Nat} {d : D}, (zipD3 xs ys zs)[i]? = some d → ∃ x y z, xs[i]? = some x ∧ ys[i]? = some y ∧ zs[i]? = some z ∧ d = .tup [x, y, z]
  | x :: xs, y :: ys, z :: zs, 0, d, h => by
    simp [zipD3] at h
    exact ⟨x, y, z, rfl, rfl, rfl, h.symm⟩
  | x :: xs, y :: ys, z :: zs, i + 1, d, h => by
    simp [zipD3] at h
    obtain ⟨x', y', z', h1, h2, h3, h4⟩ := zipD3_get h
    exact ⟨x', y', z', by simpa using h1, by simpa using h2, by simpa using h3, h4⟩
  | [], _, _, _, _, h => by simp [zipD3] at h
  | _ :: _, [], _, _, _, h => by simp [zipD3] at h
  | _ :: _, _ :: _, [], _, _, h => by simp [zipD3] at h
theorem zipD3_len : ∀ {xs ys zs : List D}, (zipD3 xs ys zs).length = min xs.length (min ys.length zs.length)
  | x :: xs, y :: ys, z :: zs => by simp [zipD3, zipD3_len]
  | [], _, _ => by simp [zipD3]
  | _ :: _, [], _ => by simp [zipD3]
  | _ :: _, _ :: _, [] => by simp [zipD3]
section
variable {X : Cx} {ρ : Rho} {pos p tpos : Pos} {a b c : Expr}
theorem di_zip3 {da db dc : D} {xs ys zs : List D} {elts : List Expr} {k} (hg : Gl X "zip") (hm : X.mg "zip" = none) (qa : Sq da xs) (qb : Sq db ys) (qc : Sq dc zs) (ha : DA X ρ [a, b, c] [da, db, dc])
    (hs : starEach [a, b, c] X.env = [(false, eval a X.env), (false, eval b X.env), (false, eval c X.env)] := by rfl) (hs2 : starEach [b, c] X.env = [(false, eval b X.env), (false, eval c X.env)] := by rfl) : DI X (.Tuple elts k tpos) ρ (.Call (.Name "zip" p) [a, b, c] [] pos) (zipD3 xs ys zs) :=
  PI.weak (pi_zip3 hg hm ha hs hs2) fun σ H R ⟨S, ve, kk⟩ => ⟨S, ve, fun vs H' ex rs => by
    obtain ⟨v, u, t, rfl, r1, r2, r3⟩ := rs.three
    obtain ⟨b1, a1, vs1, rfl, l1⟩ := qa.later r1
    obtain ⟨b2, a2, vs2, rfl, l2⟩ := qb.later r2
    obtain ⟨b3, a3, vs3, rfl, l3⟩ := qc.later r3
    refine ⟨b1, b2, b3, a1, a2, a3, vs1, vs2, vs3, rfl, (l1 H' S Ext.refl fun a h => .inl h).1, (l2 H' S Ext.refl fun a h => .inl h).1, (l3 H' S Ext.refl fun a h => .inl h).1, kk _ H' ex fun H2 S2 e2 z2 dm i => ?_⟩
    obtain ⟨s1, t1⟩ := l1 H2 S2 e2 z2
    obtain ⟨s2, t2⟩ := l2 H2 S2 e2 z2
    obtain ⟨s3, t3⟩ := l3 H2 S2 e2 z2
    refine ⟨fun d hd => ?_, fun hi => ⟨vs1, vs2, vs3, s1, s2, s3, ?_⟩⟩
    · obtain ⟨x, y, z, hx, hy, hz, rfl⟩ := zipD3_get hd
      obtain ⟨x', hx', rx⟩ := t1.get hx
      obtain ⟨y', hy', ry⟩ := t2.get hy
      obtain ⟨z', hz', rz⟩ := t3.get hz
      refine ⟨⟨vs1, vs2, vs3, x', y', z', s1, s2, s3, hx', hy', hz'⟩, fun w H3 yl => ?_⟩
      obtain ⟨T, x2, y2, w2, hT, rfl, rfl, g1, g2, g3⟩ := yl
      have e1 := g1 vs1 s1
      have e2' := g2 vs2 s2
      have e3' := g3 vs3 s3
      rw [hx'] at e1; cases e1
      rw [hy'] at e2'; cases e2'
      rw [hz'] at e3'; cases e3'
      exact ⟨Ext.new hT, Rds.newTup dm hT (.cons rx (.cons ry (.cons rz .nil)))⟩
    · have h1 := t1.length
      have h2 := t2.length
      have h3 := t3.length
      rw [zipD3_len] at hi
      omega⟩
end
/-- [elt for x, y, z in iter] -/
theorem dc_map3 {X : Cx} {scope : Scope} {own : List Str} {cap : List (Str × Nat)} {ρ : Rho} {elt iter : Expr} {pos px py pz tp : Pos} {α : Type} {l : List α} {g1 g2 g3 f : α → D} {x y z : Str} {k k2 k3 : Nat} {sc : Scope} {N : List Str} {j} (h1 : X.env.scope = sc) (h2 : X.N = N) (hcs : csOk scope own cap sc N = true) (hc : X.calm = true)
    (hk : own[k]? = some x) (hk2 : own[k2]? = some y) (hk3 : own[k3]? = some z) (hi : DI0 X (.Tuple [.Name x px, .Name y py, .Name z pz] j tp) ρ iter (l.map fun a => .tup [g1 a, g2 a, g3 a])) (hz : l.length ≤ sizeLine)
    (he : CS X scope own cap → ∀ a ∈ l, ∀ p s H fp, DE (cX X scope own cap p s H fp) ((((cR own cap ρ).set k (.val (g1 a))).set k2 (.val (g2 a))).set k3 (.val (g3 a))) elt (f a))
    (hs : ∀ x, foldedSetIterable iter X.env x = pure x := by intro _; rfl) : DC X ρ (.ListComp elt [⟨.Tuple [.Name x px, .Name y py, .Name z pz] j tp, iter, [], 0⟩] scope pos) (l.map f) := by
  have cs := CS.of sc N h1 h2 hcs
  rw [← flat_single]
  refine dc_comp (ks := [k] ++ ([k2] ++ ([k3] ++ []))) (outs := l.map fun a => [f a]) cs hc hi (fun i hj => ?_) (by simp) (by rw [flat_single, List.length_map]; exact hz) (fun i d out q1 q2 => ?_) hs
  · simp only [List.append_nil, List.cons_append, List.nil_append, List.mem_cons, List.not_mem_nil, or_false] at hj
    rcases hj with rfl | rfl | rfl
    · exact cR_nil hk
    · exact cR_nil hk2
    · exact cR_nil hk3
  · obtain ⟨a, ea, rfl⟩ := getmap q1
    obtain ⟨a', ea', rfl⟩ := getmap q2
    rw [ea] at ea'; cases ea'
    exact ⟨_, true, fun p s H fp => dg_tup (X := cX X scope own cap p s H fp) hc (dgs_cons (dg_c cs hk) (dgs_cons (dg_c cs hk2) (dgs_cons (dg_c cs hk3) dgs_nil))) rfl, fun p s H fp => dts_nil, fun _ p s H fp acc => db_emit (Y := cX X scope own cap p s H fp) (he cs a (List.mem_of_getElem? ea) p s H fp), fun z => nomatch z⟩

/-! ### while -/
inductive WhO (X : Cx) (c : Expr) (body : List Stmt) : Nat → Rho → Out → Prop
  | stop {n : Nat} {ρ : Rho} : DT X ρ c false → WhO X c body n ρ (.nx ρ)
  | turn {n : Nat} {ρ ρ' : Rho} {o : Out} : DT X ρ c true → DSs X ρ body (.nx ρ') → WhO X c body n ρ' o → WhO X c body (n + 1) ρ o
  | ret {n : Nat} {ρ : Rho} {o : Out} : DT X ρ c true → DSs X ρ body o → o.ends → WhO X c body n ρ o
theorem ds_while {X : Cx} {c : Expr} {body : List Stmt} {n : Nat} {ρ : Rho} {o : Out} {pos : Pos} (hp : PassesOwn (model X.prog X.w) X.A X.env X.xe) (h : WhO X c body n ρ o) : DS X ρ (.While c body [] pos) o := by
  have pc : PT X c (ttA X.K fun ρ b => DT X ρ c b) := fun pins s σ H Q I ⟨_, _, g, q⟩ => g pins s σ H Q I q
  refine PS.weak (ps_while hp pc (pss_any (sts := body))) ?_
  rintro E σ H ⟨H₀, S₀, S, f, k⟩
  refine ⟨fun m σ' H' => ∃ S' ρ', Fm X.K H₀ S₀ H' S' ρ' σ' ∧ WhO X c body m ρ' o, ⟨n, S, ρ, f, h⟩, ?_⟩
  rintro m σ' H' ⟨S', ρ', f', hw⟩
  cases hw with
  | stop hc => exact ⟨ρ', false, hc, S', f'.ve, fun H1 ex => iteF (k σ' H1 S' (f'.grow ex))⟩
  | turn hc hb hr =>
    rename_i n ρ2
    refine ⟨ρ', true, hc, S', f'.ve, fun H1 ex => iteT ⟨fun σ2 H2 => ∃ S2, Fm X.K H₀ S₀ H2 S2 ρ2 σ2, fun σ2 H2 ⟨S2, f2⟩ => ⟨n, Nat.lt_succ_self _, S2, ρ2, f2, hr⟩, ρ', _, hb, H₀, S₀, S', f'.grow ex, fun σ3 H3 S3 f3 => ⟨S3, f3⟩⟩⟩
  | ret hc hb hend =>
    refine ⟨ρ', true, hc, S', f'.ve, fun H1 ex => iteT ⟨fun _ _ => False, fun _ _ z => z.elim, ρ', o, hb, H₀, S₀, S', f'.grow ex, ?_⟩⟩
    cases o with
    | nx _ => exact hend.elim
    | rt d => exact k
    | rf xs => exact k

/-! ### more built-ins -/
section
variable {X : Cx} {ρ : Rho} {e a b : Expr} {p pos : Pos} {da : D}
theorem truth_ints {prog : Program} {w : World} {A : Around} {its : List Value} {ns : List Int} (h : IntsAre its ns) : TruthOf prog w A (fun i v => its.toArray[i]? = some v) (fun i => ns.getD i 0 != 0) := fun i v s Q E hv q => by
  have hv' : its[i]? = some v := by simpa using hv
  have go : ∀ {its : List Value} {ns : List Int} {i : Nat} {v : Value}, IntsAre its ns → its[i]? = some v → ∃ n t, ns[i]? = some n ∧ v = .int n t := by
    intro its ns i v h
    induction h generalizing i with
    | nil => intro e; simp at e
    | cons n t h ih =>
      intro e
      cases i with
      | zero => simp at e; exact ⟨n, t, rfl, e.symm⟩
      | succ i => exact ih (by simpa using e)
  obtain ⟨n, t, hn, rfl⟩ := go h hv'
  have e : ns.getD i 0 = n := by simp [hn]
  refine PyProof.Rows.truthy_int ?_
  rw [← e]
  exact q
theorem any_rangeI {ns : List Int} : (List.range ns.length).any (fun i => ns.getD i 0 != 0) = ns.any (· != 0) := by
  induction ns with
  | nil => rfl
  | cons y ys ih =>
    rw [List.length_cons, List.range_succ_eq_map, List.any_cons, List.any_map, List.any_cons]
    rw [← ih]
    rfl
theorem call_anyI (hc : X.calm = true) : CallR X (.builtin "any") (fun xs H Q => ∃ (b : Bool) (a : Addr) (ns : List Int), xs = [.ref a] ∧ SqB X.K H b a (ns.map .int) ∧ Q (.bl (ns.any (· != 0))) H) := by
  intro pins s σ H xs us Q I r h
  obtain ⟨b, a, ns, rfl, hq, q⟩ := h
  obtain ⟨u, rfl, rx⟩ := vals1 r
  cases rx
  obtain ⟨its, r', pl, hz⟩ := CT.Inv.sqb I hq
  have hi := ints_of r'
  have hl : its.length = ns.length := hi.length
  have hal : a < s.heap.objs.size := by
    cases b with
    | true => obtain ⟨o, ho, _⟩ := pl; exact Heap.lt_size ho
    | false => obtain ⟨o, ho, _⟩ := pl; exact Heap.lt_size ho
  refine call_any_walk (pyIterS pl ⟨_, _, _, _, _, _, _, rfl, walk_S (A := X.A.in1) (I.ok.hd hc) b s.heap.objs.size a (Nat.ne_of_lt hal) its.toArray, ⟨Sit.new b a, pl.at fun o e => Heap.get?_push_of_some _ e⟩, truth_ints hi, fun h' tk hk => ?_⟩)
  refine ⟨.bl (ns.any (· != 0)), H, I.kept (t' := tk) fun c o e => hk c o (by simp; exact Nat.ne_of_lt (Heap.lt_size e)) (Heap.get?_push_of_some _ e), ?_, q⟩
  show Value.bool _ = Value.bool _
  rw [List.size_toArray, hl, any_rangeI]
theorem de_anyI {ns : List Int} (hc : X.calm = true) (q : Sq da (ns.map .int)) (hg : Gl X "any") (hm : X.mg "any" = none) (ha : DA X ρ [e] [da]) (he : starEach [e] X.env = (false, eval e X.env) :: starEach [] X.env := by rfl) (hpl : (backTo pos (starEach [] X.env)).any (·.1) = false := by rfl) :
    DE X ρ (.Call (.Name "any" p) [e] [] pos) (.bl (ns.any (· != 0))) :=
  de_callB (call_anyI hc) (fun vs H S Q rs dm k => by
    obtain ⟨v, rfl, r⟩ := rs.one
    obtain ⟨c, a, us, rfl, sq, rl⟩ := q.sq r
    exact ⟨c, a, ns, rfl, by rw [← ints_V rl]; exact sq, k _ H Ext.refl (.bl _)⟩) hg hm boot_any' ha (by decide) (by decide) he hpl
theorem boot_min' : bootBuiltins "min" = some (.builtin "min") := by decide +kernel
theorem boot_max' : bootBuiltins "max" = some (.builtin "max") := by decide +kernel
theorem de_min2 {i j : Int} (hc : X.calm = true) (hg : Gl X "min") (hm : X.mg "min" = none) (ha : DA X ρ [a, b] [.int i, .int j]) (he : starEach [a, b] X.env = (false, eval a X.env) :: starEach [b] X.env := by rfl) (hpl : (backTo pos (starEach [b] X.env)).any (·.1) = false := by rfl) :
    DE X ρ (.Call (.Name "min" p) [a, b] [] pos) (.int (if j < i then j else i)) :=
  de_callB (call_min2 hc) (fun vs H S Q rs dm k => by
    obtain ⟨v, u, rfl, r1, r2⟩ := rs.two
    exact ⟨i, j, by rw [r1.intV, r2.intV], k _ H Ext.refl (.int _)⟩) hg hm boot_min' ha (by decide) (by decide) he hpl
theorem de_max2 {i j : Int} (hc : X.calm = true) (hg : Gl X "max") (hm : X.mg "max" = none) (ha : DA X ρ [a, b] [.int i, .int j]) (he : starEach [a, b] X.env = (false, eval a X.env) :: starEach [b] X.env := by rfl) (hpl : (backTo pos (starEach [b] X.env)).any (·.1) = false := by rfl) :
    DE X ρ (.Call (.Name "max" p) [a, b] [] pos) (.int (if j > i then j else i)) :=
  de_callB (call_max2 hc) (fun vs H S Q rs dm k => by
    obtain ⟨v, u, rfl, r1, r2⟩ := rs.two
    exact ⟨i, j, by rw [r1.intV, r2.intV], k _ H Ext.refl (.int _)⟩) hg hm boot_max' ha (by decide) (by decide) he hpl
theorem de_pow {i j : Int} (h : CPow i j) (ha : DE X ρ a (.int i)) (hb : DE X ρ b (.int j)) : DE X ρ (.BinOp a .Pow b pos) (.int (i ^ j.toNat)) :=
  de_op op_pow (fun x y H S Q rx ry dm k => ⟨i, j, rx.intV, ry.intV, h, k _ H Ext.refl (.int _)⟩) ha hb
/-- i, i + 1, .. below j -/
def kFrom (i j : Int) : List Int := (List.range (j - i).toNat).map fun k : Nat => i + (k : Int)
theorem di_range2 {tg : Expr} {i j : Int} (hg : Gl X "range") (hm : X.mg "range" = none) (ha : DA X ρ [a, b] [.int i, .int j]) (hb : -(2 ^ 62) ≤ i ∧ i < 2 ^ 62 ∧ -(2 ^ 62) ≤ j ∧ j < 2 ^ 62)
    (hs : starEach [a, b] X.env = [(false, eval a X.env), (false, eval b X.env)] := by rfl) (hs2 : starEach [b] X.env = [(false, eval b X.env)] := by rfl) : DI X tg ρ (.Call (.Name "range" p) [a, b] [] pos) ((kFrom i j).map D.int) :=
  PI.weak (pi_range2 hg hm ha hs hs2) fun σ H R ⟨S, ve, k⟩ => ⟨S, ve, fun vs H' ex rs => by
    obtain ⟨v, u, rfl, r1, r2⟩ := rs.two
    rw [r1.intV, r2.intV]
    refine ⟨i, j, rfl, hb, k _ H' ex fun H2 S2 e z dm m => ?_⟩
    refine ⟨fun d hd => ?_, fun hi => show _ ≤ m by simpa [kFrom] using hi⟩
    have hm : m < (j - i).toNat := by
      have := (List.getElem?_eq_some_iff.mp hd).1
      simpa [kFrom] using this
    refine ⟨hm, fun x H3 y => ?_⟩
    obtain ⟨e2, e3⟩ := y
    subst e2 e3
    have hd' : d = .int (i + (m : Int)) := by
      rw [kFrom, List.map_map, List.getElem?_map, List.getElem?_range hm] at hd
      exact (Option.some.inj hd).symm
    subst hd'
    exact ⟨Ext.refl, .int _⟩⟩
end
end CT

set_option Elab.async false
set_option linter.all false
set_option maxRecDepth 100000
set_option maxHeartbeats 400000
/-! enumerate(list) as what a loop or a comprehension walks -/
namespace CT
open PySem PySem.Spec L2
open PyProof.Rows hiding St
def Ite (K : PySem.W.Frag) (a : Addr) : It :=
  ⟨fun i H => ∃ xs x, SqB K H false a xs ∧ xs[i]? = some x,
   fun i H v H' => ∃ T x, H T = none ∧ v = .ref T ∧ H' = upd H T (.tup [.int (i : Int), x]) ∧ ∀ xs, SqB K H false a xs → xs[i]? = some x,
   fun i H => ∃ xs, SqB K H false a xs ∧ xs.length ≤ i⟩
theorem turn_enum {P : Program} {w : World} {K : PySem.W.Frag} {elts : List Expr} {x1} {pos : Pos} {e it a : Addr} (hne : e ≠ it) :
    Turn P w K (.Tuple elts x1 pos) (Ite K a) [e, it] e (fun i h => (∃ old, IsEnum h e it i old) ∧ h.IsListIter it a i) where
  mem := by simp
  obj := fun i h ⟨⟨old, q1⟩, q2⟩ b hb => by
    simp only [List.mem_cons, List.not_mem_nil, or_false] at hb
    rcases hb with rfl | rfl
    · exact ⟨_, q1, fun v z => by have z' : Data.fields _ = Data.cell v := z; cases z'⟩
    · obtain ⟨o, ho, _, hd⟩ := q2
      exact ⟨o, ho, fun v z => by rw [hd] at z; cases z⟩
  keep := fun i h h' ⟨⟨old, q1⟩, ⟨o, ho, r⟩⟩ k => ⟨⟨old, k e (by simp) _ q1⟩, ⟨o, k it (by simp) _ ho, r⟩⟩
  item := by
    intro X hP hw hK hc i pins s σ H E I hf ⟨⟨old, q1⟩, q2⟩ hg
    subst hP hw hK
    obtain ⟨xs, x, hx, ex⟩ := hg
    obtain ⟨its, r1, p1, _⟩ := CT.Inv.sqb I hx
    obtain ⟨u, eu, ru⟩ := vget r1 ex
    have hel := Heap.lt_size q1
    have hil : it < s.heap.objs.size := by obtain ⟨o, ho, _⟩ := q2; exact Heap.lt_size ho
    refine wpAny_pyNext_enum_item q1 q2 p1 eu hne fun h' z1 z2 z3 z4 kk => ?_
    refine ⟨_, rfl, wpAny_letOwnedTupleGo_enum (s := { s with heap := h', toks := s.toks + 1 }) z1 fun h2 z1' sb => ?_⟩
    have k2 : ∀ c o, c ∉ [e, it] → s.heap.get? c = some o → h2.get? c = some o := fun c o hc q => sb.extBut c o (fun z => hc (by simp [z])) (kk c o (fun z => hc (by simp [z])) (fun z => hc (by simp [z])) q)
    have I1 : Inv X pins σ H { s with heap := h2, toks := s.toks + 1 } := CT.Inv.turnedL (t' := s.toks + 1) (ch := [e, it]) I hf k2
    have hT : h2.get? s.heap.objs.size = some { cls := .type "tuple", data := .seq #[.int i s.toks, u] } := sb.extBut _ _ (Nat.ne_of_gt hel) z3
    have I2 : Inv X pins σ (upd H s.heap.objs.size (.tup [.int (i : Int), x])) { s with heap := h2, toks := s.toks + 1 } := CT.Inv.adopt I1 (I.fpOk (Nat.le_refl _) (I.hok.fresh (Nat.le_refl _)))
      ⟨by show 2 ≤ sizeLine; decide, [.int i s.toks, u], .cons ⟨_, rfl⟩ (.cons ru .nil), _, hT, rfl, _, rfl⟩
    refine ⟨.ref s.heap.objs.size, _, I2, rfl, ⟨_, x, I.hok.fresh (Nat.le_refl _), rfl, rfl, fun xs' h' => by rw [CT.Inv.sqb_inj I h' hx]; exact ex⟩, ⟨⟨_, by exact z1'⟩, ?_⟩, fun b hb => ?_⟩
    · obtain ⟨o, ho, r⟩ := z2
      exact ⟨o, sb.extBut _ _ (Ne.symm hne) ho, r⟩
    · simp only [List.mem_cons, List.not_mem_nil, or_false] at hb
      rcases hb with rfl | rfl
      · rw [upd_ne (Nat.ne_of_lt hel)]; exact (hf _ (by simp)).1
      · rw [upd_ne (Nat.ne_of_lt hil)]; exact (hf _ (by simp)).1
  done := by
    intro X hP hw hK hc i pins s σ H E I hf ⟨⟨old, q1⟩, q2⟩ hg
    subst hP hw hK
    obtain ⟨xs, hx, he⟩ := hg
    obtain ⟨its, r1, p1, _⟩ := CT.Inv.sqb I hx
    refine wpAny_pyNext_enum_end (I.ok.hd hc) q1 q2 p1 (vend r1 he) fun h' kk => ⟨rfl, ?_⟩
    exact CT.Inv.turnedL (t' := s.toks) (ch := [e, it]) I hf fun b o hb q => kk b o (fun z => hb (by simp [z])) q
  self := fun _ _ _ _ _ ⟨⟨old, q1⟩, _⟩ h => wpAny_pyIter_enum q1 h
theorem boot_enumerate : bootBuiltins "enumerate" = some (.type "enumerate") := by decide +kernel
def iEnum (K : PySem.W.Frag) (t : TA) : TI := fun σ H R => t σ H fun vs H1 => ∃ a xs, vs = [.ref a] ∧ SqB K H1 false a xs ∧ R (Ite K a) H1
theorem pi_enum {X : Cx} {elts : List Expr} {tpos : Pos} {a : Expr} {ta : TA} {k} {p pos : Pos} (hg : Gl X "enumerate") (hm : X.mg "enumerate" = none) (ha : PA X [a] ta) (hs : starEach [a] X.env = [(false, eval a X.env)] := by rfl) :
    PI X (.Tuple elts k tpos) (.Call (.Name "enumerate" p) [a] [] pos) (iEnum X.K ta) := by
  intro pins s σ H R I h
  refine Call_ (ld_blt I hg hm boot_enumerate (PyProof.Rows.callWith_type1 (thn (ha pos pins s σ H _ I h) fun us s1 ⟨vs, H1, I1, r1, q1⟩ => ?_) (by rw [hs]; rfl) rfl))
  obtain ⟨l, xs, rfl, hx, q⟩ := q1
  obtain ⟨its, rv, p1, _⟩ := CT.Inv.sqb I1 hx
  cases r1 with
  | cons r rr =>
    cases rr
    cases r
    refine call_enumerate_list p1 fun h' he hi hz hk => ?_
    refine wpAny_pyIter_enum he ?_
    refine ⟨_, _, _, _, H1, rfl, I1.kept (t' := s1.toks) hk, turn_enum (Nat.succ_ne_self _), ⟨⟨_, he⟩, hi⟩, fun b hb => ?_, q⟩
    have hle : s1.heap.objs.size ≤ b := by
      simp only [List.mem_cons, List.not_mem_nil, or_false] at hb
      rcases hb with rfl | rfl <;> omega
    exact I1.fpOk hle (I1.hok.fresh hle)
/-- (0, x), (1, y), .. -/
def enumFrom (k : Nat) : List D → List D
  | [] => []
  | x :: xs => .tup [.int (k : Int), x] :: enumFrom (k + 1) xs
theorem enumFrom_get : ∀ {xs : List D} {k i : Nat} {d : D}, (enumFrom k xs)[i]? = some d → ∃ x, xs[i]? = some x ∧ d = .tup [.int ((k + i : Nat) : Int), x]
  | x :: xs, k, 0, d, h => by
    simp [enumFrom] at h
    exact ⟨x, rfl, h.symm⟩
  | x :: xs, k, i + 1, d, h => by
    simp [enumFrom] at h
    obtain ⟨x', h1, h2⟩ := enumFrom_get h
    exact ⟨x', by simpa using h1, by rw [h2, show k + 1 + i = k + (i + 1) by omega]⟩
  | [], _, _, _, h => by simp [enumFrom] at h
theorem enumFrom_len : ∀ {xs : List D} {k : Nat}, (enumFrom k xs).length = xs.length
  | [], _ => rfl
  | x :: xs, k => by simp [enumFrom, enumFrom_len]
theorem di_enum {X : Cx} {ρ : Rho} {a : Expr} {xs : List D} {elts : List Expr} {k} {tpos p pos : Pos} (hg : Gl X "enumerate") (hm : X.mg "enumerate" = none) (ha : DA X ρ [a] [.lst xs]) (hs : starEach [a] X.env = [(false, eval a X.env)] := by rfl) :
    DI X (.Tuple elts k tpos) ρ (.Call (.Name "enumerate" p) [a] [] pos) (enumFrom 0 xs) :=
  PI.weak (pi_enum hg hm ha hs) fun σ H R ⟨S, ve, kk⟩ => ⟨S, ve, fun vs H' ex rs => by
    obtain ⟨v, rfl, r⟩ := rs.one
    obtain ⟨l, us, rfl, l1⟩ := r.later_lst
    refine ⟨l, us, rfl, (l1 H' S Ext.refl fun a h => .inl h).1, kk _ H' ex fun H2 S2 e2 z2 dm i => ?_⟩
    obtain ⟨s1, t1⟩ := l1 H2 S2 e2 z2
    refine ⟨fun d hd => ?_, fun hi => ⟨us, s1, ?_⟩⟩
    · obtain ⟨x, hx, rfl⟩ := enumFrom_get hd
      obtain ⟨x', hx', rx⟩ := t1.get hx
      refine ⟨⟨us, x', s1, hx'⟩, fun z H3 yl => ?_⟩
      obtain ⟨T, x2, hT, rfl, rfl, g1⟩ := yl
      have e1 := g1 us s1
      rw [hx'] at e1; cases e1
      rw [Nat.zero_add]
      exact ⟨Ext.new hT, Rds.newTup dm hT (.cons (.int _) (.cons rx .nil))⟩
    · have h1 := t1.length
      rw [enumFrom_len] at hi
      omega⟩
end CT

set_option Elab.async false
set_option linter.all false
set_option maxRecDepth 100000
set_option maxHeartbeats 400000
/-! THE DATA LAYER: exceptions made and read; lists put together; a comprehension of two names with a test -/
namespace CT
open PySem PySem.Spec L2
open PyProof.Rows hiding St
section
variable {X : Cx} {ρ : Rho} {k : Nat} {f C : Addr} {fd : FuncData} {ps : List Str} {x : Str} {p pos : Pos} {e o a b : Expr} {es : List Expr} {ds xs ys : List D} {d : D}
theorem de_x0 (hm : PySem.W.excIn X.K C bmV "ValueError.__new__" = true) (hk : PySem.W.keepIn X.K (.ref C) = true) (hg : Gl X x) (hx : X.mg x = some (.ref C)) (hdb : (x == ("__debug__" : Str)) = false := by decide) : DE X ρ (.Call (.Name x p) [] [] pos) (.exc C []) :=
  PE.weak (pe_x0 hm hk hg hx hdb) fun σ H Q ⟨S, ve, kk⟩ z hz => kk _ _ (Ext.new hz) (.exc0 upd_same (ve.dom.not hz))
theorem RdsF.zip {K : PySem.W.Frag} {H : Hp} {S : Ad} : ∀ {fls : List Str} {ds : List D} {vs : List V}, RdsL K H S ds vs → RdsF K H S (fls.zip ds) (fls.zip vs)
  | [], _, _, _ => .nil
  | _ :: _, _, _, .nil => .nil
  | f :: fls, _, _, .cons r t => .cons r (RdsF.zip t)
theorem de_xmk {fls : List Str} (M : XMk X.K C f) (F : FnOk X.prog X.w X.K X.mg X.base CX0 k f fd ps (spX C fls)) (hr : Room (k + 1) X.A) (hg : Gl X x) (hm : X.mg x = some (.ref C)) (hb : Binds X.K fd ps []) (ha : DA X ρ (e :: es) ds) (hl : ds.length = fls.length) (hl2 : ds.length ≤ 1000)
    (hdb : (x == ("__debug__" : Str)) = false := by decide) (he : starEach (e :: es) X.env = (false, eval e X.env) :: starEach es X.env := by rfl) (hpl : (backTo pos (starEach es X.env)).any (·.1) = false := by rfl) :
    DE X ρ (.Call (.Name x p) (e :: es) [] pos) (.exc C (fls.zip ds)) :=
  PE.weak (pe_xmk M F hr hg hm hb pass0 ha hdb he hpl) fun σ H Q ⟨S, ve, kk⟩ => ⟨S, ve, fun vs H1 ex r => ⟨by rw [← r.length]; exact hl2, fun z hz => ⟨z, vs, rfl, by rw [← r.length]; exact hl, upd_same, fun dx H' hd hne h1 h2 h3 => ⟨rfl, by
    have hd1 : H1 dx = none := by rw [upd_ne hne] at hd; exact hd
    have dm := (ve.ext ex).dom
    have e1 : Ext0 H1 H' := fun c u _ hc => by rw [h3 c (ne_of_none hc hz) (ne_of_none hc hd1), upd_ne (ne_of_none hc hz)]; exact hc
    exact kk _ H' (ex.trans e1) (.exc h1 h2 (dm.not hz) (dm.not hd1) (RdsF.zip (r.ext (e1.to S))))⟩⟩⟩⟩
/-- e.f of an exception -/
theorem de_xfld {fs : List (Str × D)} {fl : Str} (ho : DE X ρ o (.exc C fs)) (c : XCls X.K C) (n : NoAttr X.K C fl) (l : fs.lookup fl = some d) (hb : attributeBase o fl X.env (eval o X.env) = eval o X.env := by rfl) : DE X ρ (.Attribute o fl pos) d :=
  PE.weak (pe_xfld ho hb) fun σ H Q ⟨S, ve, kk⟩ => ⟨S, ve, fun v H1 ex1 r1 => by
    cases r1 with
    | exc0 h n => cases l
    | exc h h2 n1 n2 rf =>
      obtain ⟨u, hu, ru⟩ := rf.look l
      exact ⟨_, _, _, _, _, u, rfl, h, h2, c, n, hu, kk u H1 ex1 ru⟩⟩

/-! ### list + list -/
theorem op_catL : OpR X (binaryOp .Add) (fun x y H Q => ∃ a b us vs, x = .ref a ∧ y = .ref b ∧ SqL X.K H a us ∧ SqL X.K H b vs ∧ us.length + vs.length ≤ sizeLine ∧ ∀ z, H z = none → Q (.ref z) (upd H z (.lst (us ++ vs)))) := by
  intro pins s σ H x y v u Q I rx ry ⟨a, b, us, vs, ex, ey, h1, h2, hl, q⟩
  subst ex ey
  obtain rfl : v = Value.ref a := rx
  obtain rfl : u = Value.ref b := ry
  obtain ⟨i1, r1, p1, _⟩ := I.list h1
  obtain ⟨i2, r2, p2, _⟩ := I.list h2
  obtain ⟨⟨c, dd, dt, sl⟩, ho, hc, n, hd⟩ := p1.isList
  obtain ⟨⟨c2, dd2, dt2, sl2⟩, ho2, hc2, n2, hd2⟩ := p2.isList
  simp only at hc hd hc2 hd2
  subst hc hd hc2 hd2
  have l1 := r1.length
  have l2 := r2.length
  refine concat_meets ⟨_, ho, rfl⟩ ⟨_, ho2, rfl⟩ noFill_list_add seq_list_add PySem.F.slot_list_add PySem.F.entry_list_add (PySem.F.args_list_add_2 _ _) (list_addW a b i1.toArray i2.toArray n n2 dd dd2 sl sl2 (by simp; omega)) ⟨ho, ho2, ?_⟩
  have e : i1.toArray ++ i2.toArray = (i1 ++ i2).toArray := by simp
  rw [e]
  refine ⟨.ref s.heap.objs.size, _, I.laid (o := .lst (us ++ vs)) (t' := s.toks) (fun c w z => Heap.get?_push_of_some _ z) (Nat.le_refl _) ⟨by rw [List.length_append]; exact hl, i1 ++ i2, _, r1.append r2, Heap.get?_push_size _ rfl⟩, rfl, q _ (I.hok.fresh (Nat.le_refl _))⟩
theorem de_catL (ha : DE X ρ a (.lst xs)) (hb : DE X ρ b (.lst ys)) (hl : xs.length + ys.length ≤ sizeLine) : DE X ρ (.BinOp a .Add b pos) (.lst (xs ++ ys)) :=
  de_op op_catL (fun x y H S Q rx ry dm k => by
    obtain ⟨p, us, rfl, h1, r1⟩ := rx.lstV
    obtain ⟨q, vs, rfl, h2, r2⟩ := ry.lstV
    exact ⟨p, q, us, vs, rfl, rfl, h1, h2, by rw [← r1.length, ← r2.length]; exact hl, fun z hz => k _ _ (Ext.new hz) (Rds.newLst dm hz (r1.app r2))⟩) ha hb
end
end CT

set_option Elab.async false
set_option linter.all false
set_option maxRecDepth 100000
set_option maxHeartbeats 400000
namespace CT
open PySem PySem.Spec L2
open PyProof.Rows hiding St
section
variable {X : Cx} {scope : Scope} {own : List Str} {cap : List (Str × Nat)} {ρ : Rho} {elt iter c : Expr} {pos px py tp : Pos} {α : Type} {l : List α} {g1 g2 : α → D} {x y : Str} {k k2 : Nat} {sc : Scope} {N : List Str}
theorem flat_if {f : α → D} {t : α → Bool} : ∀ l : List α, (l.map fun a => if t a then [f a] else []).flatten = (l.filter t).map f
  | [] => rfl
  | a :: l => by
    rw [List.map_cons, List.flatten_cons, flat_if l, List.filter_cons]
    cases t a <;> rfl
/-- [elt for x, y in iter if c] -/
theorem dc_filt2 {f : α → D} {t : α → Bool} {j} (h1 : X.env.scope = sc) (h2 : X.N = N) (hcs : csOk scope own cap sc N = true) (hc : X.calm = true) (hk : own[k]? = some x) (hk2 : own[k2]? = some y) (hi : DI0 X (.Tuple [.Name x px, .Name y py] j tp) ρ iter (l.map fun a => .tup [g1 a, g2 a])) (hz : l.length ≤ sizeLine)
    (ht : CS X scope own cap → ∀ a ∈ l, ∀ p s H fp, DT (cX X scope own cap p s H fp) (((cR own cap ρ).set k (.val (g1 a))).set k2 (.val (g2 a))) c (t a))
    (he : CS X scope own cap → ∀ a ∈ l, t a = true → ∀ p s H fp, DE (cX X scope own cap p s H fp) (((cR own cap ρ).set k (.val (g1 a))).set k2 (.val (g2 a))) elt (f a))
    (hs : ∀ x, foldedSetIterable iter X.env x = pure x := by intro _; rfl) : DC X ρ (.ListComp elt [⟨.Tuple [.Name x px, .Name y py] j tp, iter, [c], 0⟩] scope pos) ((l.filter t).map f) := by
  have cs := CS.of sc N h1 h2 hcs
  rw [← flat_if]
  refine dc_comp (ks := [k] ++ ([k2] ++ [])) (outs := l.map fun a => if t a then [f a] else []) cs hc hi (fun i hj => ?_) (by simp) (by rw [flat_if, List.length_map]; exact Nat.le_trans (List.length_filter_le _ _) hz) (fun i d out q1 q2 => ?_) hs
  · simp only [List.append_nil, List.cons_append, List.nil_append, List.mem_cons, List.not_mem_nil, or_false] at hj
    rcases hj with rfl | rfl
    · exact cR_nil hk
    · exact cR_nil hk2
  · obtain ⟨a, ea, rfl⟩ := getmap q1
    obtain ⟨a', ea', rfl⟩ := getmap q2
    rw [ea] at ea'; cases ea'
    have hm := List.mem_of_getElem? ea
    refine ⟨_, t a, fun p s H fp => dg_tup (X := cX X scope own cap p s H fp) hc (dgs_cons (dg_c cs hk) (dgs_cons (dg_c cs hk2) dgs_nil)) rfl, fun p s H fp => dts_one (ht cs a hm p s H fp), fun z p s H fp acc => ?_, fun z => by rw [z]; rfl⟩
    rw [if_pos z]
    exact db_emit (Y := cX X scope own cap p s H fp) (he cs a hm z p s H fp)
theorem enumFrom_map {g : α → D} : ∀ (l : List α) (k : Nat), enumFrom k (l.map g) = ((l.zipIdx k).map fun a => .tup [.int (a.2 : Int), g a.1])
  | [], _ => rfl
  | a :: l, k => by rw [List.map_cons, List.zipIdx_cons, List.map_cons, enumFrom, enumFrom_map l (k + 1)]
end
/-- what a class of exceptions must be, checked at once -/
def xcOk (K : PySem.W.Frag) (C : Addr) : Bool := PySem.W.hasDictIn K C && (PySem.W.clsIn K C).any (fun cd => overV cd.mro) && PySem.W.findIn K (.ref C) "__getattribute__" == some (some (.builtin "BaseException.__getattribute__")) &&
  PySem.W.findIn K (.ref C) "__getattr__" == some none && PySem.W.findIn K (.ref C) "__setattr__" == some (some (.builtin "object.__setattr__")) && PySem.W.findIn K (.ref C) "__class__" == some (some (.builtin "object.__class__")) &&
  PySem.W.specialIn K (.builtin "object.__class__") "__get__" == some (some (.builtin "getset_descriptor.__get__")) && PySem.W.takesIn K (.builtin "object.__class__") == some true
theorem xisi_of {K : PySem.W.Frag} {C : Addr} (h : xcOk K C = true) : XIsi K C := by
  unfold xcOk at h
  simp only [Bool.and_eq_true, beq_iff_eq] at h
  obtain ⟨⟨⟨⟨⟨⟨⟨h1, h2⟩, h3⟩, h4⟩, h5⟩, h6⟩, h7⟩, h8⟩ := h
  exact ⟨⟨h1, h2, h3, h4, h5⟩, h6, h7, h8⟩
end CT

def PySem.W.Fast.tw470019818524404460 : Nat := 0
def PySem.W.Fast.tw16542456622101672215 : Nat := 0
def PySem.W.Fast.tw17099385003669972843 : Nat := 0
def PySem.W.Fast.tw9331925253541058279 : Nat := 0
def PySem.W.Fast.tw2854468668766239266 : Nat := 0
def PySem.W.Fast.tw5850331715139258934 : Nat := 0
def PySem.W.Fast.tw15606178094564320739 : Nat := 0
def PySem.W.Fast.tw7359378381659145008 : Nat := 0
def PySem.W.Fast.tw6156463912890297047 : Nat := 0
def PySem.W.Fast.tw15148685527637235683 : Nat := 0
def PySem.W.Fast.tw6604510363452325299 : Nat := 0
def PySem.W.Fast.tw4376333604200285717 : Nat := 0
def PySem.W.Fast.tw160398275572045419 : Nat := 0
def PySem.W.Fast.tw127944730663510463 : Nat := 0
def PySem.W.Fast.tw14912220027254415742 : Nat := 0
def PySem.W.Fast.tw11903312893943784022 : Nat := 0
def PySem.W.Fast.tw11114336691728390390 : Nat := 0
def PySem.W.Fast.tw10888817024313785149 : Nat := 0
def PySem.W.Fast.tw18140251330618130810 : Nat := 0
def PySem.W.Fast.tw6229398782680180830 : Nat := 0
def PySem.W.Fast.tw5561492644598937536 : Nat := 0
def PySem.W.Fast.tw18339663811926592636 : Nat := 0
def PySem.W.Fast.tw3611186648112270956 : Nat := 0
def PySem.W.Fast.tw619281389029324938 : Nat := 0
def PySem.W.Fast.tw16552196333135483365 : Nat := 0
def PySem.W.Fast.tw15835434356291182654 : Nat := 0
def PySem.W.Fast.tw7074514484552492302 : Nat := 0
def PySem.W.Fast.tw11310705998265566361 : Nat := 0
def PySem.W.Fast.tw17566463224947750267 : Nat := 0
def PySem.W.Fast.tw5648899357336564511 : Nat := 0
def PySem.W.Fast.tw74898883855613375 : Nat := 0
def PySem.W.Fast.tw13381332955043467810 : Nat := 0
def PySem.W.Fast.tw10785340765741106167 : Nat := 0
def PySem.W.Fast.tw13699846137744377427 : Nat := 0
def PySem.W.Fast.tw6550209832379386113 : Nat := 0
def PySem.W.Fast.tw2728243408651484986 : Nat := 0
def PySem.W.Fast.tw7854957421654458565 : Nat := 0
def PySem.W.Fast.tw15151325830854282841 : Nat := 0
def PySem.W.Fast.tw12611406104494743138 : Nat := 0
def PySem.W.Fast.tw1014199097420850822 : Nat := 0
def PySem.W.Fast.tw15140937754980777806 : Nat := 0
def PySem.W.Fast.tw6744366318648409834 : Nat := 0
def PySem.W.Fast.tw13747139585422014923 : Nat := 0
def PySem.W.Fast.tw14198881064446718564 : Nat := 0
def PySem.W.Fast.tw11881465696941398387 : Nat := 0
def PySem.W.Fast.tw5416114222749581456 : Nat := 0
def PySem.W.Fast.tw14131323876247954375 : Nat := 0
def PySem.W.Fast.tw16921840950941269510 : Nat := 0
def PySem.W.Fast.tw9571793796711370117 : Nat := 0
def PySem.W.Fast.tw12881287782499385323 : Nat := 0
def PySem.W.Fast.tw18169340167868797057 : Nat := 0
def PySem.W.Fast.tw14718764880728252543 : Nat := 0
def PySem.W.Fast.tw6545582961341751042 : Nat := 0
def PySem.W.Fast.tw17969353270003221659 : Nat := 0
def PySem.W.Fast.tw2158092649273902060 : Nat := 0
def PySem.W.Fast.tw11709691109421368543 : Nat := 0
def PySem.W.Fast.tw18196574860632927376 : Nat := 0
def PySem.W.Fast.tw12450691227052188954 : Nat := 0
def PySem.W.Fast.tw10925008971004944455 : Nat := 0
def PySem.W.Fast.tw1389033381029548746 : Nat := 0
def PySem.W.Fast.tw18297658176190051612 : Nat := 0
def PySem.W.Fast.tw17021690608970226439 : Nat := 0
def PySem.W.Fast.tw7713495851161117205 : Nat := 0
def PySem.W.Fast.tw12226980876794126893 : Nat := 0
def PySem.W.Fast.tw12324049586304965100 : Nat := 0
def PySem.W.Fast.tw7721233891846829934 : Nat := 0
def PySem.W.Fast.tw16823610943648577922 : Nat := 0
def PySem.W.Fast.tw14535744721389388475 : Nat := 0
def PySem.W.Fast.tw13839095456385407433 : Nat := 0
def PySem.W.Fast.tw7379455029327324505 : Nat := 0
def PySem.W.Fast.tw11457305327029958467 : Nat := 0
def PySem.W.Fast.tw102010198341710130 : Nat := 0
def PySem.W.Fast.tw2889126447107604480 : Nat := 0
def PySem.W.Fast.tw5376414457024524725 : Nat := 0
def PySem.W.Fast.tw16789789649873748474 : Nat := 0
def PySem.W.Fast.tw11055256380865800300 : Nat := 0
def PySem.W.Fast.tw3578995633591506646 : Nat := 0
def PySem.W.Fast.tw13636792654178347489 : Nat := 0
def PySem.W.Fast.tw6074035968043324743 : Nat := 0
def PySem.W.Fast.tw11496049574196393324 : Nat := 0
def PySem.W.Fast.tw4152411886930341555 : Nat := 0
def PySem.W.Fast.tw3631080196657260782 : Nat := 0
def PySem.W.Fast.tw12010799328091698108 : Nat := 0
def PySem.W.Fast.tw486077800027406049 : Nat := 0
def PySem.W.Fast.tw18184939660073777759 : Nat := 0
def PySem.W.Fast.tw15704537743290587606 : Nat := 0
def PySem.W.Fast.tw5943567904779450971 : Nat := 0
def PySem.W.Fast.tw5040688625437110970 : Nat := 0
def PySem.W.Fast.tw2694514908870960626 : Nat := 0
def PySem.W.Fast.tw8447239879321251372 : Nat := 0
def PySem.W.Fast.tw8126298106570263283 : Nat := 0
def PySem.W.Fast.tw3526306757170659763 : Nat := 0
def PySem.W.Fast.tw8983971783882495377 : Nat := 0
def PySem.W.Fast.tw102164679301637691 : Nat := 0
def PySem.W.Fast.tw2328385861905433098 : Nat := 0
def PySem.W.Fast.tw93722591258922156 : Nat := 0
def PySem.W.Fast.tw5368921410979951454 : Nat := 0
def PySem.W.Fast.tw2711992272653024666 : Nat := 0
def PySem.W.Fast.tw314863580490690363 : Nat := 0
def PySem.W.Fast.tw11528537633219524663 : Nat := 0
def PySem.W.Fast.tw8298590504448408358 : Nat := 0
def PySem.W.Fast.tw2104608719088304393 : Nat := 0
def PySem.W.Fast.tw571810922600920659 : Nat := 0
def PySem.W.Fast.tw7968951337156695556 : Nat := 0
def PySem.W.Fast.tw14157746958269347749 : Nat := 0
def PySem.W.Fast.tw4908578412325912876 : Nat := 0
def PySem.W.Fast.tw6916437276704721303 : Nat := 0
def PySem.W.Fast.tw16097153040543946147 : Nat := 0
def PySem.W.Fast.tw15465543383423740178 : Nat := 0
def PySem.W.Fast.tw14587716409057747120 : Nat := 0
def PySem.W.Fast.tw6206036418883505795 : Nat := 0
def PySem.W.Fast.tw8141650671162080721 : Nat := 0
def PySem.W.Fast.tw5783834342655834612 : Nat := 0
def PySem.W.Fast.tw18001849157065910811 : Nat := 0
def PySem.W.Fast.tw9400803151638659275 : Nat := 0
def PySem.W.Fast.tw5417029610977214967 : Nat := 0
def PySem.W.Fast.tw7775179563245315664 : Nat := 0
def PySem.W.Fast.tw9924921353556851433 : Nat := 0
def PySem.W.Fast.tw8914686180192756447 : Nat := 0
def PySem.W.Fast.tw6813661965419952618 : Nat := 0
def PySem.W.Fast.tw7402375690897133491 : Nat := 0
def PySem.W.Fast.tw7420523108657189778 : Nat := 0
def PySem.W.Fast.tw13465469566102459258 : Nat := 0
def PySem.W.Fast.tw5586117054947138172 : Nat := 0
def PySem.W.Fast.tw4542725122197498842 : Nat := 0
def PySem.W.Fast.tw13076562034719440463 : Nat := 0
def PySem.W.Fast.tw5440296370375637868 : Nat := 0
def PySem.W.Fast.tw13924439985090213706 : Nat := 0
def PySem.W.Fast.tw1056916467652887317 : Nat := 0
def PySem.W.Fast.tw17119916042523350321 : Nat := 0
def PySem.W.Fast.tw5939778231195107794 : Nat := 0
def PySem.W.Fast.tw7993697935403768704 : Nat := 0
def PySem.W.Fast.tw11567893541694780951 : Nat := 0
def PySem.W.Fast.tw13621431308896472905 : Nat := 0
def PySem.W.Fast.tw12111088418763922954 : Nat := 0
def PySem.W.Fast.tw9930972789503059319 : Nat := 0
def PySem.W.Fast.tw17156010896163183442 : Nat := 0
def PySem.W.Fast.tw4459728026832202673 : Nat := 0
def PySem.W.Fast.tw12201532603907078437 : Nat := 0
def PySem.W.Fast.tw13158238530513642005 : Nat := 0
def PySem.W.Fast.tw397089725083893546 : Nat := 0
def PySem.W.Fast.tw13807963072571096408 : Nat := 0
def PySem.W.Fast.tw8516061989746997279 : Nat := 0
def PySem.W.Fast.tw17808860053864799224 : Nat := 0
def PySem.W.Fast.tw5810459995668578256 : Nat := 0
def PySem.W.Fast.tw17821139171646206455 : Nat := 0
def PySem.W.Fast.tw12674613681795075711 : Nat := 0
def PySem.W.Fast.tw16980495976564576079 : Nat := 0
def PySem.W.Fast.tw1790306671942648515 : Nat := 0
def PySem.W.Fast.tw9404339922148883375 : Nat := 0
def PySem.W.Fast.tw8916990994572995154 : Nat := 0
def PySem.W.Fast.tw8411632492602053090 : Nat := 0
def PySem.W.Fast.tw14360247767630073263 : Nat := 0
def PySem.W.Fast.tw6927305530110091978 : Nat := 0
def PySem.W.Fast.tw5504517188651957173 : Nat := 0
def PySem.W.Fast.tw7424745475049959281 : Nat := 0
def PySem.W.Fast.tw5600491380810895930 : Nat := 0
def PySem.W.Fast.tw1651011988226799326 : Nat := 0
def PySem.W.Fast.tw9457273054420903617 : Nat := 0
def PySem.W.Fast.tw3467176903822807930 : Nat := 0
def PySem.W.Fast.tw18239410290222957055 : Nat := 0
def PySem.W.Fast.tw14905326883688058035 : Nat := 0
def PySem.W.Fast.tw10963887223653224380 : Nat := 0
def PySem.W.Fast.tw4915163513792964993 : Nat := 0
def PySem.W.Fast.tw6244042091245282334 : Nat := 0
def PySem.W.Fast.tw3014889811675842381 : Nat := 0
def PySem.W.Fast.tw7399722293134712610 : Nat := 0
def PySem.W.Fast.tw2465205262428060788 : Nat := 0
def PySem.W.Fast.tw1476778439023101742 : Nat := 0
def PySem.W.Fast.tw3041120675983311152 : Nat := 0
def PySem.W.Fast.tw8325466616051313317 : Nat := 0
def PySem.W.Fast.tw15490983993857608924 : Nat := 0
def PySem.W.Fast.tw6979598301647530313 : Nat := 0
def PySem.W.Fast.tw17365788880728941572 : Nat := 0
def PySem.W.Fast.tw3627715172202082200 : Nat := 0
def PySem.W.Fast.tw6633199293456198988 : Nat := 0
def PySem.W.Fast.tw3903489307016134038 : Nat := 0
def PySem.W.Fast.tw3822714883424908279 : Nat := 0
def PySem.W.Fast.tw914985485293968612 : Nat := 0
def PySem.W.Fast.tw4173051859416718566 : Nat := 0
def PySem.W.Fast.tw12816899522470447845 : Nat := 0
def PySem.W.Fast.tw17953484992167143433 : Nat := 0
def PySem.W.Fast.tw14554264776575397893 : Nat := 0
def PySem.W.Fast.tw13680449976164370230 : Nat := 0
def PySem.W.Fast.tw13543523126041524742 : Nat := 0
def PySem.W.Fast.tw6820371993745274915 : Nat := 0
def PySem.W.Fast.tw16792517158631001053 : Nat := 0
def PySem.W.Fast.tw11572066314675061830 : Nat := 0
def PySem.W.Fast.tw14492525290706488019 : Nat := 0
def PySem.W.Fast.tw12432228326834137660 : Nat := 0
def PySem.W.Fast.tw335232741238887688 : Nat := 0
def PySem.W.Fast.tw3990177564348350641 : Nat := 0
def PySem.W.Fast.tw732059310854215473 : Nat := 0
def PySem.W.Fast.tw1898429736317416308 : Nat := 0
def PySem.W.Fast.tw15905314063129033255 : Nat := 0
def PySem.W.Fast.tw10205079235362434616 : Nat := 0
def PySem.W.Fast.tw8203913167141767868 : Nat := 0
def PySem.W.Fast.tw11504309203244581103 : Nat := 0
def PySem.W.Fast.tw17726581854072042500 : Nat := 0
def PySem.W.Fast.tw9893699201337545791 : Nat := 0
def PySem.W.Fast.tw5839714622309794086 : Nat := 0
def PySem.W.Fast.tw6510108121611256026 : Nat := 0
def PySem.W.Fast.tw9264488739496150566 : Nat := 0
def PySem.W.Fast.tw8948864644646002216 : Nat := 0
def PySem.W.Fast.tw12994217929511487584 : Nat := 0
def PySem.W.Fast.tw7355492619807308817 : Nat := 0
def PySem.W.Fast.tw6908912565510743945 : Nat := 0
def PySem.W.Fast.tw9709024410235012305 : Nat := 0
def PySem.W.Fast.tw15490724721733418836 : Nat := 0
def PySem.W.Fast.tw4607875224890266859 : Nat := 0
def PySem.W.Fast.tw15003614478418018218 : Nat := 0
def PySem.W.Fast.tw12524970584195842855 : Nat := 0
def PySem.W.Fast.tw5572969488316591278 : Nat := 0
def PySem.W.Fast.tw14943081803141778624 : Nat := 0
def PySem.W.Fast.tw3777165046196559228 : Nat := 0
def PySem.W.Fast.tw18231174367950789573 : Nat := 0
def PySem.W.Fast.tw7483148347297743069 : Nat := 0
def PySem.W.Fast.tw5398951992938529972 : Nat := 0
def PySem.W.Fast.tw15898544711955947554 : Nat := 0
def PySem.W.Fast.tw424712490842860508 : Nat := 0
def PySem.W.Fast.tw676097719483778416 : Nat := 0
def PySem.W.Fast.tw2333780963346168269 : Nat := 0
def PySem.W.Fast.tw16498096373677861930 : Nat := 0
def PySem.W.Fast.tw11822711237168361965 : Nat := 0
def PySem.W.Fast.tw20192644413655995 : Nat := 0
def PySem.W.Fast.tw5152918958266047869 : Nat := 0
def PySem.W.Fast.tw15003134844275183686 : Nat := 0
def PySem.W.Fast.tw5883210789101103512 : Nat := 0
def PySem.W.Fast.tw10633496177445950832 : Nat := 0
def PySem.W.Fast.tw16705820161066981335 : Nat := 0
def PySem.W.Fast.tw6530928713250303479 : Nat := 0
def PySem.W.Fast.tw18095302922556377617 : Nat := 0
def PySem.W.Fast.tw7559819499583947243 : Nat := 0
def PySem.W.Fast.tw8639368702034665368 : Nat := 0
def PySem.W.Fast.tw11887843731441631081 : Nat := 0
def PySem.W.Fast.tw3398137052258098936 : Nat := 0
def PySem.W.Fast.tw13582549073733667569 : Nat := 0
def PySem.W.Fast.tw11645667831348642262 : Nat := 0
def PySem.W.Fast.tw5746377093104798130 : Nat := 0
def PySem.W.Fast.tw15893412370246520914 : Nat := 0
def PySem.W.Fast.tw1044410948234349989 : Nat := 0
def PySem.W.Fast.tw16006080077240194979 : Nat := 0
def PySem.W.Fast.tw9915021708456072688 : Nat := 0
def PySem.W.Fast.tw3762789148231760608 : Nat := 0
def PySem.W.Fast.tw2703790918923979515 : Nat := 0
def PySem.W.Fast.tw4393452555838089859 : Nat := 0
def PySem.W.Fast.tw4566773083874290195 : Nat := 0
def PySem.W.Fast.tw5436393465312037093 : Nat := 0
def PySem.W.Fast.tw11138888770905598258 : Nat := 0
def PySem.W.Fast.tw4878630307368185229 : Nat := 0
def PySem.W.Fast.tw1136428723758359545 : Nat := 0
def PySem.W.Fast.tw11980433535297049507 : Nat := 0
def PySem.W.Fast.tw9136304686075654553 : Nat := 0
def PySem.W.Fast.tw8275735404658806577 : Nat := 0
def PySem.W.Fast.tw7327170335802654847 : Nat := 0
def PySem.W.Fast.tw17736448809797055378 : Nat := 0
def PySem.W.Fast.tw3703058501918630988 : Nat := 0
def PySem.W.Fast.tw4331131725426712294 : Nat := 0
def PySem.W.Fast.tw9407362573887712818 : Nat := 0
def PySem.W.Fast.tw11820002728216897685 : Nat := 0
def PySem.W.Fast.tw5931162516896492977 : Nat := 0
def PySem.W.Fast.tw1736476437426551570 : Nat := 0
def PySem.W.Fast.tw12363980624756969657 : Nat := 0
def PySem.W.Fast.tw12363773111984440957 : Nat := 0
def PySem.W.Fast.tw2686670262241467565 : Nat := 0
def PySem.W.Fast.tw1610698735260835250 : Nat := 0
def PySem.W.Fast.tw3075502004010170377 : Nat := 0
def PySem.W.Fast.tw2902710967328240080 : Nat := 0
def PySem.W.Fast.tw9490086203973380973 : Nat := 0
def PySem.W.Fast.tw9767210167327797763 : Nat := 0
def PySem.W.Fast.tw11919871215871779067 : Nat := 0
def PySem.W.Fast.tw14521298489965438119 : Nat := 0
def PySem.W.Fast.tw5163196749044018781 : Nat := 0
def PySem.W.Fast.tw12450915009425568019 : Nat := 0
def PySem.W.Fast.tw16713061376748144880 : Nat := 0
def PySem.W.Fast.tw12070991035663325011 : Nat := 0
def PySem.W.Fast.tw11576346634073815424 : Nat := 0
def PySem.W.Fast.tw7490594918960058514 : Nat := 0
def PySem.W.Fast.tw10309835586125953576 : Nat := 0
def PySem.W.Fast.tw14469882795565646796 : Nat := 0
def PySem.W.Fast.tw10164160344407572467 : Nat := 0
def PySem.W.Fast.tw10365076225620161687 : Nat := 0
def PySem.W.Fast.tw5264679792927204806 : Nat := 0
def PySem.W.Fast.tw749112080120813484 : Nat := 0
def PySem.W.Fast.tw17298989738594012459 : Nat := 0
def PySem.W.Fast.tw13428971495272303308 : Nat := 0
def PySem.W.Fast.tw394232644775397728 : Nat := 0
def PySem.W.Fast.tw17304831202212771718 : Nat := 0
def PySem.W.Fast.tw11098390192455719963 : Nat := 0
def PySem.W.Fast.tw11701508431438838631 : Nat := 0
def PySem.W.Fast.tw10658470443501561889 : Nat := 0
def PySem.W.Fast.tw12049073463476981614 : Nat := 0
def PySem.W.Fast.tw17900681537896371588 : Nat := 0
def PySem.W.Fast.tw12955440754846055795 : Nat := 0
def PySem.W.Fast.tw259917678201684562 : Nat := 0
def PySem.W.Fast.tw13610722204062965640 : Nat := 0
def PySem.W.Fast.tw18315146684531902436 : Nat := 0
def PySem.W.Fast.tw18037020491084041957 : Nat := 0
def PySem.W.Fast.tw3626207741465992029 : Nat := 0
def PySem.W.Fast.tw6959342687268409931 : Nat := 0
def PySem.W.Fast.tw8361343813388140173 : Nat := 0
def PySem.W.Fast.tw7276403561888584312 : Nat := 0
def PySem.W.Fast.tw6854714353566990775 : Nat := 0
def PySem.W.Fast.tw6272538645281182022 : Nat := 0
def PySem.W.Fast.tw10693544041583597353 : Nat := 0
def PySem.W.Fast.tw12993388385624953729 : Nat := 0
def PySem.W.Fast.tw11870786727707651055 : Nat := 0
def PySem.W.Fast.tw283240890283253155 : Nat := 0
def PySem.W.Fast.tw16338812388649017674 : Nat := 0
def PySem.W.Fast.tw11034841325839271730 : Nat := 0
def PySem.W.Fast.tw6297986782729337394 : Nat := 0
def PySem.W.Fast.tw12081218217994698776 : Nat := 0
def PySem.W.Fast.tw9669859744129626308 : Nat := 0
def PySem.W.Fast.tw17282886300643058564 : Nat := 0
def PySem.W.Fast.tw1603602838487914066 : Nat := 0
def PySem.W.Fast.tw1242228808319358766 : Nat := 0
def PySem.W.Fast.tw6284902832758958036 : Nat := 0
def PySem.W.Fast.tw7233989309524519431 : Nat := 0
def PySem.W.Fast.tw10382543014197720401 : Nat := 0
def PySem.W.Fast.tw6925441199553999651 : Nat := 0
def PySem.W.Fast.tw16148225119303039483 : Nat := 0
def PySem.W.Fast.tw5953282718018784667 : Nat := 0
def PySem.W.Fast.tw11919050664896005484 : Nat := 0
def PySem.W.Fast.tw15950452697350990923 : Nat := 0
def PySem.W.Fast.tw17416714466029307948 : Nat := 0
def PySem.W.Fast.tw14637669977335414504 : Nat := 0
def PySem.W.Fast.tw4655745207795921035 : Nat := 0
def PySem.W.Fast.tw16014111880612520869 : Nat := 0
def PySem.W.Fast.tw15069704792621349946 : Nat := 0
def PySem.W.Fast.tw14865633671021939737 : Nat := 0
def PySem.W.Fast.tw14353443997426467543 : Nat := 0
def PySem.W.Fast.tw5934249681363793990 : Nat := 0
def PySem.W.Fast.tw7350666936585375072 : Nat := 0
def PySem.W.Fast.tw2640056499414283451 : Nat := 0
def PySem.W.Fast.tw60542499073104113 : Nat := 0
def PySem.W.Fast.tw5591486778101601862 : Nat := 0
def PySem.W.Fast.tw3388052801405582336 : Nat := 0
def PySem.W.Fast.tw11857445138834257294 : Nat := 0
def PySem.W.Fast.tw3301890228957235079 : Nat := 0
def PySem.W.Fast.tw1582985386547280711 : Nat := 0
def PySem.W.Fast.tw1922802805300760706 : Nat := 0
def PySem.W.Fast.tw7774173809820332323 : Nat := 0
def PySem.W.Fast.tw1677742739923961936 : Nat := 0
def PySem.W.Fast.tw15891280425635345409 : Nat := 0
def PySem.W.Fast.tw3563014701297555884 : Nat := 0
def PySem.W.Fast.tw5953788870945816179 : Nat := 0
def PySem.W.Fast.tw7256565565514197035 : Nat := 0
def PySem.W.Fast.tw17904522925572923846 : Nat := 0
def PySem.W.Fast.tw8381590740379017840 : Nat := 0
def PySem.W.Fast.tw6327272951319568811 : Nat := 0
def PySem.W.Fast.tw9626631365045018859 : Nat := 0
def PySem.W.Fast.tw4094477155214380780 : Nat := 0
def PySem.W.Fast.tw18306477682581607209 : Nat := 0
def PySem.W.Fast.tw15138546095374598456 : Nat := 0
def PySem.W.Fast.tw13300943980780673376 : Nat := 0
def PySem.W.Fast.tw16052912990839570570 : Nat := 0
def PySem.W.Fast.tw8520831438879633378 : Nat := 0
def PySem.W.Fast.tw9548615514302760755 : Nat := 0
def PySem.W.Fast.tw2870703321464130834 : Nat := 0
def PySem.W.Fast.tw3223153845555228505 : Nat := 0
def PySem.W.Fast.tw11276365756137119851 : Nat := 0
def PySem.W.Fast.tw7565344599516088662 : Nat := 0
def PySem.W.Fast.tw8393559053685433028 : Nat := 0
def PySem.W.Fast.tw6537127963202368187 : Nat := 0
def PySem.W.Fast.tw6512398881964533695 : Nat := 0
def PySem.W.Fast.tw13642575075178425913 : Nat := 0
def PySem.W.Fast.tw11767880576870883164 : Nat := 0
def PySem.W.Fast.tw16711585343116435394 : Nat := 0
def PySem.W.Fast.tw14290139695687231377 : Nat := 0
def PySem.W.Fast.tw8806964710069487994 : Nat := 0
def PySem.W.Fast.tw643475949422100196 : Nat := 0
def PySem.W.Fast.tw14958561758057155939 : Nat := 0
def PySem.W.Fast.tw11971512316307930787 : Nat := 0
def PySem.W.Fast.tw14707273979678913706 : Nat := 0
def PySem.W.Fast.tw2759340011651346843 : Nat := 0
def PySem.W.Fast.tw9801325183121007597 : Nat := 0
def PySem.W.Fast.tw6679405067446670054 : Nat := 0
def PySem.W.Fast.tw48967696208557136 : Nat := 0
def PySem.W.Fast.tw9865023111485655501 : Nat := 0
def PySem.W.Fast.tw10611571529234269251 : Nat := 0
def PySem.W.Fast.tw10117235355142077198 : Nat := 0
def PySem.W.Fast.tw12403345172574489544 : Nat := 0
def PySem.W.Fast.tw12273557618124379844 : Nat := 0
def PySem.W.Fast.tw10154150012919725663 : Nat := 0
def PySem.W.Fast.tw18090747074186441359 : Nat := 0
def PySem.W.Fast.tw575089598047555810 : Nat := 0
def PySem.W.Fast.tw10459141884950964598 : Nat := 0
def PySem.W.Fast.tw5722598192224362766 : Nat := 0
def PySem.W.Fast.tw16716440669268783196 : Nat := 0
def PySem.W.Fast.tw15299504488105700209 : Nat := 0
def PySem.W.Fast.tw12650820716477380844 : Nat := 0
def PySem.W.Fast.tw13367441327588689487 : Nat := 0
def PySem.W.Fast.tw11319537375405332158 : Nat := 0
def PySem.W.Fast.tw932673972506285453 : Nat := 0
def PySem.W.Fast.tw3545213118820048315 : Nat := 0
def PySem.W.Fast.tw13717852238044762566 : Nat := 0
def PySem.W.Fast.tw13959021988677940372 : Nat := 0
def PySem.W.Fast.tw10175015962492970412 : Nat := 0
def PySem.W.Fast.tw3050033610812910814 : Nat := 0
def PySem.W.Fast.tw13589467831402902795 : Nat := 0
def PySem.W.Fast.tw157796976355048071 : Nat := 0
def PySem.W.Fast.tw6815344405547800709 : Nat := 0
def PySem.W.Fast.tw5402315482265865941 : Nat := 0
def PySem.W.Fast.tw6611337314512968464 : Nat := 0
def PySem.W.Fast.tw4600504806632063578 : Nat := 0
def PySem.W.Fast.tw10170801702450108188 : Nat := 0
def PySem.W.Fast.tw9763745430348479142 : Nat := 0
def PySem.W.Fast.tw15067891518222327271 : Nat := 0
def PySem.W.Fast.tw12933713013073552794 : Nat := 0
def PySem.W.Fast.tw3791299093537083762 : Nat := 0
def PySem.W.Fast.tw7042858496223776365 : Nat := 0
def PySem.W.Fast.tw12585192955978225265 : Nat := 0
def PySem.W.Fast.tw12090561898647228856 : Nat := 0
def PySem.W.Fast.tw2691685104614667285 : Nat := 0
def PySem.W.Fast.tw5745819875720192986 : Nat := 0
def PySem.W.Fast.tw12986840119772992036 : Nat := 0
def PySem.W.Fast.tw14393073107675972978 : Nat := 0
def PySem.W.Fast.tw2625790922107368794 : Nat := 0
def PySem.W.Fast.tw15683418758386674151 : Nat := 0
def PySem.W.Fast.tw16347852364710345043 : Nat := 0
def PySem.W.Fast.tw16721688020991169375 : Nat := 0
def PySem.W.Fast.tw12620992061799584690 : Nat := 0
def PySem.W.Fast.tw6992848248837135066 : Nat := 0
def PySem.W.Fast.tw3302639695699703018 : Nat := 0
def PySem.W.Fast.tw12436675500480894402 : Nat := 0
def PySem.W.Fast.tw8183200992956972837 : Nat := 0
def PySem.W.Fast.tw7420984244553372985 : Nat := 0
def PySem.W.Fast.tw8737073014091670898 : Nat := 0
def PySem.W.Fast.tw2279768239345102591 : Nat := 0
def PySem.W.Fast.tw5789020070772033824 : Nat := 0
def PySem.W.Fast.tw14209769700927179335 : Nat := 0
def PySem.W.Fast.tw4833120685286777519 : Nat := 0
def PySem.W.Fast.tw17564762990723947669 : Nat := 0
def PySem.W.Fast.tw5003874790742427061 : Nat := 0
def PySem.W.Fast.tw951749556965149365 : Nat := 0
def PySem.W.Fast.tw9814934933963040940 : Nat := 0
def PySem.W.Fast.tw12557512568290783794 : Nat := 0
def PySem.W.Fast.tw12950033038944133078 : Nat := 0
def PySem.W.Fast.tw4823598423955689374 : Nat := 0
def PySem.W.Fast.tw11016863046828367282 : Nat := 0
def PySem.W.Fast.tw3856645019766774014 : Nat := 0
def PySem.W.Fast.tw2994425023592492560 : Nat := 0
def PySem.W.Fast.tw6280858682977529447 : Nat := 0
def PySem.W.Fast.tw6249510684798996729 : Nat := 0
def PySem.W.Fast.tw16656070351305543033 : Nat := 0
def PySem.W.Fast.tw3338004786038874885 : Nat := 0
def PySem.W.Fast.tw11621058044778048779 : Nat := 0
def PySem.W.Fast.tw4658062009511581547 : Nat := 0
def PySem.W.Fast.tw8388990609223386901 : Nat := 0
def PySem.W.Fast.tw10060991623162039708 : Nat := 0
def PySem.W.Fast.tw13934135607298139330 : Nat := 0
def PySem.W.Fast.tw14869232112460113429 : Nat := 0
def PySem.W.Fast.tw12189291983388910305 : Nat := 0
def PySem.W.Fast.tw1885597045546913997 : Nat := 0
def PySem.W.Fast.tw13966908575886489233 : Nat := 0
def PySem.W.Fast.tw7364849252706727494 : Nat := 0
def PySem.W.Fast.tw18412063182561936679 : Nat := 0
def PySem.W.Fast.tw12161419826214369941 : Nat := 0
def PySem.W.Fast.tw2370580711444715202 : Nat := 0
def PySem.W.Fast.tw10591407522238062547 : Nat := 0
def PySem.W.Fast.tw1463643897097157822 : Nat := 0
def PySem.W.Fast.tw8832082044321243972 : Nat := 0
def PySem.W.Fast.tw10288359099102326255 : Nat := 0
def PySem.W.Fast.tw10301245896964228546 : Nat := 0
def PySem.W.Fast.tw5961054780619488913 : Nat := 0
def PySem.W.Fast.tw8260554714371496188 : Nat := 0
def PySem.W.Fast.tw14681232236641442985 : Nat := 0
def PySem.W.Fast.tw9401358739542480788 : Nat := 0
def PySem.W.Fast.tw373105313377139528 : Nat := 0
def PySem.W.Fast.tw8360978755077827991 : Nat := 0
def PySem.W.Fast.tw10882017363530710295 : Nat := 0
def PySem.W.Fast.tw17227947174558995191 : Nat := 0
def PySem.W.Fast.tw8724843885904164015 : Nat := 0
def PySem.W.Fast.tw3524624301679134607 : Nat := 0
def PySem.W.Fast.tw847668665807044834 : Nat := 0
def PySem.W.Fast.tw9621906876967729443 : Nat := 0
def PySem.W.Fast.tw998692690661148168 : Nat := 0
def PySem.W.Fast.tw15152156189615855794 : Nat := 0
def PySem.W.Fast.tw16092082760113184106 : Nat := 0
def PySem.W.Fast.tw8194807673597057569 : Nat := 0
def PySem.W.Fast.tw4446073560479267454 : Nat := 0
def PySem.W.Fast.tw9821441530927652500 : Nat := 0
def PySem.W.Fast.tw17230827570451457517 : Nat := 0
def PySem.W.Fast.tw18403393508799606391 : Nat := 0
def PySem.W.Fast.tw3869574741419215629 : Nat := 0
def PySem.W.Fast.tw8504060530370050194 : Nat := 0
def PySem.W.Fast.tw16578335675921548884 : Nat := 0
def PySem.W.Fast.tw15299120256253967105 : Nat := 0
def PySem.W.Fast.tw5336599509571641091 : Nat := 0
def PySem.W.Fast.tw453178794356658442 : Nat := 0
def PySem.W.Fast.tw310713885430017504 : Nat := 0
def PySem.W.Fast.tw16533288254312831079 : Nat := 0
def PySem.W.Fast.tw3470503380065808139 : Nat := 0
def PySem.W.Fast.tw12461660008210056167 : Nat := 0
def PySem.W.Fast.tw7528065986364406167 : Nat := 0
def PySem.W.Fast.tw11449267039905044005 : Nat := 0
def PySem.W.Fast.tw10829050421170822393 : Nat := 0
def PySem.W.Fast.tw17743193720072881715 : Nat := 0
def PySem.W.Fast.tw8213048295394818725 : Nat := 0
def PySem.W.Fast.tw3951377755159559127 : Nat := 0
def PySem.W.Fast.tw10004789844648561962 : Nat := 0
def PySem.W.Fast.tw16730531267008787431 : Nat := 0
def PySem.W.Fast.tw11905023874713531539 : Nat := 0
def PySem.W.Fast.tw15753052077794153768 : Nat := 0
def PySem.W.Fast.tw2646955980686010401 : Nat := 0
def PySem.W.Fast.tw2072843853947621858 : Nat := 0
def PySem.W.Fast.tw244205318289225671 : Nat := 0
def PySem.W.Fast.tw4637750298778354266 : Nat := 0
def PySem.W.Fast.tw8979819742715754891 : Nat := 0
def PySem.W.Fast.tw18347711619435560379 : Nat := 0
def PySem.W.Fast.tw16684530135874256217 : Nat := 0
def PySem.W.Fast.tw12432289774254202369 : Nat := 0
def PySem.W.Fast.tw11238355448547364014 : Nat := 0
def PySem.W.Fast.tw12389104646710126407 : Nat := 0
def PySem.W.Fast.tw1989731409403261883 : Nat := 0
def PySem.W.Fast.tw14257498313328002932 : Nat := 0
def PySem.W.Fast.tw13807460567768401884 : Nat := 0
def PySem.W.Fast.tw6583821076815634598 : Nat := 0
def PySem.W.Fast.tw2628574435177324698 : Nat := 0
def PySem.W.Fast.tw17114326500468684415 : Nat := 0
def PySem.W.Fast.tw18404957157052443850 : Nat := 0
def PySem.W.Fast.tw2913384011366720513 : Nat := 0
def PySem.W.Fast.tw10390894826936934269 : Nat := 0
def PySem.W.Fast.tw10193554814373928421 : Nat := 0
def PySem.W.Fast.tw5557283924241471396 : Nat := 0
def PySem.W.Fast.tw950935805616032171 : Nat := 0
def PySem.W.Fast.tw12535456094583429293 : Nat := 0
def PySem.W.Fast.tw9457005397944253262 : Nat := 0
def PySem.W.Fast.tw16044952977938373684 : Nat := 0
def PySem.W.Fast.tw12510095392847133093 : Nat := 0
def PySem.W.Fast.tw9692491038814753244 : Nat := 0
def PySem.W.Fast.tw15454954617564829662 : Nat := 0
def PySem.W.Fast.tw16515450927077036108 : Nat := 0
def PySem.W.Fast.tw10224071457257533610 : Nat := 0
def PySem.W.Fast.tw11287447046115241167 : Nat := 0
def PySem.W.Fast.tw3828734329244496902 : Nat := 0
def PySem.W.Fast.tw16437602303707130746 : Nat := 0
def PySem.W.Fast.tw1759243860389233648 : Nat := 0
def PySem.W.Fast.tw392550800873485979 : Nat := 0
def PySem.W.Fast.tw16756443976745547516 : Nat := 0
def PySem.W.Fast.tw14974190417999946325 : Nat := 0
def PySem.W.Fast.tw8513820647599017180 : Nat := 0
def PySem.W.Fast.tw9501357131382293992 : Nat := 0
def PySem.W.Fast.tw11330224343987019910 : Nat := 0
def PySem.W.Fast.tw15292411844703810905 : Nat := 0
def PySem.W.Fast.tw918465413751299501 : Nat := 0
def PySem.W.Fast.tw6564346138771187600 : Nat := 0
def PySem.W.Fast.tw7513981697597834198 : Nat := 0
def PySem.W.Fast.tw12286075451601183402 : Nat := 0
def PySem.W.Fast.tw5320567260948406122 : Nat := 0
def PySem.W.Fast.tw4784867349942748385 : Nat := 0
def PySem.W.Fast.tw16886033360293205755 : Nat := 0
def PySem.W.Fast.tw12470719064513377855 : Nat := 0
def PySem.W.Fast.tw15559603843342673305 : Nat := 0
def PySem.W.Fast.tw11589383803327429063 : Nat := 0
def PySem.W.Fast.tw11234748581894407705 : Nat := 0
def PySem.W.Fast.tw12972797887748843901 : Nat := 0
def PySem.W.Fast.tw14821875281819635706 : Nat := 0
def PySem.W.Fast.tw2067203256997922627 : Nat := 0
def PySem.W.Fast.tw3264211551600109590 : Nat := 0
def PySem.W.Fast.tw10315842251513175915 : Nat := 0
def PySem.W.Fast.tw14143828956105890413 : Nat := 0
def PySem.W.Fast.tw16059812204392298320 : Nat := 0
def PySem.W.Fast.tw14949901452278929076 : Nat := 0
def PySem.W.Fast.tw10708755611733817793 : Nat := 0
def PySem.W.Fast.tw11280917235711836067 : Nat := 0
def PySem.W.Fast.tw4557344869867733694 : Nat := 0
def PySem.W.Fast.tw16596289990957431144 : Nat := 0
def PySem.W.Fast.tw5103691404090043482 : Nat := 0
def PySem.W.Fast.tw2599484078931458030 : Nat := 0
def PySem.W.Fast.tw8495660073770217909 : Nat := 0
def PySem.W.Fast.tw17781825993559521535 : Nat := 0
def PySem.W.Fast.tw15408905865239148153 : Nat := 0
def PySem.W.Fast.tw12309105763530997557 : Nat := 0
def PySem.W.Fast.tw17727953250387175430 : Nat := 0
def PySem.W.Fast.tw8856195706033900628 : Nat := 0
def PySem.W.Fast.tw4563017828508306393 : Nat := 0
def PySem.W.Fast.tw5370477531558456008 : Nat := 0
def PySem.W.Fast.tw9634890314826243767 : Nat := 0
def PySem.W.Fast.tw7775979969459662032 : Nat := 0
def PySem.W.Fast.tw13729540868359485852 : Nat := 0
def PySem.W.Fast.tw8499592028347126857 : Nat := 0
def PySem.W.Fast.tw12812488023452603621 : Nat := 0
def PySem.W.Fast.tw6322399385062097789 : Nat := 0
def PySem.W.Fast.tw4143241679577899391 : Nat := 0
def PySem.W.Fast.tw13799656660222994750 : Nat := 0
def PySem.W.Fast.tw1304399213815678720 : Nat := 0
def PySem.W.Fast.tw8531209686855369090 : Nat := 0
def PySem.W.Fast.tw2078073228717136304 : Nat := 0
def PySem.W.Fast.tw4344847022612639457 : Nat := 0
def PySem.W.Fast.tw17798897626104923135 : Nat := 0
def PySem.W.Fast.tw11086455398005879975 : Nat := 0
def PySem.W.Fast.tw8227710595724162523 : Nat := 0
def PySem.W.Fast.tw98371589185285421 : Nat := 0
def PySem.W.Fast.tw16766453348122626549 : Nat := 0
def PySem.W.Fast.tw15852362377475821629 : Nat := 0
def PySem.W.Fast.tw6306470684879229684 : Nat := 0
def PySem.W.Fast.tw14598225099249255528 : Nat := 0
def PySem.W.Fast.tw5134145998583995037 : Nat := 0
def PySem.W.Fast.tw9343987807167036452 : Nat := 0
def PySem.W.Fast.tw10957413692530811122 : Nat := 0
def PySem.W.Fast.tw7711755740362656644 : Nat := 0
def PySem.W.Fast.tw1249009520711466550 : Nat := 0
def PySem.W.Fast.tw18208471886722147742 : Nat := 0
def PySem.W.Fast.tw1427568911243962602 : Nat := 0
def PySem.W.Fast.tw2615115709618367681 : Nat := 0
def PySem.W.Fast.tw9064275675425594785 : Nat := 0
def PySem.W.Fast.tw8965280363993100270 : Nat := 0
def PySem.W.Fast.tw11624869782121453662 : Nat := 0
def PySem.W.Fast.tw8086040427069061088 : Nat := 0
def PySem.W.Fast.tw4121818177503555512 : Nat := 0
def PySem.W.Fast.tw16211461358102877645 : Nat := 0
def PySem.W.Fast.tw5471379714122653787 : Nat := 0
def PySem.W.Fast.tw14013328881143873516 : Nat := 0
def PySem.W.Fast.tw14839962624706550571 : Nat := 0
def PySem.W.Fast.tw7781689214989225064 : Nat := 0
def PySem.W.Fast.tw12364169221160741692 : Nat := 0
def PySem.W.Fast.tw4093528284300892945 : Nat := 0
def PySem.W.Fast.tw6970652666137474197 : Nat := 0
def PySem.W.Fast.tw17597392918886277689 : Nat := 0
def PySem.W.Fast.tw3122535182285113159 : Nat := 0
def PySem.W.Fast.tw16160231055194082880 : Nat := 0
def PySem.W.Fast.tw14166586539425806391 : Nat := 0
def PySem.W.Fast.tw15664158608602938922 : Nat := 0
def PySem.W.Fast.tw6853248988909240758 : Nat := 0
def PySem.W.Fast.tw18166108134853168901 : Nat := 0
def PySem.W.Fast.tw9865998044029157997 : Nat := 0
def PySem.W.Fast.tw10752555848073708711 : Nat := 0
def PySem.W.Fast.tw18160262671930946287 : Nat := 0
def PySem.W.Fast.tw3388050545969796282 : Nat := 0
def PySem.W.Fast.tw5596785028686486671 : Nat := 0
def PySem.W.Fast.tw7633401659965842839 : Nat := 0
def PySem.W.Fast.tw4386645668637693918 : Nat := 0
def PySem.W.Fast.tw13665494008226859265 : Nat := 0
def PySem.W.Fast.tw4939095919175504533 : Nat := 0
def PySem.W.Fast.tw9711877845443730875 : Nat := 0
def PySem.W.Fast.tw4100864487731839079 : Nat := 0
def PySem.W.Fast.tw1086627139263428060 : Nat := 0
def PySem.W.Fast.tw17102591186347384006 : Nat := 0
def PySem.W.Fast.tw12398788097482569537 : Nat := 0
def PySem.W.Fast.tw4984412193992174162 : Nat := 0
def PySem.W.Fast.tw11367799082055388415 : Nat := 0
def PySem.W.Fast.tw13718671785501741744 : Nat := 0
def PySem.W.Fast.tw10771576857584216044 : Nat := 0
def PySem.W.Fast.tw17326033578231570713 : Nat := 0
def PySem.W.Fast.tw11817174119346326916 : Nat := 0
def PySem.W.Fast.tw11193773140270901116 : Nat := 0
def PySem.W.Fast.tw5965583286433559118 : Nat := 0
def PySem.W.Fast.tw12935116925746065703 : Nat := 0
def PySem.W.Fast.tw10078082316374729093 : Nat := 0
def PySem.W.Fast.tw9261509460035573428 : Nat := 0
def PySem.W.Fast.tw18381284474558796504 : Nat := 0
def PySem.W.Fast.tw5290552189723559470 : Nat := 0
def PySem.W.Fast.tw14753957509116537587 : Nat := 0
def PySem.W.Fast.tw9082079189425880402 : Nat := 0
def PySem.W.Fast.tw7853713001579484919 : Nat := 0
def PySem.W.Fast.tw17516689457868486135 : Nat := 0
def PySem.W.Fast.tw2406629769158851414 : Nat := 0
def PySem.W.Fast.tw7076738364405529549 : Nat := 0
def PySem.W.Fast.tw331917695215813193 : Nat := 0
def PySem.W.Fast.tw1360427453625508589 : Nat := 0
def PySem.W.Fast.tw218459251571347529 : Nat := 0
def PySem.W.Fast.tw12995484492590251957 : Nat := 0
def PySem.W.Fast.tw8291608801817793301 : Nat := 0
def PySem.W.Fast.tw13885084751672397072 : Nat := 0
def PySem.W.Fast.tw11514635759236457304 : Nat := 0
def PySem.W.Fast.tw10138877385435908826 : Nat := 0
def PySem.W.Fast.tw3961551069801578137 : Nat := 0
def PySem.W.Fast.tw18183111498519216797 : Nat := 0
def PySem.W.Fast.tw8159804710432288283 : Nat := 0
def PySem.W.Fast.tw12981795691724162936 : Nat := 0
def PySem.W.Fast.tw17446636032634597333 : Nat := 0
def PySem.W.Fast.tw3804254072744793345 : Nat := 0
def PySem.W.Fast.tw4798462379907118174 : Nat := 0
def PySem.W.Fast.tw2237007411961385272 : Nat := 0
def PySem.W.Fast.tw6334195563347536590 : Nat := 0
def PySem.W.Fast.tw1396346094990219331 : Nat := 0
def PySem.W.Fast.tw721486864896814422 : Nat := 0
def PySem.W.Fast.tw15512765456242012438 : Nat := 0
def PySem.W.Fast.tw10846743480333892046 : Nat := 0
def PySem.W.Fast.tw4370422134580479772 : Nat := 0
def PySem.W.Fast.tw14295858778100108897 : Nat := 0
def PySem.W.Fast.tw10846850086802280949 : Nat := 0
def PySem.W.Fast.tw1158488036248183334 : Nat := 0
def PySem.W.Fast.tw505901167499089036 : Nat := 0
def PySem.W.Fast.tw10176655981801008183 : Nat := 0
def PySem.W.Fast.tw9408409596450480878 : Nat := 0
def PySem.W.Fast.tw2601329541711033538 : Nat := 0
def PySem.W.Fast.tw5133722393378214935 : Nat := 0
def PySem.W.Fast.tw12476893790640713540 : Nat := 0
def PySem.W.Fast.tw4607486769600531279 : Nat := 0
def PySem.W.Fast.tw8116769209528771250 : Nat := 0
def PySem.W.Fast.tw8457886506016912357 : Nat := 0
def PySem.W.Fast.tw11255235840533669834 : Nat := 0
def PySem.W.Fast.tw16247658841088843697 : Nat := 0
def PySem.W.Fast.tw7498236546222255300 : Nat := 0
def PySem.W.Fast.tw9132605012434443694 : Nat := 0
def PySem.W.Fast.tw4968195468299938553 : Nat := 0
def PySem.W.Fast.tw9746338999997093038 : Nat := 0
def PySem.W.Fast.tw6677553211259459422 : Nat := 0

set_option Elab.async false
set_option linter.all false
set_option maxRecDepth 100000
set_option maxHeartbeats 1000000
namespace K7
open PySem PySem.Spec L2 CT
open PyProof.Rows hiding St
def top (i : Nat) : Stmt := PySem.Challenge.pw_carrytower_k07_refusals_made.main.body.getD i (.Pass ⟨0, 0, 0, 0⟩)
abbrev sInit (i : Nat) : Stmt := inClass (top (2 + i)) 0
abbrev sCell : Stmt := top 22
abbrev sKinds : Stmt := top 23
abbrev sLaw : Stmt := top 24
local macro_rules | `(tactic| walk_at "v") => `(tactic| first
  | exact de_var (i := 0) rfl (by first | exact Or.inl rfl | exact Or.inr (Or.inl rfl)) rfl | exact de_var (i := 1) rfl (by first | exact Or.inl rfl | exact Or.inr (Or.inl rfl)) rfl
  | exact de_var (i := 2) rfl (by first | exact Or.inl rfl | exact Or.inr (Or.inl rfl)) rfl | exact de_var (i := 3) rfl (by first | exact Or.inl rfl | exact Or.inr (Or.inl rfl)) rfl
  | exact de_var (i := 4) rfl (by first | exact Or.inl rfl | exact Or.inr (Or.inl rfl)) rfl | exact de_var (i := 5) rfl (by first | exact Or.inl rfl | exact Or.inr (Or.inl rfl)) rfl
  | exact de_var (i := 6) rfl (by first | exact Or.inl rfl | exact Or.inr (Or.inl rfl)) rfl | exact de_var (i := 7) rfl (by first | exact Or.inl rfl | exact Or.inr (Or.inl rfl)) rfl)
local macro_rules | `(tactic| walk_at "c") => `(tactic| first
  | exact de_cv (by assumption) (i := 0) rfl rfl | exact de_cv (by assumption) (i := 1) rfl rfl | exact de_cv (by assumption) (i := 2) rfl rfl | exact de_cv (by assumption) (i := 3) rfl rfl | exact de_cv (by assumption) (i := 4) rfl rfl)
section
variable {P : Program} {w : World} {K : PySem.W.Frag} {mg : Str → Option Value} {base : Heap}
structure Bl (mg : Str → Option Value) : Prop where
  isinstance : mg "isinstance" = none
  tuple : mg "tuple" = none
  len : mg "len" = none
  range : mg "range" = none
  sum : mg "sum" = none
  enumerate : mg "enumerate" = none
/-! ### _law_cell -/
theorem scCell : FnScope ["_law_script", "_law_k", "_law_cell_here", "_law_first"] ["_law_script", "_law_k"] (defScope sCell) := ⟨rfl, rfl, rfl, by decide +kernel, rfl, by decide +kernel, by decide +kernel⟩
def at0 (ns : List Int) (k : Int) : Int := ns.getD (k % (ns.length : Int)).toNat 0
def mixed (c k : Int) : Int :=
  ((c % 1000000007 + 7919 * k + 11) * 48271 % 2147483647 * 69621 + 17 * k) % 2147483629 * 2147483647 + (c % 1000000007 + 7919 * k + 11) * 48271 % 2147483647 * 16807 % 2147483647
def cell (ns : List Int) (k : Int) : Int := if ns.sum % 2 = 1 then at0 ns k else mixed (at0 ns k) k
def pCell (ds : List D) (d : D) : Prop := ∃ ns k, ds = [.lst (intsD ns), .int k] ∧ d = .int (cell ns k)
theorem at0_ix {ns : List Int} {k : Int} (h : 0 < ns.length) : atI (intsD ns) (k % (ns.length : Int)) = some (.int (at0 ns k)) := by
  have h1 : 0 ≤ k % (ns.length : Int) := Int.emod_nonneg _ (by omega)
  have h2 : k % (ns.length : Int) < ns.length := Int.emod_lt_of_pos _ (by omega)
  have e : k % (ns.length : Int) = (((k % (ns.length : Int)).toNat : Nat) : Int) := by omega
  rw [e]
  refine atI_nat ?_
  have h3 : (k % (ns.length : Int)).toNat < ns.length := by omega
  simp [intsD, at0, h3]
theorem ok_cell {f : Addr} {fd : FuncData} (F : Fun K "_law_cell" "_law_cell" sCell f fd) (B : Bl mg) : FnOk P w K mg base CX0 1 f fd ["_law_script", "_law_k"] (spD K pCell) := by
  refine fn_D F scCell (fun ds d ⟨ns, k, e, _⟩ => by rw [e]; rfl) fun cdv A outer s H E ds d hr ⟨ns, k, e1, e2⟩ => ⟨.rt d, rfl, ?_⟩
  subst e1 e2
  have hl : (intsD ns).length = ns.length := by simp
  refine dss_cons (ds_set (i := 2) scCell.nd rfl (Or.inl rfl) de_int) ?_
  refine dss_cons (ρ' := [.val (.lst (intsD ns)), .val (.int k), .val (.int (at0 ns k)), .nil]) (ds_if (q := decide ((0 : Int) < ((intsD ns).length : Int))) (dt_gt (de_len Sq.l rfl B.len (da_cons (by walk_at "v") da_nil)) de_int) (fun z => ?_) fun z => ?_) ?_
  · have hp : 0 < ns.length := by have := of_decide_eq_true z; rw [hl] at this; omega
    refine dss_cons (ds_set (i := 2) scCell.nd rfl (Or.inl rfl) (de_ixL (by walk_at "v") (de_mod (by rw [hl]; omega) (by walk_at "v") (de_len Sq.l rfl B.len (da_cons (by walk_at "v") da_nil))) (by rw [hl]; exact at0_ix hp))) dss_nil
  · have hp : ns = [] := by have := of_decide_eq_false z; rw [hl] at this; exact List.length_eq_zero_iff.mp (by omega)
    subst hp
    exact dss_nil
  by_cases hs : ns.sum % 2 = 1
  · refine dss_end (ds_if (q := true) (DT.to (dt_eqI (de_mod (by decide) (de_sum (ns := ns) rfl rfl B.sum (da_cons (by walk_at "v") da_nil)) de_int) de_int) (decide_eq_true hs)) (fun _ => dss_end (ds_ret (DE.to (by walk_at "v") ?_)) trivial) fun z => nomatch z) trivial
    rw [cell, if_pos hs]
  · refine dss_cons (ds_if (q := false) (DT.to (dt_eqI (de_mod (by decide) (de_sum (ns := ns) rfl rfl B.sum (da_cons (by walk_at "v") da_nil)) de_int) de_int) (decide_eq_false hs)) (fun z => nomatch z) fun _ => dss_nil) ?_
    refine dss_cons (ds_set (i := 3) scCell.nd rfl (Or.inl rfl) (de_mod (by decide) (de_mul (cmR (by decide) (by decide)) (de_add (de_add (de_mod (by decide) (by walk_at "v") de_int) (de_mul (cmL (by decide) (by decide)) de_int (by walk_at "v"))) de_int) de_int) de_int)) ?_
    refine dss_end (ds_ret (DE.to (de_add (de_mul (cmR (by decide) (by decide)) (de_mod (by decide) (de_add (de_mul (cmR (by decide) (by decide)) (by walk_at "v") de_int) (de_mul (cmL (by decide) (by decide)) de_int (by walk_at "v"))) de_int) de_int) (de_mod (by decide) (de_mul (cmR (by decide) (by decide)) (by walk_at "v") de_int) de_int)) ?_)) trivial
    rw [cell, if_neg hs]
    rfl

def nms : List Str := ["NoRounds", "NoElement", "NoLower", "NoUpper", "NoHead", "NotLike", "NoCount", "NoPair", "NoKind", "NoLine", "NothingDone", "NoText", "NoCarry", "NoTower", "Uneven", "NoRelabeling", "TooMany", "NoMap", "NoName"]
/-- the nineteen classes -/
structure Xs (K : PySem.W.Frag) (mg : Str → Option Value) (CE : Addr) (C : Nat → Addr) : Prop where
  glob : ∀ i, i < 19 → mg (nms.getD i "") = some (.ref (C i))
  isi : ∀ i, i < 19 → XIsi K (C i)
  kit : ∀ i j, i < 19 → j < 19 → PySem.W.kitOne K (.ref (C i)) (.ref (C j)) = some (decide (i = j))
  kitE : ∀ i, i < 19 → PySem.W.kitOne K (.ref (C i)) (.ref CE) = some true
  kitV : ∀ i, i < 19 → PySem.W.kitOne K (.ref (C i)) (.type "ValueError") = some true
  globE : mg "CarryError" = some (.ref CE)
/-! ### _law_kinds -/
theorem scKinds : FnScope ["_law_e", "_law_found"] ["_law_e"] (defScope sKinds) := ⟨rfl, rfl, rfl, by decide +kernel, rfl, by decide +kernel, by decide +kernel⟩
def pKinds (C : Nat → Addr) (ds : List D) (d : D) : Prop := ∃ i fs, i < 19 ∧ ds = [.exc (C i) fs] ∧ d = .lst [.int (i : Nat)]
/-- whether i is j, for j below n -/
def tr (i n : Nat) : List D := (List.range n).map fun j => .bl (decide (i = j))
theorem tr_filter : ∀ i, i < 19 → ((((List.range 19).map fun j => decide (i = j)).zipIdx 0).filter fun a => a.1).map (fun a => a.2) = [i] := by decide +kernel
theorem ok_kinds {f CE : Addr} {C : Nat → Addr} {fd : FuncData} (F : Fun K "_law_kinds" "_law_kinds" sKinds f fd) (B : Bl mg) (G : Xs K mg CE C) : FnOk P w K mg base CX0 1 f fd ["_law_e"] (spD K (pKinds C)) := by
  refine fn_D F scKinds (fun ds d ⟨i, fs, _, e, _⟩ => by rw [e]; rfl) fun cdv A outer s H E ds d hr ⟨i, fs, hi, e1, e2⟩ => ⟨.rt d, rfl, ?_⟩
  subst e1 e2
  refine dss_cons (ds_set (i := 1) scKinds.nd rfl (Or.inl rfl) (de_lst (da_cons (de_isi rfl B.isinstance (.exc fs (G.isi i hi)) (.cl (C 0)) (G.kit i 0 hi (by decide)) (da_cons (by walk_at "v") (da_cons (de_cl rfl (G.glob 0 (by decide))) da_nil))) (da_cons (de_isi rfl B.isinstance (.exc fs (G.isi i hi)) (.cl (C 1)) (G.kit i 1 hi (by decide)) (da_cons (by walk_at "v") (da_cons (de_cl rfl (G.glob 1 (by decide))) da_nil))) (da_cons (de_isi rfl B.isinstance (.exc fs (G.isi i hi)) (.cl (C 2)) (G.kit i 2 hi (by decide)) (da_cons (by walk_at "v") (da_cons (de_cl rfl (G.glob 2 (by decide))) da_nil))) (da_cons (de_isi rfl B.isinstance (.exc fs (G.isi i hi)) (.cl (C 3)) (G.kit i 3 hi (by decide)) (da_cons (by walk_at "v") (da_cons (de_cl rfl (G.glob 3 (by decide))) da_nil))) da_nil)))) (by show 4 ≤ sizeLine; decide))) ?_
  refine dss_cons (ds_set (i := 1) scKinds.nd rfl (Or.inl rfl) (de_catL (by walk_at "v") (de_lst (da_cons (de_isi rfl B.isinstance (.exc fs (G.isi i hi)) (.cl (C 4)) (G.kit i 4 hi (by decide)) (da_cons (by walk_at "v") (da_cons (de_cl rfl (G.glob 4 (by decide))) da_nil))) (da_cons (de_isi rfl B.isinstance (.exc fs (G.isi i hi)) (.cl (C 5)) (G.kit i 5 hi (by decide)) (da_cons (by walk_at "v") (da_cons (de_cl rfl (G.glob 5 (by decide))) da_nil))) (da_cons (de_isi rfl B.isinstance (.exc fs (G.isi i hi)) (.cl (C 6)) (G.kit i 6 hi (by decide)) (da_cons (by walk_at "v") (da_cons (de_cl rfl (G.glob 6 (by decide))) da_nil))) (da_cons (de_isi rfl B.isinstance (.exc fs (G.isi i hi)) (.cl (C 7)) (G.kit i 7 hi (by decide)) (da_cons (by walk_at "v") (da_cons (de_cl rfl (G.glob 7 (by decide))) da_nil))) da_nil)))) (by show 4 ≤ sizeLine; decide)) (by show 8 ≤ sizeLine; decide))) ?_
  refine dss_cons (ds_set (i := 1) scKinds.nd rfl (Or.inl rfl) (de_catL (by walk_at "v") (de_lst (da_cons (de_isi rfl B.isinstance (.exc fs (G.isi i hi)) (.cl (C 8)) (G.kit i 8 hi (by decide)) (da_cons (by walk_at "v") (da_cons (de_cl rfl (G.glob 8 (by decide))) da_nil))) (da_cons (de_isi rfl B.isinstance (.exc fs (G.isi i hi)) (.cl (C 9)) (G.kit i 9 hi (by decide)) (da_cons (by walk_at "v") (da_cons (de_cl rfl (G.glob 9 (by decide))) da_nil))) (da_cons (de_isi rfl B.isinstance (.exc fs (G.isi i hi)) (.cl (C 10)) (G.kit i 10 hi (by decide)) (da_cons (by walk_at "v") (da_cons (de_cl rfl (G.glob 10 (by decide))) da_nil))) (da_cons (de_isi rfl B.isinstance (.exc fs (G.isi i hi)) (.cl (C 11)) (G.kit i 11 hi (by decide)) (da_cons (by walk_at "v") (da_cons (de_cl rfl (G.glob 11 (by decide))) da_nil))) da_nil)))) (by show 4 ≤ sizeLine; decide)) (by show 12 ≤ sizeLine; decide))) ?_
  refine dss_cons (ds_set (i := 1) scKinds.nd rfl (Or.inl rfl) (de_catL (by walk_at "v") (de_lst (da_cons (de_isi rfl B.isinstance (.exc fs (G.isi i hi)) (.cl (C 12)) (G.kit i 12 hi (by decide)) (da_cons (by walk_at "v") (da_cons (de_cl rfl (G.glob 12 (by decide))) da_nil))) (da_cons (de_isi rfl B.isinstance (.exc fs (G.isi i hi)) (.cl (C 13)) (G.kit i 13 hi (by decide)) (da_cons (by walk_at "v") (da_cons (de_cl rfl (G.glob 13 (by decide))) da_nil))) (da_cons (de_isi rfl B.isinstance (.exc fs (G.isi i hi)) (.cl (C 14)) (G.kit i 14 hi (by decide)) (da_cons (by walk_at "v") (da_cons (de_cl rfl (G.glob 14 (by decide))) da_nil))) (da_cons (de_isi rfl B.isinstance (.exc fs (G.isi i hi)) (.cl (C 15)) (G.kit i 15 hi (by decide)) (da_cons (by walk_at "v") (da_cons (de_cl rfl (G.glob 15 (by decide))) da_nil))) da_nil)))) (by show 4 ≤ sizeLine; decide)) (by show 16 ≤ sizeLine; decide))) ?_
  refine dss_cons (ds_set (i := 1) scKinds.nd rfl (Or.inl rfl) (de_catL (by walk_at "v") (de_lst (da_cons (de_isi rfl B.isinstance (.exc fs (G.isi i hi)) (.cl (C 16)) (G.kit i 16 hi (by decide)) (da_cons (by walk_at "v") (da_cons (de_cl rfl (G.glob 16 (by decide))) da_nil))) (da_cons (de_isi rfl B.isinstance (.exc fs (G.isi i hi)) (.cl (C 17)) (G.kit i 17 hi (by decide)) (da_cons (by walk_at "v") (da_cons (de_cl rfl (G.glob 17 (by decide))) da_nil))) (da_cons (de_isi rfl B.isinstance (.exc fs (G.isi i hi)) (.cl (C 18)) (G.kit i 18 hi (by decide)) (da_cons (by walk_at "v") (da_cons (de_cl rfl (G.glob 18 (by decide))) da_nil))) da_nil))) (by show 3 ≤ sizeLine; decide)) (by show 19 ≤ sizeLine; decide))) ?_
  refine dss_end (ds_ret (DC.de ?_)) trivial
  have e : (D.int ((i : Nat) : Int)) = D.int ((i : Nat) : Int) := rfl
  have hf := congrArg (List.map fun n : Nat => D.int (n : Int)) (tr_filter i hi)
  rw [List.map_map] at hf
  refine (show _ = [D.int ((i : Nat) : Int)] from hf) ▸ ?_
  refine dc_filt2 (sc := defScope sKinds) (N := ["_law_e", "_law_found"]) (own := ["_law_k", "_law_one"]) (cap := []) (k := 0) (k2 := 1) (g1 := fun a : Bool × Nat => D.int (a.2 : Int)) (g2 := fun a => D.bl a.1) (l := (((List.range 19).map fun j => decide (i = j)).zipIdx 0)) rfl rfl (by decide +kernel) rfl rfl rfl ?_ (by rw [List.length_zipIdx, List.length_map, List.length_range]; decide) (fun cs a _ p s h fp => dt_val (by walk_at "c")) fun cs a _ _ p s h fp => (by walk_at "c")
  rw [← enumFrom_map]
  exact DI.dI0 (di_enum rfl B.enumerate (da_cons (by walk_at "v") da_nil))
end
end K7

set_option Elab.async false
set_option linter.all false
set_option maxRecDepth 100000
set_option maxHeartbeats 2000000
namespace K7
open PySem PySem.Spec L2 CT
open PyProof.Rows hiding St
local macro_rules | `(tactic| walk_at "v") => `(tactic| first
  | exact de_var (i := 0) rfl (by first | exact Or.inl rfl | exact Or.inr (Or.inl rfl)) rfl | exact de_var (i := 1) rfl (by first | exact Or.inl rfl | exact Or.inr (Or.inl rfl)) rfl
  | exact de_var (i := 2) rfl (by first | exact Or.inl rfl | exact Or.inr (Or.inl rfl)) rfl | exact de_var (i := 3) rfl (by first | exact Or.inl rfl | exact Or.inr (Or.inl rfl)) rfl
  | exact de_var (i := 4) rfl (by first | exact Or.inl rfl | exact Or.inr (Or.inl rfl)) rfl | exact de_var (i := 5) rfl (by first | exact Or.inl rfl | exact Or.inr (Or.inl rfl)) rfl
  | exact de_var (i := 6) rfl (by first | exact Or.inl rfl | exact Or.inr (Or.inl rfl)) rfl | exact de_var (i := 7) rfl (by first | exact Or.inl rfl | exact Or.inr (Or.inl rfl)) rfl
  | exact de_var (i := 8) rfl (by first | exact Or.inl rfl | exact Or.inr (Or.inl rfl)) rfl)
local macro_rules | `(tactic| walk_at "c") => `(tactic| first
  | exact de_cv (by assumption) (i := 0) rfl rfl | exact de_cv (by assumption) (i := 1) rfl rfl | exact de_cv (by assumption) (i := 2) rfl rfl | exact de_cv (by assumption) (i := 3) rfl rfl | exact de_cv (by assumption) (i := 4) rfl rfl)
section
variable {P : Program} {w : World} {K : PySem.W.Frag} {mg : Str → Option Value} {base : Heap}
abbrev LN : List Str := ["_law_script", "_law_number", "_law_x", "_law_y", "_law_name", "_law_made", "_law_k", "_law_one", "_law_fields"]
theorem scLaw : FnScope LN ["_law_script"] (defScope sLaw) := ⟨rfl, rfl, rfl, by decide +kernel, rfl, by decide +kernel, by decide +kernel⟩
/-- an exception's class with its __init__ -/
theorem boot_valueError : bootBuiltins "ValueError" = some (.type "ValueError") := by decide +kernel
structure Ix (K : PySem.W.Frag) (q : Str) (i : Nat) (C : Nat → Addr) (ps : List Str) (fls : List Str) (f : Addr) (fd : FuncData) : Prop where
  F : Fun K "__init__" q (sInit i) f fd
  mx : XMk K (C i) f
  b : Binds K fd ps []
  na : ∀ fl ∈ fls, NoAttr K (C i) fl
structure Txt (K : PySem.W.Frag) (mg : Str → Option Value) (CE : Addr) (C : Nat → Addr) (fC fK : Addr) (fdC fdK : FuncData) (f : Nat → Addr) (fd : Nat → FuncData) : Prop where
  B : Bl mg
  G : Xs K mg CE C
  x0 : ∀ i, i < 11 → PySem.W.excIn K (C i) bmV "ValueError.__new__" = true ∧ PySem.W.keepIn K (.ref (C i)) = true
  FC : Fun K "_law_cell" "_law_cell" sCell fC fdC
  bC : Binds K fdC ["_law_script", "_law_k"] []
  mC : mg "_law_cell" = some (.ref fC)
  FK : Fun K "_law_kinds" "_law_kinds" sKinds fK fdK
  bK : Binds K fdK ["_law_e"] []
  mK : mg "_law_kinds" = some (.ref fK)
  mV : mg "ValueError" = none
  i11 : Ix K "NoText.__init__" 11 C ["self", "at"] ["at"] (f 11) (fd 11)
  i12 : Ix K "NoCarry.__init__" 12 C ["self", "x", "y"] ["x", "y"] (f 12) (fd 12)
  i13 : Ix K "NoTower.__init__" 13 C ["self", "three"] ["three"] (f 13) (fd 13)
  i14 : Ix K "Uneven.__init__" 14 C ["self", "two"] ["two"] (f 14) (fd 14)
  i15 : Ix K "NoRelabeling.__init__" 15 C ["self", "x"] ["x"] (f 15) (fd 15)
  i16 : Ix K "TooMany.__init__" 16 C ["self", "many"] ["many"] (f 16) (fd 16)
  i17 : Ix K "NoMap.__init__" 17 C ["self", "head"] ["head"] (f 17) (fd 17)
  i18 : Ix K "NoName.__init__" 18 C ["self", "name"] ["name"] (f 18) (fd 18)
theorem ok_i11 {C : Nat → Addr} {f : Addr} {fd : FuncData} (c : XCls K (C 11)) (I : Ix K "NoText.__init__" 11 C ["self", "at"] ["at"] f fd) : FnOk P w K mg base CX0 1 f fd ["self", "at"] (spX (C 11) ["at"]) :=
  fn_x1 I.F ⟨rfl, rfl, rfl, by decide +kernel, rfl, by decide +kernel, by decide +kernel⟩ rfl c (I.na _ (by simp))
theorem ok_i12 {C : Nat → Addr} {f : Addr} {fd : FuncData} (c : XCls K (C 12)) (I : Ix K "NoCarry.__init__" 12 C ["self", "x", "y"] ["x", "y"] f fd) : FnOk P w K mg base CX0 1 f fd ["self", "x", "y"] (spX (C 12) ["x", "y"]) :=
  fn_x2 I.F ⟨rfl, rfl, rfl, by decide +kernel, rfl, by decide +kernel, by decide +kernel⟩ rfl c (I.na _ (by simp)) (I.na _ (by simp)) (by decide)
theorem ok_i13 {C : Nat → Addr} {f : Addr} {fd : FuncData} (c : XCls K (C 13)) (I : Ix K "NoTower.__init__" 13 C ["self", "three"] ["three"] f fd) : FnOk P w K mg base CX0 1 f fd ["self", "three"] (spX (C 13) ["three"]) :=
  fn_x1 I.F ⟨rfl, rfl, rfl, by decide +kernel, rfl, by decide +kernel, by decide +kernel⟩ rfl c (I.na _ (by simp))
theorem ok_i14 {C : Nat → Addr} {f : Addr} {fd : FuncData} (c : XCls K (C 14)) (I : Ix K "Uneven.__init__" 14 C ["self", "two"] ["two"] f fd) : FnOk P w K mg base CX0 1 f fd ["self", "two"] (spX (C 14) ["two"]) :=
  fn_x1 I.F ⟨rfl, rfl, rfl, by decide +kernel, rfl, by decide +kernel, by decide +kernel⟩ rfl c (I.na _ (by simp))
theorem ok_i15 {C : Nat → Addr} {f : Addr} {fd : FuncData} (c : XCls K (C 15)) (I : Ix K "NoRelabeling.__init__" 15 C ["self", "x"] ["x"] f fd) : FnOk P w K mg base CX0 1 f fd ["self", "x"] (spX (C 15) ["x"]) :=
  fn_x1 I.F ⟨rfl, rfl, rfl, by decide +kernel, rfl, by decide +kernel, by decide +kernel⟩ rfl c (I.na _ (by simp))
theorem ok_i16 {C : Nat → Addr} {f : Addr} {fd : FuncData} (c : XCls K (C 16)) (I : Ix K "TooMany.__init__" 16 C ["self", "many"] ["many"] f fd) : FnOk P w K mg base CX0 1 f fd ["self", "many"] (spX (C 16) ["many"]) :=
  fn_x1 I.F ⟨rfl, rfl, rfl, by decide +kernel, rfl, by decide +kernel, by decide +kernel⟩ rfl c (I.na _ (by simp))
theorem ok_i17 {C : Nat → Addr} {f : Addr} {fd : FuncData} (c : XCls K (C 17)) (I : Ix K "NoMap.__init__" 17 C ["self", "head"] ["head"] f fd) : FnOk P w K mg base CX0 1 f fd ["self", "head"] (spX (C 17) ["head"]) :=
  fn_x1 I.F ⟨rfl, rfl, rfl, by decide +kernel, rfl, by decide +kernel, by decide +kernel⟩ rfl c (I.na _ (by simp))
theorem ok_i18 {C : Nat → Addr} {f : Addr} {fd : FuncData} (c : XCls K (C 18)) (I : Ix K "NoName.__init__" 18 C ["self", "name"] ["name"] f fd) : FnOk P w K mg base CX0 1 f fd ["self", "name"] (spX (C 18) ["name"]) :=
  fn_x1 I.F ⟨rfl, rfl, rfl, by decide +kernel, rfl, by decide +kernel, by decide +kernel⟩ rfl c (I.na _ (by simp))
def tupI (ks : List Int) : D := .tup (ks.map .int)
def nmOf (i : Int) : Str := (["a", "zz", "", "A1", "abcdefghi"] : List Str).getD (i % 5).toNat ""
def pLaw (ds : List D) (d : D) : Prop := ∃ ns, ds = [.lst (intsD ns)] ∧ ns.length ≤ 63 ∧ d = .bl true
theorem nm_ix (i : Int) : atI [D.str "a", D.str "zz", D.str "", D.str "A1", D.str "abcdefghi"] (i % 5) = some (.str (nmOf i)) := by
  have h1 : 0 ≤ i % 5 := Int.emod_nonneg _ (by decide)
  have h2 : i % 5 < 5 := Int.emod_lt_of_pos _ (by decide)
  unfold nmOf
  generalize i % 5 = r at h1 h2
  have : r = 0 ∨ r = 1 ∨ r = 2 ∨ r = 3 ∨ r = 4 := by omega
  rcases this with rfl | rfl | rfl | rfl | rfl <;> rfl
theorem nm_ok (i : Int) : PyData.strOk (nmOf i) = true := by
  have h1 : 0 ≤ i % 5 := Int.emod_nonneg _ (by decide)
  have h2 : i % 5 < 5 := Int.emod_lt_of_pos _ (by decide)
  unfold nmOf
  generalize i % 5 = r at h1 h2
  have : r = 0 ∨ r = 1 ∨ r = 2 ∨ r = 3 ∨ r = 4 := by omega
  rcases this with rfl | rfl | rfl | rfl | rfl <;> decide +kernel
def fsOf (number : Int) (xs ys : List Int) (name : Str) (i : Nat) : List (Str × D) := match i with
  | 11 => [("at", .int number)] | 12 => [("x", tupI xs), ("y", tupI ys)] | 13 => [("three", .tup [tupI xs, tupI ys, tupI xs])] | 14 => [("two", .tup [tupI ys, tupI xs])]
  | 15 => [("x", tupI xs)] | 16 => [("many", .int number)] | 17 => [("head", .int number)] | 18 => [("name", .str name)] | _ => []
theorem zip19 : ∀ a ∈ (List.range 19).zipIdx 0, a.1 < 19 ∧ a.2 = a.1 := by decide +kernel
abbrev allD (number : Int) (xs ys : List Int) (name : Str) : D := .lst [.int number, tupI xs, tupI ys, .tup [tupI xs, tupI ys, tupI xs], .tup [tupI ys, tupI xs], tupI xs, .int number, .int number, .str name]
theorem isDatL_ints : ∀ ks : List Int, isDatL (ks.map .int) = true
  | [] => rfl
  | k :: ks => by show (true && isDatL (ks.map .int)) = true; rw [isDatL_ints ks]; rfl
theorem isDat_tupI (ks : List Int) : isDat (tupI ks) = true := isDatL_ints ks
theorem depth_ints : ∀ ks : List Int, PyData.depthAll (toPyL (ks.map .int)) = 0
  | [] => rfl
  | k :: ks => by
    show max (PyData.depth (.int k)) (PyData.depthAll (toPyL (ks.map .int))) = 0
    rw [depth_ints ks]; rfl
theorem depth_tupI (ks : List Int) : (toPy (tupI ks)).depth = 1 := by
  show PyData.depthAll (toPyL (ks.map .int)) + 1 = 1
  rw [depth_ints]
theorem eqD_self {d : D} (h : isDat d = true) : eqD d d = true := SeqAt.eqv_refl _ (dat_lay h)
theorem all_dat {number : Int} {xs ys : List Int} {name : Str} (h : PyData.strOk name = true) : isDat (allD number xs ys name) = true := by
  simp [allD, isDat, isDatL, isDat_tupI, h]
theorem all_depth {number : Int} {xs ys : List Int} {name : Str} : min (toPy (allD number xs ys name)).depth (toPy (allD number xs ys name)).depth ≤ 64 := by
  simp [allD, toPy, toPyL, PyData.depth, PyData.depthAll, depth_tupI]
theorem scCompOk : True := trivial
theorem ok_law {CE fC fK fL : Addr} {C f : Nat → Addr} {fdC fdK fdL : FuncData} {fd : Nat → FuncData} (F : Fun K "law" "law" sLaw fL fdL) (T : Txt K mg CE C fC fK fdC fdK f fd) : FnOk P w K mg base CX0 4 fL fdL ["_law_script"] (spD K pLaw) := by
  refine fn_D F scLaw (fun ds d ⟨ns, e, _⟩ => by rw [e]; rfl) fun cdv A outer s H E ds d hr ⟨ns, e1, h63, e2⟩ => ⟨.rt d, rfl, ?_⟩
  subst e1 e2
  have nd := scLaw.nd
  have hr2 : Room 2 _ := hr.mono (by decide)
  refine dss_cons (ds_set (i := 1) (d := .int (cell ns 0 % 400)) nd rfl (Or.inl rfl) (de_mod (by decide) (de_call (ok_cell T.FC T.B) (hr.mono (by decide)) rfl T.mC T.FC.kp T.bC (da_cons (by walk_at "v") (da_cons de_int da_nil)) ⟨ns, 0, rfl, rfl⟩) de_int)) ?_
  generalize cell ns 0 % 400 = number
  refine dss_cons (ds_set (i := 2) (d := tupI ((List.range (cell ns 4 % 4).toNat).map fun k : Nat => cell ns (1 + (k : Int)) % 9)) nd rfl (Or.inl rfl) (de_tuple Sq.l rfl T.B.tuple (da_cons (DC.de ?_) da_nil))) ?_
  · rw [List.map_map]
    refine dc_mapW (sc := defScope sLaw) (N := LN) (own := ["_law_k"]) (cap := [("_law_script", 0)]) (k := 0) (g := fun k : Nat => D.int (k : Int)) rfl rfl (by decide +kernel) rfl rfl (DI.dI0 (di_range rfl T.B.range (da_cons (de_mod (by decide) (de_call (ok_cell T.FC T.B) (hr.mono (by decide)) rfl T.mC T.FC.kp T.bC (da_cons (by walk_at "v") (da_cons de_int da_nil)) ⟨ns, 4, rfl, rfl⟩) de_int) da_nil) (by omega) (by omega))) (by rw [List.length_range]; show _ ≤ 2 ^ 24; omega) fun cs k _ p s h fp => ?_
    exact de_mod (by decide) (de_call (ok_cell T.FC T.B) (hr.mono (by decide)) rfl T.mC T.FC.kp T.bC (da_cons (by walk_at "c") (da_cons (de_add de_int (by walk_at "c")) da_nil)) ⟨ns, _, rfl, rfl⟩) de_int
  have lx : ((List.range (cell ns 4 % 4).toNat).map fun k : Nat => cell ns (1 + (k : Int)) % 9).length ≤ 4 := by rw [List.length_map, List.length_range]; omega
  generalize ((List.range (cell ns 4 % 4).toNat).map fun k : Nat => cell ns (1 + (k : Int)) % 9) = xs at lx ⊢
  refine dss_cons (ds_set (i := 3) (d := tupI ((List.range xs.length).map fun k : Nat => cell ns (5 + (k : Int)) % 9)) nd rfl (Or.inl rfl) (de_tuple Sq.l rfl T.B.tuple (da_cons (DC.de ?_) da_nil))) ?_
  · rw [List.map_map]
    have hn : ((((xs.map D.int).length : Nat) : Int)).toNat = xs.length := by simp
    rw [← hn]
    refine dc_mapW (sc := defScope sLaw) (N := LN) (own := ["_law_k"]) (cap := [("_law_script", 0)]) (k := 0) (g := fun k : Nat => D.int (k : Int)) rfl rfl (by decide +kernel) rfl rfl (DI.dI0 (di_range rfl T.B.range (da_cons (de_len Sq.t rfl T.B.len (da_cons (by walk_at "v") da_nil)) da_nil) (by omega) (by rw [List.length_map]; omega))) (by rw [hn, List.length_range]; show _ ≤ 2 ^ 24; omega) fun cs k _ p s h fp => ?_
    exact de_mod (by decide) (de_call (ok_cell T.FC T.B) (hr.mono (by decide)) rfl T.mC T.FC.kp T.bC (da_cons (by walk_at "c") (da_cons (de_add de_int (by walk_at "c")) da_nil)) ⟨ns, _, rfl, rfl⟩) de_int
  generalize ((List.range xs.length).map fun k : Nat => cell ns (5 + (k : Int)) % 9) = ys
  refine dss_cons (ds_set (i := 4) nd rfl (Or.inl rfl) (de_ixL (de_lst (da_cons de_str (da_cons de_str (da_cons de_str (da_cons de_str (da_cons de_str da_nil))))) (by decide)) (de_mod (by decide) (de_call (ok_cell T.FC T.B) (hr.mono (by decide)) rfl T.mC T.FC.kp T.bC (da_cons (by walk_at "v") (da_cons de_int da_nil)) ⟨ns, 8, rfl, rfl⟩) de_int) (nm_ix _))) ?_
  have hnm : PyData.strOk (nmOf (cell ns 8)) = true := nm_ok _
  generalize nmOf (cell ns 8) = name at hnm ⊢
  refine dss_cons (ds_set (i := 5) nd rfl (Or.inl rfl) (de_lst (da_cons (de_x0 (T.x0 0 (by decide)).1 (T.x0 0 (by decide)).2 rfl (T.G.glob 0 (by decide))) (da_cons (de_x0 (T.x0 1 (by decide)).1 (T.x0 1 (by decide)).2 rfl (T.G.glob 1 (by decide))) (da_cons (de_x0 (T.x0 2 (by decide)).1 (T.x0 2 (by decide)).2 rfl (T.G.glob 2 (by decide))) (da_cons (de_x0 (T.x0 3 (by decide)).1 (T.x0 3 (by decide)).2 rfl (T.G.glob 3 (by decide))) (da_cons (de_x0 (T.x0 4 (by decide)).1 (T.x0 4 (by decide)).2 rfl (T.G.glob 4 (by decide))) (da_cons (de_x0 (T.x0 5 (by decide)).1 (T.x0 5 (by decide)).2 rfl (T.G.glob 5 (by decide))) (da_cons (de_x0 (T.x0 6 (by decide)).1 (T.x0 6 (by decide)).2 rfl (T.G.glob 6 (by decide))) (da_cons (de_x0 (T.x0 7 (by decide)).1 (T.x0 7 (by decide)).2 rfl (T.G.glob 7 (by decide))) (da_cons (de_x0 (T.x0 8 (by decide)).1 (T.x0 8 (by decide)).2 rfl (T.G.glob 8 (by decide))) (da_cons (de_x0 (T.x0 9 (by decide)).1 (T.x0 9 (by decide)).2 rfl (T.G.glob 9 (by decide))) da_nil)))))))))) (by show 10 ≤ sizeLine; decide))) ?_
  refine dss_cons (ds_set (i := 5) nd rfl (Or.inl rfl) (de_catL (de_var (i := 5) rfl (by first | exact Or.inl rfl | exact Or.inr (Or.inl rfl)) rfl) (de_lst (da_cons (de_x0 (T.x0 10 (by decide)).1 (T.x0 10 (by decide)).2 rfl (T.G.glob 10 (by decide))) (da_cons (de_xmk T.i11.mx (ok_i11 (T.G.isi 11 (by decide)).cl T.i11) hr2 (by rfl) (T.G.glob 11 (by decide)) T.i11.b (da_cons (de_var (i := 1) rfl (by first | exact Or.inl rfl | exact Or.inr (Or.inl rfl)) rfl) da_nil) (by rfl) (by first | (show 1 ≤ 1000; decide) | (show 2 ≤ 1000; decide))) (da_cons (de_xmk T.i12.mx (ok_i12 (T.G.isi 12 (by decide)).cl T.i12) hr2 (by rfl) (T.G.glob 12 (by decide)) T.i12.b (da_cons (de_var (i := 2) rfl (by first | exact Or.inl rfl | exact Or.inr (Or.inl rfl)) rfl) (da_cons (de_var (i := 3) rfl (by first | exact Or.inl rfl | exact Or.inr (Or.inl rfl)) rfl) da_nil)) (by rfl) (by first | (show 1 ≤ 1000; decide) | (show 2 ≤ 1000; decide))) (da_cons (de_xmk T.i13.mx (ok_i13 (T.G.isi 13 (by decide)).cl T.i13) hr2 (by rfl) (T.G.glob 13 (by decide)) T.i13.b (da_cons (de_tup (da_cons (de_var (i := 2) rfl (by first | exact Or.inl rfl | exact Or.inr (Or.inl rfl)) rfl) (da_cons (de_var (i := 3) rfl (by first | exact Or.inl rfl | exact Or.inr (Or.inl rfl)) rfl) (da_cons (de_var (i := 2) rfl (by first | exact Or.inl rfl | exact Or.inr (Or.inl rfl)) rfl) da_nil))) (by show 3 ≤ sizeLine; decide)) da_nil) (by rfl) (by first | (show 1 ≤ 1000; decide) | (show 2 ≤ 1000; decide))) (da_cons (de_xmk T.i14.mx (ok_i14 (T.G.isi 14 (by decide)).cl T.i14) hr2 (by rfl) (T.G.glob 14 (by decide)) T.i14.b (da_cons (de_tup (da_cons (de_var (i := 3) rfl (by first | exact Or.inl rfl | exact Or.inr (Or.inl rfl)) rfl) (da_cons (de_var (i := 2) rfl (by first | exact Or.inl rfl | exact Or.inr (Or.inl rfl)) rfl) da_nil)) (by show 2 ≤ sizeLine; decide)) da_nil) (by rfl) (by first | (show 1 ≤ 1000; decide) | (show 2 ≤ 1000; decide))) (da_cons (de_xmk T.i15.mx (ok_i15 (T.G.isi 15 (by decide)).cl T.i15) hr2 (by rfl) (T.G.glob 15 (by decide)) T.i15.b (da_cons (de_var (i := 2) rfl (by first | exact Or.inl rfl | exact Or.inr (Or.inl rfl)) rfl) da_nil) (by rfl) (by first | (show 1 ≤ 1000; decide) | (show 2 ≤ 1000; decide))) da_nil)))))) (by show 6 ≤ sizeLine; decide)) (by show 16 ≤ sizeLine; decide))) ?_
  refine dss_cons (ds_set (i := 5) (d := .lst ((List.range 19).map fun i => .exc (C i) (fsOf number xs ys name i))) nd rfl (Or.inl rfl) (DE.to (de_catL (de_var (i := 5) rfl (by first | exact Or.inl rfl | exact Or.inr (Or.inl rfl)) rfl) (de_lst (da_cons (de_xmk T.i16.mx (ok_i16 (T.G.isi 16 (by decide)).cl T.i16) hr2 (by rfl) (T.G.glob 16 (by decide)) T.i16.b (da_cons (de_var (i := 1) rfl (by first | exact Or.inl rfl | exact Or.inr (Or.inl rfl)) rfl) da_nil) (by rfl) (by first | (show 1 ≤ 1000; decide) | (show 2 ≤ 1000; decide))) (da_cons (de_xmk T.i17.mx (ok_i17 (T.G.isi 17 (by decide)).cl T.i17) hr2 (by rfl) (T.G.glob 17 (by decide)) T.i17.b (da_cons (de_var (i := 1) rfl (by first | exact Or.inl rfl | exact Or.inr (Or.inl rfl)) rfl) da_nil) (by rfl) (by first | (show 1 ≤ 1000; decide) | (show 2 ≤ 1000; decide))) (da_cons (de_xmk T.i18.mx (ok_i18 (T.G.isi 18 (by decide)).cl T.i18) hr2 (by rfl) (T.G.glob 18 (by decide)) T.i18.b (da_cons (de_var (i := 4) rfl (by first | exact Or.inl rfl | exact Or.inr (Or.inl rfl)) rfl) da_nil) (by rfl) (by first | (show 1 ≤ 1000; decide) | (show 2 ≤ 1000; decide))) da_nil))) (by show 3 ≤ sizeLine; decide)) (by show 19 ≤ sizeLine; decide)) (by rfl))) ?_
  refine dss_cons (ds_forW PassesOwn.never rfl (g := fun a : Nat × Nat => .tup [.int (a.2 : Int), .exc (C a.1) (fsOf number xs ys name a.1)]) (fun _ => [.val (.lst (intsD ns)), .val (.int number), .val (tupI xs), .val (tupI ys), .val (.str name), .val (.lst ((List.range 19).map fun i => .exc (C i) (fsOf number xs ys name i))), .any, .any, .nil]) ((List.range 19).zipIdx 0) ?_
    (.same (.same (.same (.same (.same (.same (.any (.any (.same .nil))))))))) fun done a rest e => ?_) ?_
  · rw [← enumFrom_map (g := fun i => D.exc (C i) (fsOf number xs ys name i))]
    exact di_enum rfl T.B.enumerate (da_cons (de_var (i := 5) rfl (by first | exact Or.inl rfl | exact Or.inr (Or.inl rfl)) rfl) da_nil)
  · have ha : a.1 < 19 ∧ a.2 = a.1 := zip19 a (by rw [e]; simp)
    obtain ⟨i, j⟩ := a
    obtain ⟨hi, hj⟩ := ha
    dsimp only at hi hj
    subst hj
    refine ⟨_, _, [.val (.lst (intsD ns)), .val (.int number), .val (tupI xs), .val (tupI ys), .val (.str name), .val (.lst ((List.range 19).map fun i => .exc (C i) (fsOf number xs ys name i))), .val (.int (j : Nat)), .val (.exc (C j) (fsOf number xs ys name j)), .nil], dg_tup rfl (dgs_cons (dg_name (k := 6) nd rfl (Or.inl rfl)) (dgs_cons (dg_name (k := 7) nd rfl (Or.inl rfl)) dgs_nil)) rfl, tg_set.trans (tg_set.trans tg_nil), ?_, ?_⟩
    · refine dss_cons (ds_if (q := false) (DW.dt (dw_or (p := false) (q := false) (dt_not (p := true) (dt_val ?_)) fun _ => dw_or (p := false) (q := false) (dt_not (p := true) (dt_val ?_)) fun _ => dw_or1 ?_)) (fun z => nomatch z) fun _ => dss_nil) dss_nil
      · exact de_isi rfl T.B.isinstance (.exc _ (T.G.isi j hi)) (.cl CE) (T.G.kitE j hi) (da_cons (de_var (i := 7) rfl (by first | exact Or.inl rfl | exact Or.inr (Or.inl rfl)) rfl) (da_cons (de_cl rfl T.G.globE) da_nil))
      · exact de_isi rfl T.B.isinstance (.exc _ (T.G.isi j hi)) (.ty "ValueError") (T.G.kitV j hi) (da_cons (de_var (i := 7) rfl (by first | exact Or.inl rfl | exact Or.inr (Or.inl rfl)) rfl) (da_cons (de_ty rfl T.mV boot_valueError) da_nil))
      · refine DT.to (dt_neD (da := .lst [.int (j : Nat)]) (db := .lst [.int (j : Nat)]) (Room.units hr) rfl rfl (by show (1 : Nat) ≤ 64; decide) (de_call (ok_kinds T.FK T.B T.G) (hr.mono (by decide)) rfl T.mK T.FK.kp T.bK (da_cons (de_var (i := 7) rfl (by first | exact Or.inl rfl | exact Or.inr (Or.inl rfl)) rfl) da_nil) ⟨j, _, hi, rfl, rfl⟩) (de_lst (da_cons (de_var (i := 6) rfl (by first | exact Or.inl rfl | exact Or.inr (Or.inl rfl)) rfl) da_nil) (by show 1 ≤ sizeLine; decide))) (by rw [eqD_self (d := .lst [.int (j : Nat)]) rfl]; rfl)
    · exact .same (.same (.same (.same (.same (.same (.any (.any (.same .nil))))))))
  refine dss_cons (ds_set (i := 8) nd rfl (Or.inl rfl) (de_lst (da_cons (de_xfld (de_ixL (de_var (i := 5) rfl (by first | exact Or.inl rfl | exact Or.inr (Or.inl rfl)) rfl) de_int (d := .exc (C 11) (fsOf number xs ys name 11)) rfl) (T.G.isi 11 (by decide)).cl (T.i11.na _ (by simp)) rfl) (da_cons (de_xfld (de_ixL (de_var (i := 5) rfl (by first | exact Or.inl rfl | exact Or.inr (Or.inl rfl)) rfl) de_int (d := .exc (C 12) (fsOf number xs ys name 12)) rfl) (T.G.isi 12 (by decide)).cl (T.i12.na _ (by simp)) rfl) (da_cons (de_xfld (de_ixL (de_var (i := 5) rfl (by first | exact Or.inl rfl | exact Or.inr (Or.inl rfl)) rfl) de_int (d := .exc (C 12) (fsOf number xs ys name 12)) rfl) (T.G.isi 12 (by decide)).cl (T.i12.na _ (by simp)) rfl) (da_cons (de_xfld (de_ixL (de_var (i := 5) rfl (by first | exact Or.inl rfl | exact Or.inr (Or.inl rfl)) rfl) de_int (d := .exc (C 13) (fsOf number xs ys name 13)) rfl) (T.G.isi 13 (by decide)).cl (T.i13.na _ (by simp)) rfl) (da_cons (de_xfld (de_ixL (de_var (i := 5) rfl (by first | exact Or.inl rfl | exact Or.inr (Or.inl rfl)) rfl) de_int (d := .exc (C 14) (fsOf number xs ys name 14)) rfl) (T.G.isi 14 (by decide)).cl (T.i14.na _ (by simp)) rfl) (da_cons (de_xfld (de_ixL (de_var (i := 5) rfl (by first | exact Or.inl rfl | exact Or.inr (Or.inl rfl)) rfl) de_int (d := .exc (C 15) (fsOf number xs ys name 15)) rfl) (T.G.isi 15 (by decide)).cl (T.i15.na _ (by simp)) rfl) (da_cons (de_xfld (de_ixL (de_var (i := 5) rfl (by first | exact Or.inl rfl | exact Or.inr (Or.inl rfl)) rfl) de_int (d := .exc (C 16) (fsOf number xs ys name 16)) rfl) (T.G.isi 16 (by decide)).cl (T.i16.na _ (by simp)) rfl) da_nil))))))) (by show 7 ≤ sizeLine; decide))) ?_
  refine dss_end (ds_ret (DE.to (de_eqD (da := allD number xs ys name) (db := allD number xs ys name) (Room.units hr) (all_dat hnm) (all_dat hnm) all_depth ?_ ?_) (by rw [eqD_self (all_dat hnm)]))) trivial
  · exact DE.to (de_catL (de_var (i := 8) rfl (by first | exact Or.inl rfl | exact Or.inr (Or.inl rfl)) rfl) (de_lst (da_cons (de_xfld (de_ixL (de_var (i := 5) rfl (by first | exact Or.inl rfl | exact Or.inr (Or.inl rfl)) rfl) de_int (d := .exc (C 17) (fsOf number xs ys name 17)) rfl) (T.G.isi 17 (by decide)).cl (T.i17.na _ (by simp)) rfl) (da_cons (de_xfld (de_ixL (de_var (i := 5) rfl (by first | exact Or.inl rfl | exact Or.inr (Or.inl rfl)) rfl) de_int (d := .exc (C 18) (fsOf number xs ys name 18)) rfl) (T.G.isi 18 (by decide)).cl (T.i18.na _ (by simp)) rfl) da_nil)) (by show 2 ≤ sizeLine; decide)) (by show 9 ≤ sizeLine; decide)) (by rfl)
  · exact DE.to (de_lst (da_cons (de_var (i := 1) rfl (by first | exact Or.inl rfl | exact Or.inr (Or.inl rfl)) rfl) (da_cons (de_var (i := 2) rfl (by first | exact Or.inl rfl | exact Or.inr (Or.inl rfl)) rfl) (da_cons (de_var (i := 3) rfl (by first | exact Or.inl rfl | exact Or.inr (Or.inl rfl)) rfl) (da_cons (de_tup (da_cons (de_var (i := 2) rfl (by first | exact Or.inl rfl | exact Or.inr (Or.inl rfl)) rfl) (da_cons (de_var (i := 3) rfl (by first | exact Or.inl rfl | exact Or.inr (Or.inl rfl)) rfl) (da_cons (de_var (i := 2) rfl (by first | exact Or.inl rfl | exact Or.inr (Or.inl rfl)) rfl) da_nil))) (by show 3 ≤ sizeLine; decide)) (da_cons (de_tup (da_cons (de_var (i := 3) rfl (by first | exact Or.inl rfl | exact Or.inr (Or.inl rfl)) rfl) (da_cons (de_var (i := 2) rfl (by first | exact Or.inl rfl | exact Or.inr (Or.inl rfl)) rfl) da_nil)) (by show 2 ≤ sizeLine; decide)) (da_cons (de_var (i := 2) rfl (by first | exact Or.inl rfl | exact Or.inr (Or.inl rfl)) rfl) (da_cons (de_var (i := 1) rfl (by first | exact Or.inl rfl | exact Or.inr (Or.inl rfl)) rfl) (da_cons (de_var (i := 1) rfl (by first | exact Or.inl rfl | exact Or.inr (Or.inl rfl)) rfl) (da_cons (de_var (i := 4) rfl (by first | exact Or.inl rfl | exact Or.inr (Or.inl rfl)) rfl) da_nil))))))))) (by show 9 ≤ sizeLine; decide)) (by rfl)
end
end K7

set_option Elab.async false
set_option linter.all false
set_option maxRecDepth 100000
set_option maxHeartbeats 4000000
namespace K7
open PySem PySem.Spec L2 CT
open PyProof.Rows hiding St
theorem rds_ints {K : PySem.W.Frag} {H : Hp} {S : CT.Ad} : ∀ ns : List Int, RdsL K H S (ns.map .int) (ns.map V.int)
  | [] => .nil
  | n :: ns => .cons (.int n) (rds_ints ns)
theorem law_sp {K : PySem.W.Frag} {H : Hp} {a : Addr} {ns : List Int} (hl : ns.length ≤ 63) (h : SqL K H a (ns.map V.int)) : spD K pLaw [.ref a] H (fun v _ => v = .bl true) fun _ _ _ => False := by
  refine ⟨no, [.lst (intsD ns)], .bl true, fun _ z => z.elim, .cons ?_ .nil, ⟨ns, rfl, hl, rfl⟩, fun v H' _ r => r.blV⟩
  rcases h with h | h
  · exact .lst h (fun z => z) (rds_ints ns)
  · exact .lstK h (rds_ints ns)
def kitsOk (K : PySem.W.Frag) (CE : Addr) (Cs : List Addr) : Bool := (List.range 19).all fun i => (List.range 19).all (fun j => PySem.W.kitOne K (.ref (Cs.getD i 0)) (.ref (Cs.getD j 0)) == some (decide (i = j))) &&
  PySem.W.kitOne K (.ref (Cs.getD i 0)) (.ref CE) == some true && PySem.W.kitOne K (.ref (Cs.getD i 0)) (.type "ValueError") == some true && xcOk K (Cs.getD i 0)
def x0Ok (K : PySem.W.Frag) (Cs : List Addr) : Bool := (List.range 11).all fun i => PySem.W.excIn K (Cs.getD i 0) bmV "ValueError.__new__" && PySem.W.keepIn K (.ref (Cs.getD i 0))
def mkOk (K : PySem.W.Frag) (Cs : List Addr) : Bool := (List.range 19).all fun i => decide (i < 11) || (xmkIn K (Cs.getD i 0) && PySem.W.keepIn K (.ref (Cs.getD i 0)))
theorem kits_of {K : PySem.W.Frag} {CE : Addr} {Cs : List Addr} (h : kitsOk K CE Cs = true) {i : Nat} (hi : i < 19) : (∀ j, j < 19 → PySem.W.kitOne K (.ref (Cs.getD i 0)) (.ref (Cs.getD j 0)) = some (decide (i = j))) ∧
    PySem.W.kitOne K (.ref (Cs.getD i 0)) (.ref CE) = some true ∧ PySem.W.kitOne K (.ref (Cs.getD i 0)) (.type "ValueError") = some true ∧ XIsi K (Cs.getD i 0) := by
  have h := List.all_eq_true.mp h i (List.mem_range.mpr hi)
  simp only [Bool.and_eq_true, beq_iff_eq] at h
  obtain ⟨⟨⟨h1, h2⟩, h3⟩, h4⟩ := h
  exact ⟨fun j hj => beq_iff_eq.mp (List.all_eq_true.mp h1 j (List.mem_range.mpr hj)), h2, h3, xisi_of h4⟩
theorem x0_of {K : PySem.W.Frag} {Cs : List Addr} (h : x0Ok K Cs = true) {i : Nat} (hi : i < 11) : PySem.W.excIn K (Cs.getD i 0) bmV "ValueError.__new__" = true ∧ PySem.W.keepIn K (.ref (Cs.getD i 0)) = true := by
  have h := List.all_eq_true.mp h i (List.mem_range.mpr hi)
  exact Bool.and_eq_true_iff.mp h
theorem mk_of {K : PySem.W.Frag} {Cs : List Addr} (h : mkOk K Cs = true) {i : Nat} (hi : i < 19) (h2 : ¬ i < 11) : xmkIn K (Cs.getD i 0) = true ∧ PySem.W.keepIn K (.ref (Cs.getD i 0)) = true := by
  have h := List.all_eq_true.mp h i (List.mem_range.mpr hi)
  rw [decide_eq_false h2, Bool.false_or] at h
  exact Bool.and_eq_true_iff.mp h
theorem all_mk {l : PySem.W.OpenLaw} {w : World} {K : PySem.W.Frag} {h : Heap} {mg : Str → Option Value} {fa CE C0 C1 C2 C3 C4 C5 C6 C7 C8 C9 C10 C11 C12 C13 C14 C15 C16 C17 C18 fCell fKinds fLaw fI11 fI12 fI13 fI14 fI15 fI16 fI17 fI18 : Addr} (X : K.In h) (G : h.Ns mainGlobals mg) (hfa : mg "law" = some (.ref fa))
    {odCell anCell odKinds anKinds odLaw anLaw odI11 anI11 odI12 anI12 odI13 anI13 odI14 anI14 odI15 anI15 odI16 anI16 odI17 anI17 odI18 anI18 : Option Addr} {slCell slKinds slLaw slI11 slI12 slI13 slI14 slI15 slI16 slI17 slI18 : Array (Option Value)} {ocCell kVCell dcCell pmCell cdCell ctCell ocKinds kVKinds dcKinds pmKinds cdKinds ctKinds ocLaw kVLaw dcLaw pmLaw cdLaw ctLaw ocI11 kVI11 dcI11 pmI11 cdI11 ctI11 ocI12 kVI12 dcI12 pmI12 cdI12 ctI12 ocI13 kVI13 dcI13 pmI13 cdI13 ctI13 ocI14 kVI14 dcI14 pmI14 cdI14 ctI14 ocI15 kVI15 dcI15 pmI15 cdI15 ctI15 ocI16 kVI16 dcI16 pmI16 cdI16 ctI16 ocI17 kVI17 dcI17 pmI17 cdI17 ctI17 ocI18 kVI18 dcI18 pmI18 cdI18 ctI18 : Value}
    (aE : PySem.W.nsIn K mainGlobals "CarryError" = some (some (.ref CE)))
    (a0 : PySem.W.nsIn K mainGlobals "NoRounds" = some (some (.ref C0)))
    (a1 : PySem.W.nsIn K mainGlobals "NoElement" = some (some (.ref C1)))
    (a2 : PySem.W.nsIn K mainGlobals "NoLower" = some (some (.ref C2)))
    (a3 : PySem.W.nsIn K mainGlobals "NoUpper" = some (some (.ref C3)))
    (a4 : PySem.W.nsIn K mainGlobals "NoHead" = some (some (.ref C4)))
    (a5 : PySem.W.nsIn K mainGlobals "NotLike" = some (some (.ref C5)))
    (a6 : PySem.W.nsIn K mainGlobals "NoCount" = some (some (.ref C6)))
    (a7 : PySem.W.nsIn K mainGlobals "NoPair" = some (some (.ref C7)))
    (a8 : PySem.W.nsIn K mainGlobals "NoKind" = some (some (.ref C8)))
    (a9 : PySem.W.nsIn K mainGlobals "NoLine" = some (some (.ref C9)))
    (a10 : PySem.W.nsIn K mainGlobals "NothingDone" = some (some (.ref C10)))
    (a11 : PySem.W.nsIn K mainGlobals "NoText" = some (some (.ref C11)))
    (a12 : PySem.W.nsIn K mainGlobals "NoCarry" = some (some (.ref C12)))
    (a13 : PySem.W.nsIn K mainGlobals "NoTower" = some (some (.ref C13)))
    (a14 : PySem.W.nsIn K mainGlobals "Uneven" = some (some (.ref C14)))
    (a15 : PySem.W.nsIn K mainGlobals "NoRelabeling" = some (some (.ref C15)))
    (a16 : PySem.W.nsIn K mainGlobals "TooMany" = some (some (.ref C16)))
    (a17 : PySem.W.nsIn K mainGlobals "NoMap" = some (some (.ref C17)))
    (a18 : PySem.W.nsIn K mainGlobals "NoName" = some (some (.ref C18)))
    (aCell : PySem.W.nsIn K mainGlobals "_law_cell" = some (some (.ref fCell)))
    (lCell : K.lookup fCell = some ⟨ocCell, odCell, .func (PySem.W.fnOf "_law_cell" "_law_cell" (defArgs sCell) (defBody sCell) (defScope sCell) .none kVCell dcCell pmCell anCell cdCell ctCell), slCell⟩)
    (cCell : PySem.W.codeIn K cdCell "_law_cell" = true)
    (kCell : PySem.W.keepIn K (.ref fCell) = true)
    (aKinds : PySem.W.nsIn K mainGlobals "_law_kinds" = some (some (.ref fKinds)))
    (lKinds : K.lookup fKinds = some ⟨ocKinds, odKinds, .func (PySem.W.fnOf "_law_kinds" "_law_kinds" (defArgs sKinds) (defBody sKinds) (defScope sKinds) .none kVKinds dcKinds pmKinds anKinds cdKinds ctKinds), slKinds⟩)
    (cKinds : PySem.W.codeIn K cdKinds "_law_kinds" = true)
    (kKinds : PySem.W.keepIn K (.ref fKinds) = true)
    (aLaw : PySem.W.nsIn K mainGlobals "law" = some (some (.ref fLaw)))
    (lLaw : K.lookup fLaw = some ⟨ocLaw, odLaw, .func (PySem.W.fnOf "law" "law" (defArgs sLaw) (defBody sLaw) (defScope sLaw) .none kVLaw dcLaw pmLaw anLaw cdLaw ctLaw), slLaw⟩)
    (cLaw : PySem.W.codeIn K cdLaw "law" = true)
    (kLaw : PySem.W.keepIn K (.ref fLaw) = true)
    (aI11 : PySem.W.findIn K (.ref C11) "__init__" = some (some (.ref fI11)))
    (iI11 : PySem.W.isFn K (.ref fI11) = true)
    (lI11 : K.lookup fI11 = some ⟨ocI11, odI11, .func (PySem.W.fnOf "__init__" "NoText.__init__" (defArgs (sInit 11)) (defBody (sInit 11)) (defScope (sInit 11)) .none kVI11 dcI11 pmI11 anI11 cdI11 ctI11), slI11⟩)
    (cI11 : PySem.W.codeIn K cdI11 "NoText.__init__" = true)
    (kI11 : PySem.W.keepIn K (.ref fI11) = true)
    (aI12 : PySem.W.findIn K (.ref C12) "__init__" = some (some (.ref fI12)))
    (iI12 : PySem.W.isFn K (.ref fI12) = true)
    (lI12 : K.lookup fI12 = some ⟨ocI12, odI12, .func (PySem.W.fnOf "__init__" "NoCarry.__init__" (defArgs (sInit 12)) (defBody (sInit 12)) (defScope (sInit 12)) .none kVI12 dcI12 pmI12 anI12 cdI12 ctI12), slI12⟩)
    (cI12 : PySem.W.codeIn K cdI12 "NoCarry.__init__" = true)
    (kI12 : PySem.W.keepIn K (.ref fI12) = true)
    (aI13 : PySem.W.findIn K (.ref C13) "__init__" = some (some (.ref fI13)))
    (iI13 : PySem.W.isFn K (.ref fI13) = true)
    (lI13 : K.lookup fI13 = some ⟨ocI13, odI13, .func (PySem.W.fnOf "__init__" "NoTower.__init__" (defArgs (sInit 13)) (defBody (sInit 13)) (defScope (sInit 13)) .none kVI13 dcI13 pmI13 anI13 cdI13 ctI13), slI13⟩)
    (cI13 : PySem.W.codeIn K cdI13 "NoTower.__init__" = true)
    (kI13 : PySem.W.keepIn K (.ref fI13) = true)
    (aI14 : PySem.W.findIn K (.ref C14) "__init__" = some (some (.ref fI14)))
    (iI14 : PySem.W.isFn K (.ref fI14) = true)
    (lI14 : K.lookup fI14 = some ⟨ocI14, odI14, .func (PySem.W.fnOf "__init__" "Uneven.__init__" (defArgs (sInit 14)) (defBody (sInit 14)) (defScope (sInit 14)) .none kVI14 dcI14 pmI14 anI14 cdI14 ctI14), slI14⟩)
    (cI14 : PySem.W.codeIn K cdI14 "Uneven.__init__" = true)
    (kI14 : PySem.W.keepIn K (.ref fI14) = true)
    (aI15 : PySem.W.findIn K (.ref C15) "__init__" = some (some (.ref fI15)))
    (iI15 : PySem.W.isFn K (.ref fI15) = true)
    (lI15 : K.lookup fI15 = some ⟨ocI15, odI15, .func (PySem.W.fnOf "__init__" "NoRelabeling.__init__" (defArgs (sInit 15)) (defBody (sInit 15)) (defScope (sInit 15)) .none kVI15 dcI15 pmI15 anI15 cdI15 ctI15), slI15⟩)
    (cI15 : PySem.W.codeIn K cdI15 "NoRelabeling.__init__" = true)
    (kI15 : PySem.W.keepIn K (.ref fI15) = true)
    (aI16 : PySem.W.findIn K (.ref C16) "__init__" = some (some (.ref fI16)))
    (iI16 : PySem.W.isFn K (.ref fI16) = true)
    (lI16 : K.lookup fI16 = some ⟨ocI16, odI16, .func (PySem.W.fnOf "__init__" "TooMany.__init__" (defArgs (sInit 16)) (defBody (sInit 16)) (defScope (sInit 16)) .none kVI16 dcI16 pmI16 anI16 cdI16 ctI16), slI16⟩)
    (cI16 : PySem.W.codeIn K cdI16 "TooMany.__init__" = true)
    (kI16 : PySem.W.keepIn K (.ref fI16) = true)
    (aI17 : PySem.W.findIn K (.ref C17) "__init__" = some (some (.ref fI17)))
    (iI17 : PySem.W.isFn K (.ref fI17) = true)
    (lI17 : K.lookup fI17 = some ⟨ocI17, odI17, .func (PySem.W.fnOf "__init__" "NoMap.__init__" (defArgs (sInit 17)) (defBody (sInit 17)) (defScope (sInit 17)) .none kVI17 dcI17 pmI17 anI17 cdI17 ctI17), slI17⟩)
    (cI17 : PySem.W.codeIn K cdI17 "NoMap.__init__" = true)
    (kI17 : PySem.W.keepIn K (.ref fI17) = true)
    (aI18 : PySem.W.findIn K (.ref C18) "__init__" = some (some (.ref fI18)))
    (iI18 : PySem.W.isFn K (.ref fI18) = true)
    (lI18 : K.lookup fI18 = some ⟨ocI18, odI18, .func (PySem.W.fnOf "__init__" "NoName.__init__" (defArgs (sInit 18)) (defBody (sInit 18)) (defScope (sInit 18)) .none kVI18 dcI18 pmI18 anI18 cdI18 ctI18), slI18⟩)
    (cI18 : PySem.W.codeIn K cdI18 "NoName.__init__" = true)
    (kI18 : PySem.W.keepIn K (.ref fI18) = true)
    (n11at : PySem.W.findIn K (.ref C11) "at" = some none)
    (n12x : PySem.W.findIn K (.ref C12) "x" = some none)
    (n12y : PySem.W.findIn K (.ref C12) "y" = some none)
    (n13three : PySem.W.findIn K (.ref C13) "three" = some none)
    (n14two : PySem.W.findIn K (.ref C14) "two" = some none)
    (n15x : PySem.W.findIn K (.ref C15) "x" = some none)
    (n16many : PySem.W.findIn K (.ref C16) "many" = some none)
    (n17head : PySem.W.findIn K (.ref C17) "head" = some none)
    (n18name : PySem.W.findIn K (.ref C18) "name" = some none)
    (zisinstance : PySem.W.nsIn K mainGlobals "isinstance" = some none)
    (ztuple : PySem.W.nsIn K mainGlobals "tuple" = some none)
    (zlen : PySem.W.nsIn K mainGlobals "len" = some none)
    (zrange : PySem.W.nsIn K mainGlobals "range" = some none)
    (zsum : PySem.W.nsIn K mainGlobals "sum" = some none)
    (zenumerate : PySem.W.nsIn K mainGlobals "enumerate" = some none)
    (zValueError : PySem.W.nsIn K mainGlobals "ValueError" = some none)
    (hx0 : x0Ok K [C0, C1, C2, C3, C4, C5, C6, C7, C8, C9, C10, C11, C12, C13, C14, C15, C16, C17, C18] = true)
    (hmk : mkOk K [C0, C1, C2, C3, C4, C5, C6, C7, C8, C9, C10, C11, C12, C13, C14, C15, C16, C17, C18] = true)
    (hkit : kitsOk K CE [C0, C1, C2, C3, C4, C5, C6, C7, C8, C9, C10, C11, C12, C13, C14, C15, C16, C17, C18] = true) :
    ∃ fd : FuncData, (∀ (s : Shared) (v : Value), BindsTo s fd ⟨[v], []⟩ [("_law_script", v)]) ∧ ∀ base : Heap, K.In base → base.Ns mainGlobals mg → FnOk l.prog w K mg base CX0 4 fa fd ["_law_script"] (spD K pLaw) := by
  have e := hfa.symm.trans (PySem.W.mg_of X G aLaw)
  cases e
  have B : Bl mg := ⟨PySem.W.mg_none_of X G zisinstance, PySem.W.mg_none_of X G ztuple, PySem.W.mg_none_of X G zlen, PySem.W.mg_none_of X G zrange, PySem.W.mg_none_of X G zsum, PySem.W.mg_none_of X G zenumerate⟩
  have FCell := fun_mk (st := sCell) lCell cCell kCell
  have FKinds := fun_mk (st := sKinds) lKinds cKinds kKinds
  have FLaw := fun_mk (st := sLaw) lLaw cLaw kLaw
  have FI11 := fun_mk (st := (sInit 11)) lI11 cI11 kI11
  have FI12 := fun_mk (st := (sInit 12)) lI12 cI12 kI12
  have FI13 := fun_mk (st := (sInit 13)) lI13 cI13 kI13
  have FI14 := fun_mk (st := (sInit 14)) lI14 cI14 kI14
  have FI15 := fun_mk (st := (sInit 15)) lI15 cI15 kI15
  have FI16 := fun_mk (st := (sInit 16)) lI16 cI16 kI16
  have FI17 := fun_mk (st := (sInit 17)) lI17 cI17 kI17
  have FI18 := fun_mk (st := (sInit 18)) lI18 cI18 kI18
  have gl : ∀ i, i < 19 → mg (nms.getD i "") = some (.ref ([C0, C1, C2, C3, C4, C5, C6, C7, C8, C9, C10, C11, C12, C13, C14, C15, C16, C17, C18].getD i 0)) := fun i hi => match i, hi with
    | 0, _ => PySem.W.mg_of X G a0
    | 1, _ => PySem.W.mg_of X G a1
    | 2, _ => PySem.W.mg_of X G a2
    | 3, _ => PySem.W.mg_of X G a3
    | 4, _ => PySem.W.mg_of X G a4
    | 5, _ => PySem.W.mg_of X G a5
    | 6, _ => PySem.W.mg_of X G a6
    | 7, _ => PySem.W.mg_of X G a7
    | 8, _ => PySem.W.mg_of X G a8
    | 9, _ => PySem.W.mg_of X G a9
    | 10, _ => PySem.W.mg_of X G a10
    | 11, _ => PySem.W.mg_of X G a11
    | 12, _ => PySem.W.mg_of X G a12
    | 13, _ => PySem.W.mg_of X G a13
    | 14, _ => PySem.W.mg_of X G a14
    | 15, _ => PySem.W.mg_of X G a15
    | 16, _ => PySem.W.mg_of X G a16
    | 17, _ => PySem.W.mg_of X G a17
    | 18, _ => PySem.W.mg_of X G a18
    | n + 19, h => absurd h (by omega)
  have XS : Xs K mg CE (fun i => [C0, C1, C2, C3, C4, C5, C6, C7, C8, C9, C10, C11, C12, C13, C14, C15, C16, C17, C18].getD i 0) := ⟨gl, fun i hi => (kits_of hkit hi).2.2.2, fun i j hi hj => (kits_of hkit hi).1 j hj, fun i hi => (kits_of hkit hi).2.1, fun i hi => (kits_of hkit hi).2.2.1, PySem.W.mg_of X G aE⟩
  have x11 : Ix K "NoText.__init__" 11 (fun i => [C0, C1, C2, C3, C4, C5, C6, C7, C8, C9, C10, C11, C12, C13, C14, C15, C16, C17, C18].getD i 0) ["self", "at"] ["at"] fI11 _ := ⟨FI11, ⟨(mk_of hmk (i := 11) (by decide) (by decide)).1, aI11, iI11, (mk_of hmk (i := 11) (by decide) (by decide)).2⟩, (FI11.binds fun _ _ _ _ _ _ us hl => match us, hl with | [_, _], _ => rfl), fun fl hm => by simp only [List.mem_cons, List.not_mem_nil, or_false] at hm; subst hm; exact n11at⟩
  have x12 : Ix K "NoCarry.__init__" 12 (fun i => [C0, C1, C2, C3, C4, C5, C6, C7, C8, C9, C10, C11, C12, C13, C14, C15, C16, C17, C18].getD i 0) ["self", "x", "y"] ["x", "y"] fI12 _ := ⟨FI12, ⟨(mk_of hmk (i := 12) (by decide) (by decide)).1, aI12, iI12, (mk_of hmk (i := 12) (by decide) (by decide)).2⟩, (FI12.binds fun _ _ _ _ _ _ us hl => match us, hl with | [_, _, _], _ => rfl), fun fl hm => by simp only [List.mem_cons, List.not_mem_nil, or_false] at hm; rcases hm with rfl | rfl; exact n12x; exact n12y⟩
  have x13 : Ix K "NoTower.__init__" 13 (fun i => [C0, C1, C2, C3, C4, C5, C6, C7, C8, C9, C10, C11, C12, C13, C14, C15, C16, C17, C18].getD i 0) ["self", "three"] ["three"] fI13 _ := ⟨FI13, ⟨(mk_of hmk (i := 13) (by decide) (by decide)).1, aI13, iI13, (mk_of hmk (i := 13) (by decide) (by decide)).2⟩, (FI13.binds fun _ _ _ _ _ _ us hl => match us, hl with | [_, _], _ => rfl), fun fl hm => by simp only [List.mem_cons, List.not_mem_nil, or_false] at hm; subst hm; exact n13three⟩
  have x14 : Ix K "Uneven.__init__" 14 (fun i => [C0, C1, C2, C3, C4, C5, C6, C7, C8, C9, C10, C11, C12, C13, C14, C15, C16, C17, C18].getD i 0) ["self", "two"] ["two"] fI14 _ := ⟨FI14, ⟨(mk_of hmk (i := 14) (by decide) (by decide)).1, aI14, iI14, (mk_of hmk (i := 14) (by decide) (by decide)).2⟩, (FI14.binds fun _ _ _ _ _ _ us hl => match us, hl with | [_, _], _ => rfl), fun fl hm => by simp only [List.mem_cons, List.not_mem_nil, or_false] at hm; subst hm; exact n14two⟩
  have x15 : Ix K "NoRelabeling.__init__" 15 (fun i => [C0, C1, C2, C3, C4, C5, C6, C7, C8, C9, C10, C11, C12, C13, C14, C15, C16, C17, C18].getD i 0) ["self", "x"] ["x"] fI15 _ := ⟨FI15, ⟨(mk_of hmk (i := 15) (by decide) (by decide)).1, aI15, iI15, (mk_of hmk (i := 15) (by decide) (by decide)).2⟩, (FI15.binds fun _ _ _ _ _ _ us hl => match us, hl with | [_, _], _ => rfl), fun fl hm => by simp only [List.mem_cons, List.not_mem_nil, or_false] at hm; subst hm; exact n15x⟩
  have x16 : Ix K "TooMany.__init__" 16 (fun i => [C0, C1, C2, C3, C4, C5, C6, C7, C8, C9, C10, C11, C12, C13, C14, C15, C16, C17, C18].getD i 0) ["self", "many"] ["many"] fI16 _ := ⟨FI16, ⟨(mk_of hmk (i := 16) (by decide) (by decide)).1, aI16, iI16, (mk_of hmk (i := 16) (by decide) (by decide)).2⟩, (FI16.binds fun _ _ _ _ _ _ us hl => match us, hl with | [_, _], _ => rfl), fun fl hm => by simp only [List.mem_cons, List.not_mem_nil, or_false] at hm; subst hm; exact n16many⟩
  have x17 : Ix K "NoMap.__init__" 17 (fun i => [C0, C1, C2, C3, C4, C5, C6, C7, C8, C9, C10, C11, C12, C13, C14, C15, C16, C17, C18].getD i 0) ["self", "head"] ["head"] fI17 _ := ⟨FI17, ⟨(mk_of hmk (i := 17) (by decide) (by decide)).1, aI17, iI17, (mk_of hmk (i := 17) (by decide) (by decide)).2⟩, (FI17.binds fun _ _ _ _ _ _ us hl => match us, hl with | [_, _], _ => rfl), fun fl hm => by simp only [List.mem_cons, List.not_mem_nil, or_false] at hm; subst hm; exact n17head⟩
  have x18 : Ix K "NoName.__init__" 18 (fun i => [C0, C1, C2, C3, C4, C5, C6, C7, C8, C9, C10, C11, C12, C13, C14, C15, C16, C17, C18].getD i 0) ["self", "name"] ["name"] fI18 _ := ⟨FI18, ⟨(mk_of hmk (i := 18) (by decide) (by decide)).1, aI18, iI18, (mk_of hmk (i := 18) (by decide) (by decide)).2⟩, (FI18.binds fun _ _ _ _ _ _ us hl => match us, hl with | [_, _], _ => rfl), fun fl hm => by simp only [List.mem_cons, List.not_mem_nil, or_false] at hm; subst hm; exact n18name⟩
  have T : Txt K mg CE (fun i => [C0, C1, C2, C3, C4, C5, C6, C7, C8, C9, C10, C11, C12, C13, C14, C15, C16, C17, C18].getD i 0) fCell fKinds _ _ (fun i => [fI11, fI12, fI13, fI14, fI15, fI16, fI17, fI18].getD (i - 11) 0) (fun i => [_, _, _, _, _, _, _, _].getD (i - 11) (PySem.W.fnOf "" "" (defArgs sLaw) [] (defScope sLaw) .none .none .none .none none .none .none)) := ⟨B, XS, fun i hi => x0_of hx0 hi, FCell, (FCell.binds fun _ _ _ _ _ _ us hl => match us, hl with | [_, _], _ => rfl), PySem.W.mg_of X G aCell, FKinds, (FKinds.binds fun _ _ _ _ _ _ us hl => match us, hl with | [_], _ => rfl), PySem.W.mg_of X G aKinds, PySem.W.mg_none_of X G zValueError, x11, x12, x13, x14, x15, x16, x17, x18⟩
  exact ⟨_, fun s v => .of_eq rfl, fun base _ _ => ok_law FLaw T⟩
theorem walk {l : PySem.W.OpenLaw} {q : Program} {loose : List Str} {XP : (Str → Option Value) → Heap → Prop} {YP : World → Heap → Prop} {d : DefRec} {K : Params → PySem.W.Frag} (hn : l.most = some 63) (hdf : d.params.defaults = [])
    (hY : ∀ (w : World) (h : Heap), YP w h → (K w.params).In h)
    (F : ∀ (w : World) (mg : Str → Option Value) (fa : Addr) (h : Heap), (K w.params).In h → h.Ns mainGlobals mg → mg d.name = some (.ref fa) →
      ∃ fd : FuncData, (∀ (s : Shared) (u : Value), BindsTo s fd ⟨[u], []⟩ [("_law_script", u)]) ∧ ∀ base : Heap, (K w.params).In base → base.Ns mainGlobals mg → FnOk l.prog w (K w.params) mg base CX0 4 fa fd ["_law_script"] (spD (K w.params) pLaw)) :
    PySem.W.WalkO q loose XP YP l.row.toRowW d [] (fun f vs => PySem.call f vs) :=
  L2.walk_of (n := 63) (k := 4) (x := "_law_script") (CX := fun _ => CX0) (sp := fun w => spD (K w.params) pLaw) hn (by decide) hdf ⟨rfl, by decide, by decide⟩ hY F (fun _ _ a ns hl _ hS => law_sp hl hS) fun _ _ _ _ _ z => z
end K7
open PySem PySem.W PyProof.Rows
set_option maxRecDepth 100000 in
set_option maxHeartbeats 0 in
theorem PySem.Challenge.cw_carrytower_k07_refusals_made_holds : PySem.Challenge.rw_carrytower_k07_refusals_made.Holds := by
  w_on; o_law; k_head; (case hw => w_witness2)
  k_fill
  refine K7.walk (l := PySem.Challenge.rw_carrytower_k07_refusals_made) rfl rfl (fun w h Y => PySem.W.kIn_of Y) ?F
  case F =>
    intro w mg fa h KX G hmg
    refine' K7.all_mk KX G hmg ?aE ?a0 ?a1 ?a2 ?a3 ?a4 ?a5 ?a6 ?a7 ?a8 ?a9 ?a10 ?a11 ?a12 ?a13 ?a14 ?a15 ?a16 ?a17 ?a18 ?aCell ?lCell ?cCell ?kCell ?aKinds ?lKinds ?cKinds ?kKinds ?aLaw ?lLaw ?cLaw ?kLaw ?aI11 ?iI11 ?lI11 ?cI11 ?kI11 ?aI12 ?iI12 ?lI12 ?cI12 ?kI12 ?aI13 ?iI13 ?lI13 ?cI13 ?kI13 ?aI14 ?iI14 ?lI14 ?cI14 ?kI14 ?aI15 ?iI15 ?lI15 ?cI15 ?kI15 ?aI16 ?iI16 ?lI16 ?cI16 ?kI16 ?aI17 ?iI17 ?lI17 ?cI17 ?kI17 ?aI18 ?iI18 ?lI18 ?cI18 ?kI18 ?n11at ?n12x ?n12y ?n13three ?n14two ?n15x ?n16many ?n17head ?n18name ?zisinstance ?ztuple ?zlen ?zrange ?zsum ?zenumerate ?zValueError ?hx0 ?hmk ?hkit
    (case aE => k_is)
    (case a0 => k_is)
    (case a1 => k_is)
    (case a2 => k_is)
    (case a3 => k_is)
    (case a4 => k_is)
    (case a5 => k_is)
    (case a6 => k_is)
    (case a7 => k_is)
    (case a8 => k_is)
    (case a9 => k_is)
    (case a10 => k_is)
    (case a11 => k_is)
    (case a12 => k_is)
    (case a13 => k_is)
    (case a14 => k_is)
    (case a15 => k_is)
    (case a16 => k_is)
    (case a17 => k_is)
    (case a18 => k_is)
    (case aCell => k_is)
    (case lCell => k_is)
    (case cCell => k_is)
    (case kCell => k_is)
    (case aKinds => k_is)
    (case lKinds => k_is)
    (case cKinds => k_is)
    (case kKinds => k_is)
    (case aLaw => k_is)
    (case lLaw => k_is)
    (case cLaw => k_is)
    (case kLaw => k_is)
    (case aI11 => k_is)
    (case iI11 => k_is)
    (case lI11 => k_is)
    (case cI11 => k_is)
    (case kI11 => k_is)
    (case aI12 => k_is)
    (case iI12 => k_is)
    (case lI12 => k_is)
    (case cI12 => k_is)
    (case kI12 => k_is)
    (case aI13 => k_is)
    (case iI13 => k_is)
    (case lI13 => k_is)
    (case cI13 => k_is)
    (case kI13 => k_is)
    (case aI14 => k_is)
    (case iI14 => k_is)
    (case lI14 => k_is)
    (case cI14 => k_is)
    (case kI14 => k_is)
    (case aI15 => k_is)
    (case iI15 => k_is)
    (case lI15 => k_is)
    (case cI15 => k_is)
    (case kI15 => k_is)
    (case aI16 => k_is)
    (case iI16 => k_is)
    (case lI16 => k_is)
    (case cI16 => k_is)
    (case kI16 => k_is)
    (case aI17 => k_is)
    (case iI17 => k_is)
    (case lI17 => k_is)
    (case cI17 => k_is)
    (case kI17 => k_is)
    (case aI18 => k_is)
    (case iI18 => k_is)
    (case lI18 => k_is)
    (case cI18 => k_is)
    (case kI18 => k_is)
    (case n11at => k_is)
    (case n12x => k_is)
    (case n12y => k_is)
    (case n13three => k_is)
    (case n14two => k_is)
    (case n15x => k_is)
    (case n16many => k_is)
    (case n17head => k_is)
    (case n18name => k_is)
    (case zisinstance => k_is)
    (case ztuple => k_is)
    (case zlen => k_is)
    (case zrange => k_is)
    (case zsum => k_is)
    (case zenumerate => k_is)
    (case zValueError => k_is)
    (case hx0 => kernel_rfl)
    (case hmk => kernel_rfl)
    (case hkit => kernel_rfl)
