import PyProof.Rows.All
import Wide.All
import OpenK.AllK
import Wide.FinOn
import Lean
import PyProof.EqAt
import PyProof.EqKinds
import PyProof.TupleCall
import PyProof.CompUse
import PyProof.Cells
import PyProof.ZipIter
import PyProof.TupleIter
import PyProof.ListMulRoad
import PyProof.AutoListH
import PyProof.FactsAll.tuple_2
import PyProof.CompFree
import PyProof.PlainList
import KE.KIsAll
import OpenK.KOwn
import PyProof.ExcInit
import PyProof.ExcArgsOwn
import PyProof.ExcAttrAll.ValueError
import PyProof.NeData
import PyProof.Rows.SumAny
import PyProof.EnumMake
import PyProof.EnumFor
import PyProof.EnumStmt
import PyProof.Rows.SeqMore
import PyProof.StationsW
import PyProof.RulesAs
import PyProof.NsDelKeeps
import PySem.Challenge.RW_carrytower_k02_no_rounds
set_option Elab.async false
set_option linter.all false
set_option maxRecDepth 100000
/-! THE HAND LAYER, for ints, bools, texts, own classes, LISTS and tuples (index, slices, in, append, pop ..), calls, loops. Paste it whole ahead of your own text; what your proof does not reach may be deleted. -/
namespace L2
open PySem PySem.Spec PyProof.Rows
/-- a key: an int or a str -/
abbrev Key := Sum Int Str
def keyIs : Key → Value → Bool
  | .inl k, v => Value.isInt k v
  | .inr x, v => Value.isStrOf x v
def keyH (w : World) : Key → Int
  | .inl k => hashInt k
  | .inr x => hashStr w x
theorem keyIs_shape : ∀ {k : Key} {v : Value}, keyIs k v = true → (∃ i t, k = Sum.inl i ∧ v = Value.int i t) ∨ (∃ x t, k = Sum.inr x ∧ v = Value.str x t)
  | .inl i, v, h => by
    obtain ⟨t, e⟩ := Value.isInt_shape (k := i) (v := v) h
    exact .inl ⟨i, t, rfl, e⟩
  | .inr x, v, h => by
    obtain ⟨t, e⟩ := Value.isStrOf_shape (x := x) (v := v) h
    exact .inr ⟨x, t, rfl, e⟩
theorem keyIs_int (i : Int) (t : Tok) : keyIs (.inl i) (.int i t) = true := by simp [keyIs, Value.isInt]
theorem keyIs_str (x : Str) (t : Tok) : keyIs (.inr x) (.str x t) = true := by simp [keyIs, Value.isStrOf]
theorem key_ll (a b : Int) : decide ((Sum.inl a : Key) = Sum.inl b) = (a == b) := by
  by_cases e : a = b
  · subst e; simp
  · have h : ¬ (Sum.inl a : Key) = Sum.inl b := fun q => e (Sum.inl.inj q)
    rw [decide_eq_false h]
    exact (beq_eq_false_iff_ne.mpr e).symm
theorem key_rr (a b : Str) : decide ((Sum.inr a : Key) = Sum.inr b) = decide (a = b) := by
  by_cases e : a = b
  · subst e; simp
  · have h : ¬ (Sum.inr a : Key) = Sum.inr b := fun q => e (Sum.inr.inj q)
    rw [decide_eq_false h, decide_eq_false e]
theorem key_lr (a : Int) (b : Str) : decide ((Sum.inl a : Key) = Sum.inr b) = false := decide_eq_false (fun q => nomatch q)
theorem key_rl (a : Str) (b : Int) : decide ((Sum.inr a : Key) = Sum.inl b) = false := decide_eq_false (fun q => nomatch q)
def mixKind (prog : Program) (w : World) : PySem.KeyKind prog w Key where
  is := keyIs
  hash := keyH w
  inj := fun v a b ha hb => by
    rcases keyIs_shape ha with ⟨i, t, rfl, rfl⟩ | ⟨x, t, rfl, rfl⟩
    · rcases keyIs_shape hb with ⟨j, u, rfl, e⟩ | ⟨y, u, rfl, e⟩
      · injection e with e1 _; rw [e1]
      · exact nomatch e
    · rcases keyIs_shape hb with ⟨j, u, rfl, e⟩ | ⟨y, u, rfl, e⟩
      · exact nomatch e
      · injection e with e1 _; rw [e1]
  byValue := fun k v h => by
    rcases keyIs_shape h with ⟨i, t, rfl, rfl⟩ | ⟨x, t, rfl, rfl⟩ <;> rfl
  pyHash := fun hv h => by
    rcases keyIs_shape hv with ⟨i, t, rfl, rfl⟩ | ⟨x, t, rfl, rfl⟩
    · exact wpAny_pyHash_int h
    · exact wpAny_pyHash_str h
  eqBool := fun hu hv h => by
    rcases keyIs_shape hu with ⟨i, t, rfl, rfl⟩ | ⟨x, t, rfl, rfl⟩
    · rcases keyIs_shape hv with ⟨j, u, rfl, rfl⟩ | ⟨y, u, rfl, rfl⟩
      · rw [key_ll] at h; exact wpAny_eqBool_int h
      · rw [key_lr] at h; exact SeqAt.EqAt.int_str i t y u _ _ _ _ h
    · rcases keyIs_shape hv with ⟨j, u, rfl, rfl⟩ | ⟨y, u, rfl, rfl⟩
      · rw [key_rl] at h; exact SeqAt.EqAt.str_int x t j u _ _ _ _ h
      · rw [key_rr] at h; exact wpAny_eqBool_str h
  «strs» := fun k x t v h => by
    rcases keyIs_shape h with ⟨i, u, rfl, e⟩ | ⟨y, u, rfl, e⟩
    · exact nomatch e
    · injection e with e1 _
      subst e1
      cases v <;> rfl
theorem mixKind_int (prog : Program) (w : World) (i : Int) (t : Tok) : (mixKind prog w).is (.inl i) (.int i t) = true := keyIs_int i t
theorem mixKind_str (prog : Program) (w : World) (x : Str) (t : Tok) : (mixKind prog w).is (.inr x) (.str x t) = true := keyIs_str x t
end L2
namespace L2
open PySem PySem.Spec PyProof.Rows
/-- a value, without the heap -/
inductive V where
  | non | bl (b : Bool) | int (i : Int) | str (x : Str) | byt (b : Array UInt8) | flt (b : UInt64) | ref (a : Addr) | ty (n : String)
  deriving DecidableEq
def RelV : V → Value → Prop
  | .non, u => u = Value.none
  | .bl b, u => u = Value.bool b
  | .int i, u => ∃ t, u = Value.int i t
  | .str x, u => ∃ t, u = Value.str x t
  | .byt b, u => ∃ t, u = Value.bytes b t
  | .flt b, u => ∃ t, u = Value.float b t
  | .ref a, u => u = Value.ref a
  | .ty n, u => u = Value.type n
abbrev Vals : List V → List Value → Prop := Paired RelV
theorem Vals.length {xs : List V} {us : List Value} (r : Vals xs us) : xs.length = us.length := Paired.length r
theorem Vals.get : ∀ {xs : List V} {us : List Value} {i : Nat} {x : V}, Vals xs us → xs[i]? = some x → ∃ u, us[i]? = some u ∧ RelV x u
  | _, _, _, _, .nil, e => by simp at e
  | _, _, 0, _, .cons r _, e => by simp at e; subst e; exact ⟨_, rfl, r⟩
  | _, _, i + 1, x, .cons _ t, e => by
    obtain ⟨u, h1, h2⟩ := Vals.get (i := i) (x := x) t (by simpa using e)
    exact ⟨u, by simpa using h1, h2⟩
theorem Vals.set {x : V} {u : Value} (r : RelV x u) : ∀ {xs : List V} {us : List Value} (i : Nat), Vals xs us → Vals (xs.set i x) (us.set i u)
  | _, _, _, .nil => .nil
  | _, _, 0, .cons _ t => .cons r t
  | _, _, i + 1, .cons q t => .cons q (Vals.set r i t)
theorem Vals.append : ∀ {xs ys : List V} {us ws : List Value}, Vals xs us → Vals ys ws → Vals (xs ++ ys) (us ++ ws)
  | _, _, _, _, .nil, s => s
  | _, _, _, _, .cons r t, s => .cons r (Vals.append t s)
theorem Vals.take : ∀ {xs : List V} {us : List Value} (n : Nat), Vals xs us → Vals (xs.take n) (us.take n)
  | _, _, 0, _ => .nil
  | _, _, _ + 1, .nil => .nil
  | _, _, n + 1, .cons r t => .cons r (Vals.take n t)
theorem Vals.drop : ∀ {xs : List V} {us : List Value} (n : Nat), Vals xs us → Vals (xs.drop n) (us.drop n)
  | _, _, 0, r => r
  | _, _, _ + 1, .nil => .nil
  | _, _, n + 1, .cons _ t => Vals.drop n t
def RelO : Option V → Option Value → Prop
  | some v, some u => RelV v u
  | none, none => True
  | _, _ => False
def KV {κ : Type} : List (κ × V) → List (κ × Value) → Prop := Paired fun (p : κ × V) (q : κ × Value) => p.1 = q.1 ∧ RelV p.2 q.2
/-- a key of a dict (00_mix): an int or a text -/
def kV : Key → V
  | .inl i => .int i
  | .inr x => .str x
/-- what stands at a tracked address -/
inductive HO where
  /-- a list -/
  | lst (xs : List V)
  /-- a tuple (never changes) -/
  | tup (xs : List V)
  /-- a dict whose keys are ints and texts; one whose keys are tuples of ints and texts (the empty one is both) -/
  | dK (kvs : List (Key × V)) | dT (kvs : List (List Key × V))
  /-- a set of ints: its members, its size -/
  | set (S : Int → Bool) (n : Nat)
  /-- an instance of the class at C, its dict at dx, its attributes -/
  | ins (C dx : Addr) (fs : List (Str × V))
  /-- the dict of the instance at x -/
  | own (x : Addr)
  /-- the dict of an exception -/
  | xd (fs : List (Str × V))
  /-- a bound method, f of x -/
  | met (f x : Addr)
  /-- a range object lo, lo + 1, .. below hi -/
  | rng (lo hi : Int)
  /-- a thing that is known to the object (the script; a dict while a loop walks it): read, never written while it is so -/
  | frz (o : Obj) (u : HO)
  /-- a code object's table -/
  | tbl (ps : Array Value)
  /-- any other thing, by what is true of its one object (a def of one's own: SetO a S n := HO.ext fun h => ..) -/
  | ext (φ : Heap → Prop)
abbrev Hp := Addr → Option HO
def upd (H : Hp) (a : Addr) (o : HO) : Hp := fun b => if b = a then some o else H b
theorem upd_same {H : Hp} {a : Addr} {o : HO} : upd H a o a = some o := by unfold upd; rw [if_pos rfl]
theorem upd_ne {H : Hp} {a b : Addr} {o : HO} (h : b ≠ a) : upd H a o b = H b := by unfold upd; rw [if_neg h]
theorem upd_upd {H : Hp} {a : Addr} {o u : HO} : upd (upd H a o) a u = upd H a u := by
  funext b; unfold upd; split <;> rfl
theorem ne_of_none {H : Hp} {a b : Addr} {o : HO} (h : H a = some o) (h' : H b = none) : a ≠ b := by
  intro e; subst e; rw [h] at h'; cases h'
section
variable (P : Program) (w : World)
def ObjOk (H : Hp) (h : Heap) (a : Addr) : HO → Prop
  | .lst xs => xs.length ≤ sizeLine ∧ ∃ (its : List Value) (n : Nat), Vals xs its ∧ h.get? a = some { cls := .type "list", data := .seq its.toArray n }
  | .tup xs => xs.length ≤ sizeLine ∧ ∃ its : List Value, Vals xs its ∧ IsTup h a its.toArray
  | .dK kvs => kvs.length ≤ sizeLine ∧ (a == sysModules) = false ∧ ∃ vs, KV kvs vs ∧ h.DictOf (mixKind P w) a vs
  | .dT kvs => kvs.length ≤ sizeLine ∧ (a == sysModules) = false ∧ ∃ xs : List (List Key × Addr × Value),
      Paired (fun (p : List Key × V) (q : List Key × Addr × Value) => p.1 = q.1 ∧ H q.2.1 = some (.tup (p.1.map kV)) ∧ RelV p.2 q.2.2) kvs xs ∧
      ∃ o es ep, h.get? a = some o ∧ o.ExactDict ∧ o.data = .dict es ep ∧ es.toList = xs.map (entryOfKey (tupleKind (mixKind P w))) ∧ (xs.map (·.1)).Nodup
  | .set S n => h.SetOf (intKind P w) a S n
  | .ins C dx fs => H dx = some (.own a) ∧ fs.length ≤ 1000 ∧ dx ≠ a ∧ h.get? a = some (PySem.W.instObj C dx) ∧
      ∃ mA, h.Ns1 dx mA ∧ (∀ f, RelO (fs.lookup f) (mA f)) ∧ PySem.Within mA (fs.map (·.1))
  | .own _ => ∃ o, h.get? a = some o
  | .xd fs => ∃ mA, h.Ns1 a mA ∧ ∀ f, RelO (fs.lookup f) (mA f)
  | .rng lo hi => ∃ t u v, h.get? a = some { cls := .type "range", data := .fields #[.int lo t, .int hi u, .int 1 v] }
  | .frz o u => h.get? a = some o ∧ ObjOk H h a u
  | .tbl ps => h.get? a = some { cls := .none, data := .fields ps }
  | .met f x => h.get? a = some (PySem.W.methodObj (.ref f) (.ref x))
  | .ext φ => φ h ∧ (∃ o, h.get? a = some o) ∧ ∀ h1 h2 : Heap, φ h1 → (∀ o, h1.get? a = some o → h2.get? a = some o) → φ h2
/-- the abstract heap is held -/
def HOk (H : Hp) (h : Heap) : Prop := ∀ a o, H a = some o → ObjOk P w H h a o
end
section
variable {P : Program} {w : World} {H H' : Hp} {h h' : Heap} {a : Addr} {o : HO}
theorem ObjOk.lt (x : ObjOk P w H h a o) : a < h.objs.size := by
  cases o with
  | lst xs => obtain ⟨_, _, _, _, e⟩ := x; exact Heap.lt_size e
  | tup xs => obtain ⟨_, _, _, p⟩ := x; exact p.lt
  | dK kvs => obtain ⟨_, _, _, _, o, _, _, e, _⟩ := x; exact Heap.lt_size e
  | dT kvs => obtain ⟨_, _, _, _, o, _, _, e, _⟩ := x; exact Heap.lt_size e
  | set S n => obtain ⟨o, _, _, _, e, _⟩ := x; exact Heap.lt_size e
  | ins C dx fs => obtain ⟨_, _, _, e, _⟩ := x; exact Heap.lt_size e
  | own y => obtain ⟨_, e⟩ := x; exact Heap.lt_size e
  | xd fs => obtain ⟨_, ⟨_, _, _, e, _⟩, _⟩ := x; exact Heap.lt_size e
  | rng lo hi => obtain ⟨_, _, _, e⟩ := x; exact Heap.lt_size e
  | frz ob u => obtain ⟨e, _⟩ := x; exact Heap.lt_size e
  | tbl ps => exact Heap.lt_size (show h.get? a = some _ from x)
  | met f y => exact Heap.lt_size (show h.get? a = some _ from x)
  | ext φ => obtain ⟨_, ⟨_, e⟩, _⟩ := x; exact Heap.lt_size e
theorem Paired.mapP {α β : Type} {F G : α → β → Prop} : ∀ {l₁ : List α} {l₂ : List β}, Paired F l₁ l₂ → (∀ a b, F a b → G a b) → Paired G l₁ l₂
  | _, _, .nil, _ => .nil
  | _, _, .cons r t, f => .cons (f _ _ r) (Paired.mapP t f)
/-- what an object's description leans on: its own object, its own dict, the tuples -/
theorem ObjOk.stay (x : ObjOk P w H h a o) (k : ∀ b u, (b = a ∨ H b = some (.own a)) → h.get? b = some u → h'.get? b = some u)
    (ho : ∀ b, H b = some (.own a) → H' b = some (.own a)) (ht : ∀ b xs, H b = some (.tup xs) → H' b = some (.tup xs)) : ObjOk P w H' h' a o := by
  induction o with
  | lst xs => obtain ⟨z, its, n, r, e⟩ := x; exact ⟨z, its, n, r, k _ _ (.inl rfl) e⟩
  | tup xs => obtain ⟨z, its, r, ob, e, c⟩ := x; exact ⟨z, its, r, ob, k _ _ (.inl rfl) e, c⟩
  | dK kvs => obtain ⟨z, y, vs, r, ob, es, ep, e, c⟩ := x; exact ⟨z, y, vs, r, ob, es, ep, k _ _ (.inl rfl) e, c⟩
  | dT kvs =>
    obtain ⟨z, y, xs, r, ob, es, ep, e, c⟩ := x
    exact ⟨z, y, xs, Paired.mapP r fun p q z => ⟨z.1, ht _ _ z.2.1, z.2.2⟩, ob, es, ep, k _ _ (.inl rfl) e, c⟩
  | set S n => obtain ⟨ob, es, ep, t, e, c⟩ := x; exact ⟨ob, es, ep, t, k _ _ (.inl rfl) e, c⟩
  | ins C dx fs =>
    obtain ⟨d, z, ne, e, mA, ⟨od, es, ep, e2, c⟩, r⟩ := x
    exact ⟨ho _ d, z, ne, k _ _ (.inl rfl) e, mA, ⟨od, es, ep, k _ _ (.inr d) e2, c⟩, r⟩
  | own y => obtain ⟨ob, e⟩ := x; exact ⟨ob, k _ _ (.inl rfl) e⟩
  | xd fs => obtain ⟨mA, ⟨od, es, ep, e, c⟩, r⟩ := x; exact ⟨mA, ⟨od, es, ep, k _ _ (.inl rfl) e, c⟩, r⟩
  | rng lo hi => obtain ⟨t, u, v, e⟩ := x; exact ⟨t, u, v, k _ _ (.inl rfl) e⟩
  | frz ob u ih => obtain ⟨e, q⟩ := x; exact ⟨k _ _ (.inl rfl) e, ih q⟩
  | tbl ps =>
    have e : h.get? a = some { cls := .none, data := .fields ps } := x
    show h'.get? a = some { cls := .none, data := .fields ps }
    exact k a _ (.inl rfl) e
  | met f y =>
    have e : h.get? a = some (PySem.W.methodObj (.ref f) (.ref y)) := x
    show h'.get? a = some (PySem.W.methodObj (.ref f) (.ref y))
    exact k a _ (.inl rfl) e
  | ext φ => obtain ⟨p, ⟨o, e⟩, st⟩ := x; exact ⟨st _ _ p fun o q => k _ _ (.inl rfl) q, ⟨o, k _ _ (.inl rfl) e⟩, st⟩
theorem HOk.lt (x : HOk P w H h) (e : H a = some o) : a < h.objs.size := (x a o e).lt
theorem HOk.fresh (x : HOk P w H h) (e : h.objs.size ≤ a) : H a = none := by
  cases q : H a with
  | none => rfl
  | some u => exact absurd (Nat.lt_of_lt_of_le (x.lt q) e) (Nat.lt_irrefl _)
/-- every object of the heap is kept -/
theorem HOk.kept (x : HOk P w H h) (k : ∀ b u, h.get? b = some u → h'.get? b = some u) : HOk P w H h' := fun a o e =>
  (x a o e).stay (fun b u _ q => k b u q) (fun _ q => q) fun _ _ q => q
/-- a new object is laid and tracked -/
theorem HOk.laid (x : HOk P w H h) (k : ∀ b u, h.get? b = some u → h'.get? b = some u) (hp : h.objs.size ≤ a) (new : ObjOk P w (upd H a o) h' a o) : HOk P w (upd H a o) h' := fun b u e => by
  have hn := x.fresh hp
  by_cases hb : b = a
  · subst hb; rw [upd_same] at e; cases e; exact new
  · rw [upd_ne hb] at e
    exact (x b u e).stay (fun c v _ q => k c v q) (fun c q => by rw [upd_ne (ne_of_none q hn)]; exact q) fun c xs q => by rw [upd_ne (ne_of_none q hn)]; exact q
end
/-- what may be read as u: it is u, or a known u -/
def Rd (H : Hp) (a : Addr) (u : HO) : Prop := H a = some u ∨ ∃ o, H a = some (.frz o u)
theorem Rd.of {H : Hp} {a : Addr} {u : HO} (h : H a = some u) : Rd H a u := .inl h
theorem Rd.ok {P : Program} {w : World} {H : Hp} {h : Heap} {a : Addr} {u : HO} (r : Rd H a u) (x : HOk P w H h) : ObjOk P w H h a u := by
  rcases r with r | ⟨o, r⟩
  · exact x a u r
  · obtain ⟨_, q⟩ := x a _ r
    exact q
/-- what may be written -/
def Mut : Option HO → Prop
  | some (.lst _) => True
  | some (.dK _) => True
  | some (.dT _) => True
  | some (.set _ _) => True
  | some (.ins _ _ _) => True
  | some (.ext _) => True
  | _ => False
section
variable {P : Program} {w : World} {H : Hp} {h h' : Heap} {x e : Addr} {o' : HO}
/-- the object at e is changed: x itself, or the dict of the instance x -/
theorem HOk.write (ok : HOk P w H h) (mu : Mut (H x)) (he : e = x ∨ H e = some (.own x)) (k : ∀ b u, b ≠ e → h.get? b = some u → h'.get? b = some u) (heo : ∃ u, h'.get? e = some u)
    (new : ObjOk P w (upd H x o') h' x o') : HOk P w (upd H x o') h' := fun b u q => by
  have nown : ∀ c y, H c = some (.own y) → c ≠ x := fun c y r z => by subst z; rw [r] at mu; exact mu
  have ntup : ∀ c xs, H c = some (.tup xs) → c ≠ x := fun c xs r z => by subst z; rw [r] at mu; exact mu
  by_cases hb : b = x
  · subst hb; rw [upd_same] at q; cases q; exact new
  · rw [upd_ne hb] at q
    by_cases hbe : b = e
    · have q' : H b = some (.own x) := by
        rcases he with z | z
        · exact absurd (hbe.trans z) hb
        · rw [hbe]; exact z
      rw [q] at q'; cases q'
      obtain ⟨v, hv⟩ := heo
      exact ⟨v, by rw [hbe]; exact hv⟩
    · refine (ok b u q).stay (fun c v hc r => k c v ?_ r) (fun c r => by rw [upd_ne (nown c b r)]; exact r) fun c xs r => by rw [upd_ne (ntup c xs r)]; exact r
      rcases hc with rfl | hc
      · exact hbe
      · rintro rfl
        rcases he with z | z
        · exact nown c b hc z
        · rw [hc] at z; cases z; exact hb rfl
end
/-! ### kept unless tracked; of the frames at fs (the callers') the slots may change (an exception that passes writes there); of the records at ex (iterators) nothing is said -/
structure Un (fs ex : List Addr) (H H' : Hp) (h h' : Heap) : Prop where
  keep : ∀ b o, h.get? b = some o → H b = none → b ∉ fs → b ∉ ex → h'.get? b = some o
  slot : ∀ b o, h.get? b = some o → H b = none → b ∈ fs → b ∉ ex → ∃ sl, h'.get? b = some { o with slots := sl }
  free : ∀ b o, h.get? b = some o → H b = none → b ∉ ex → H' b = none
  there : ∀ b o, h.get? b = some o → b ∉ ex → ∃ o', h'.get? b = some o'
  tups : ∀ b xs, H b = some (.tup xs) → H' b = some (.tup xs)
  frzs : ∀ b o u, H b = some (.frz o u) → H' b = some (.frz o u)
  tbls : ∀ b ps, H b = some (.tbl ps) → ∃ more, H' b = some (.tbl (ps ++ more))
section
variable {fs fs' ex ex' : List Addr} {H H1 H2 : Hp} {h h1 h2 h' : Heap} {a x e : Addr} {o : HO}
theorem Un.any (u : Un fs ex H H1 h h1) {b : Addr} {ob : Obj} (q : h.get? b = some ob) (n : H b = none) (hx : b ∉ ex) : ∃ sl, h1.get? b = some { ob with slots := sl } := by
  by_cases hb : b ∈ fs
  · exact u.slot b ob q n hb hx
  · exact ⟨ob.slots, u.keep b ob q n hb hx⟩
theorem Un.trans (a : Un fs ex H H1 h h1) (b : Un fs ex H1 H2 h1 h2) : Un fs ex H H2 h h2 where
  keep := fun c ob q n hc hx => b.keep c ob (a.keep c ob q n hc hx) (a.free c ob q n hx) hc hx
  slot := fun c ob q n hc hx => by
    obtain ⟨sl, e1⟩ := a.slot c ob q n hc hx
    obtain ⟨sl', e2⟩ := b.slot c _ e1 (a.free c ob q n hx) hc hx
    exact ⟨sl', e2⟩
  free := fun c ob q n hx => by
    obtain ⟨o', e1⟩ := a.there c ob q hx
    exact b.free c o' e1 (a.free c ob q n hx) hx
  there := fun c ob q hx => by
    obtain ⟨o', e1⟩ := a.there c ob q hx
    exact b.there c o' e1 hx
  tups := fun c xs q => b.tups c xs (a.tups c xs q)
  frzs := fun c ob xs q => b.frzs c ob xs (a.frzs c ob xs q)
  tbls := fun c ps q => by
    obtain ⟨m1, e1⟩ := a.tbls c ps q
    obtain ⟨m2, e2⟩ := b.tbls c _ e1
    exact ⟨m1 ++ m2, by rw [e2, Array.append_assoc]⟩
theorem Un.kept (k : ∀ b u, h.get? b = some u → h'.get? b = some u) : Un fs ex H H h h' :=
  ⟨fun b ob q _ _ _ => k b ob q, fun b ob q _ _ _ => ⟨ob.slots, k b ob q⟩, fun _ _ _ n _ => n, fun b ob q _ => ⟨ob, k b ob q⟩, fun _ _ q => q, fun _ _ _ q => q, fun _ ps q => ⟨#[], by rw [q]; simp⟩⟩
theorem Un.refl : Un fs ex H H h h := Un.kept fun _ _ q => q
theorem Un.laid (k : ∀ b u, h.get? b = some u → h'.get? b = some u) (hp : h.objs.size ≤ a) (hn : H a = none) : Un fs ex H (upd H a o) h h' where
  keep := fun b u q _ _ _ => k b u q
  slot := fun b u q _ _ _ => ⟨u.slots, k b u q⟩
  free := fun b u q n _ => by rw [upd_ne (Nat.ne_of_lt (Nat.lt_of_lt_of_le (Heap.lt_size q) hp))]; exact n
  there := fun b u q _ => ⟨u, k b u q⟩
  tups := fun b xs q => by rw [upd_ne (ne_of_none q hn)]; exact q
  frzs := fun b u xs q => by rw [upd_ne (ne_of_none q hn)]; exact q
  tbls := fun b ps q => ⟨#[], by rw [upd_ne (ne_of_none q hn), q]; simp⟩
theorem Un.write (mu : Mut (H x)) (he : e = x ∨ H e = some (.own x)) (k : ∀ b u, b ≠ e → h.get? b = some u → h'.get? b = some u) (heo : ∃ u, h'.get? e = some u) : Un fs ex H (upd H x o) h h' := by
  have hx : ∀ b, H b = none → b ≠ x := fun b n z => by subst z; rw [n] at mu; exact mu
  have hb : ∀ b, H b = none → b ≠ e := fun b n z => by
    subst z
    rcases he with r | r
    · exact hx b n r
    · rw [n] at r; cases r
  have hm : ∀ b u, H b = some u → ¬ Mut (some u) → b ≠ x := fun b u q nm z => by subst z; rw [q] at mu; exact nm mu
  refine ⟨fun b u q n _ _ => k b u (hb b n) q, fun b u q n _ _ => ⟨u.slots, k b u (hb b n) q⟩, fun b u q n _ => by rw [upd_ne (hx b n)]; exact n, fun b u q _ => ?_,
    fun b xs q => by rw [upd_ne (hm b _ q fun z => z)]; exact q, fun b u xs q => by rw [upd_ne (hm b _ q fun z => z)]; exact q, fun b ps q => ⟨#[], by rw [upd_ne (hm b _ q fun z => z), q]; simp⟩⟩
  by_cases hbe : b = e
  · subst hbe; exact heo
  · exact ⟨u, k b u hbe q⟩
theorem Un.mono (u : Un fs ex H H1 h h1) (hs : ∀ b ∈ fs, b ∈ fs') (hx : ∀ b ∈ ex, b ∈ ex') : Un fs' ex' H H1 h h1 :=
  ⟨fun b ob q n hb he => u.keep b ob q n (fun z => hb (hs b z)) fun z => he (hx b z), fun _ _ q n _ he => u.any q n fun z => he (hx _ z), fun b ob q n he => u.free b ob q n fun z => he (hx b z), fun b ob q he => u.there b ob q fun z => he (hx b z), u.tups, u.frzs, u.tbls⟩
end
/-! ### the heap without what is tracked -/
def trk (h : Heap) (H : Hp) : List Addr := (List.range h.objs.size).filter fun a => (H a).isSome
def hidT (h : Heap) (H : Hp) : Heap := PySem.W.hideAll h (trk h H)
theorem hidT_size (h : Heap) (H : Hp) : (hidT h H).objs.size = h.objs.size := PySem.W.hideAll_size _ _
theorem hidT_get {h : Heap} {H : Hp} {b : Addr} {o : Obj} (e : h.get? b = some o) (n : H b = none) : (hidT h H).get? b = some o :=
  PySem.W.hideAll_get _ e fun hm => by
    have q : (H b).isSome = true := (List.mem_filter.mp hm).2
    rw [n] at q; simp at q
theorem of_hidT {h : Heap} {H : Hp} {b : Addr} {o : Obj} (e : (hidT h H).get? b = some o) : h.get? b = some o ∧ H b = none := by
  have e' : h.get? b = some o := PySem.W.of_hideAll (trk h H) e
  refine ⟨e', ?_⟩
  cases q : H b with
  | none => rfl
  | some x =>
    have hm : b ∈ trk h H := List.mem_filter.mpr ⟨List.mem_range.mpr (Heap.lt_size e'), by simp [q]⟩
    have z : (hidT h H).get? b = none := PySem.W.hideAll_none (trk h H) hm
    rw [z] at e; cases e
/-! ### OpenK's ledger, filled with every new object but one -/
def allNews (g h : Heap) (L : Addr) : List (Addr × Obj) := (List.range h.objs.size).filterMap fun a => if a = L ∨ (g.get? a).isSome = true then none else (h.get? a).map fun o => (a, o)
def rest (g h : Heap) (L d : Addr) : List (Addr × Obj) := (allNews g h L).filter fun p => decide (p.1 ≠ d)
end L2
namespace L2
open PySem PySem.Spec PyProof.Rows
/-- the module's facts, over the base: the heap at the law's entry without what is tracked there -/
structure Mod (K : PySem.W.Frag) (mg : Str → Option Value) (base : Heap) : Prop where
  kin : K.In base
  glob : base.Ns mainGlobals mg
  blt : ∃ mb, base.Ns builtinsNs mb ∧ ∀ x : Str, x ≠ "__name__" → mb x = bootBuiltins x
  nolimit : base.NoLimit
/-- the context: a def's body (or a comprehension's block) running. base: fixed through the whole law; s₀, H₀: the entry; outer: the frames whose slots others may change (a def's callers); stack: all frames that run;
   ex: iterators that were made ahead of the entry and are walked here (a comprehension's); fn: the names whose cells were made at the entry (a def: all; a comprehension's block: its own); calm: not within an except suite; pn: pins that every state bears; xe: what is wanted of an exception that leaves the code -/
structure Cx where
  prog : Program
  w : World
  K : PySem.W.Frag
  mg : Str → Option Value
  base : Heap
  A : Around
  N : List Str
  s₀ : Shared
  H₀ : Hp
  env : Env
  outer : List Env
  stack : List Env
  ex : List Addr
  fn : Str → Bool
  calm : Bool
  pn : List (Addr × Obj)
  xe : Value → Shared → Prop
/-- the callers' frames -/
def frs (l : List Env) : List Addr := l.filterMap (·.frame)
abbrev Cx.fs (X : Cx) : List Addr := frs X.outer
def Vis (sc : Scope) (x : Str) : Prop := sc.names.lookup x = some .local ∨ sc.names.lookup x = some .cell ∨ sc.names.lookup x = some .free
def Loc (sc : Scope) (x : Str) : Prop := sc.names.lookup x = some .local ∨ sc.names.lookup x = some .cell
def Look (env : Env) (h : Heap) (m : Str → Option Value) (x : Str) (u : Value) : Prop :=
  (env.kindOf x = some .local ∧ m x = some u) ∨ ((env.kindOf x = some .cell ∨ env.kindOf x = some .free) ∧ ∃ c, env.cells.lookup x = some c ∧ h.IsCell c (some u))
structure Cx.Ok (X : Cx) : Prop where
  mod : Mod X.K X.mg X.base
  kind : X.env.scope.kind = .function
  glob : X.env.globals = mainGlobals
  blt : X.env.builtins = builtinsNs
  above : X.s₀.heap.objs.size ≤ X.env.locals
  inj : ∀ x y c, X.env.cells.lookup x = some c → X.env.cells.lookup y = some c → x = y
  has : ∀ x, (X.env.kindOf x = some .cell ∨ X.env.kindOf x = some .free) → ∃ c, X.env.cells.lookup x = some c
  cab : ∀ x c, X.fn x = true → X.env.cells.lookup x = some c → X.s₀.heap.objs.size ≤ c
  hd : X.calm = true → X.A.handled = none
  frames : X.A.frames = some X.stack
  stk : X.stack = X.outer ∨ (X.stack = X.env :: X.outer ∧ X.env.frame = some X.env.locals)
  exf : ∀ b ∈ X.ex, b ≠ X.env.locals ∧ ∀ x c, X.env.cells.lookup x = some c → c ≠ b
  bs : ∀ b o, X.base.get? b = some o → X.s₀.heap.get? b = some o ∧ X.H₀ b = none
  bsz : X.base.objs.size ≤ X.s₀.heap.objs.size
  noex : ∀ b o, X.base.get? b = some o → b ∉ X.ex
  exfs : ∀ b ∈ X.ex, b ∉ X.fs
  funs : X.s₀.heap.FunFrames X.base X.outer
  frf : ∀ b ∈ X.fs, X.H₀ b = none
structure Inv (X : Cx) (pins : List (Addr × Obj)) (σ : List (Option V)) (H : Hp) (s : Shared) : Prop where
  ok : X.Ok
  os : s.os = X.s₀.os
  bare : AllBare s.gens
  base : Un X.fs X.ex X.H₀ H X.s₀.heap s.heap
  loc : ∃ m, s.heap.Ns X.env.locals m ∧ ∀ (i : Nat) (x : Str) (v : V), X.N[i]? = some x → σ[i]? = some (some v) → Vis X.env.scope x → ∃ u, RelV v u ∧ Look X.env s.heap m x u
  cell : ∀ x c, X.env.cells.lookup x = some c → ∃ v, s.heap.IsCell c v
  free : H X.env.locals = none
  freeC : ∀ x c, X.env.cells.lookup x = some c → H c = none
  pin : ∀ p ∈ X.pn ++ pins, s.heap.get? p.1 = some p.2 ∧ H p.1 = none ∧ p.1 ≠ X.env.locals ∧ p.1 ∉ X.fs ∧ ∀ v, p.2.data ≠ .cell v
  hok : HOk X.prog X.w H s.heap
  len : σ.length = X.N.length
section
variable {X : Cx} {pins : List (Addr × Obj)} {σ : List (Option V)} {H H' : Hp} {s : Shared} {h' : Heap}
theorem Cx.Ok.nofr (ok : X.Ok) {b : Addr} {o : Obj} (e : X.base.get? b = some o) : b ∉ X.fs := fun hb => by
  have := (ok.funs.mem hb).1
  rw [e] at this; cases this
theorem Inv.bs (I : Inv X pins σ H s) : ∀ b o, X.base.get? b = some o → s.heap.get? b = some o ∧ H b = none := fun b o e =>
  ⟨I.base.keep b o (I.ok.bs b o e).1 (I.ok.bs b o e).2 (I.ok.nofr e) (I.ok.noex b o e), I.base.free b o (I.ok.bs b o e).1 (I.ok.bs b o e).2 (I.ok.noex b o e)⟩
theorem Inv.bk (I : Inv X pins σ H s) : ∀ b o, X.base.get? b = some o → s.heap.get? b = some o := fun b o e => (I.bs b o e).1
theorem Inv.mod (I : Inv X pins σ H s) : Mod X.K X.mg X.base := I.ok.mod
theorem Inv.kIn (I : Inv X pins σ H s) : X.K.In s.heap := I.ok.mod.kin.keeps I.bk
theorem Inv.nolimit (I : Inv X pins σ H s) : s.heap.NoLimit := I.ok.mod.nolimit.keeps I.bk
/-- the frame over the base: for OpenK's rules (K.In X.base is I.mod.kin) -/
theorem Inv.fr (I : Inv X pins σ H s) : ∃ m, Fr X.base X.env.locals s.heap m :=
  let ⟨m, hn, _⟩ := I.loc
  ⟨m, hn, I.bk, Nat.le_trans I.ok.bsz I.ok.above⟩
theorem Inv.lt (I : Inv X pins σ H s) : X.env.locals < s.heap.objs.size := let ⟨_, hn, _⟩ := I.loc; hn.lt
theorem Inv.sz (I : Inv X pins σ H s) : X.s₀.heap.objs.size ≤ s.heap.objs.size := Nat.le_trans I.ok.above (Nat.le_of_lt I.lt)
theorem Inv.nofs (I : Inv X pins σ H s) {a : Addr} (h : s.heap.objs.size ≤ a) : a ∉ X.fs := fun hb => by
  obtain ⟨_, o, ho, _⟩ := I.ok.funs.mem hb
  exact absurd (Nat.lt_of_lt_of_le (Heap.lt_size ho) (Nat.le_trans I.sz h)) (Nat.lt_irrefl _)
theorem Inv.cne (I : Inv X pins σ H s) : ∀ x c, X.env.cells.lookup x = some c → c ≠ X.env.locals := fun x c e z => by
  obtain ⟨v, o, ho, hd⟩ := I.cell x c e
  obtain ⟨m, ⟨o', es, ep, ho', hd', _⟩, _⟩ := I.loc
  rw [z, ho'] at ho; cases ho; rw [hd'] at hd; cases hd
theorem Inv.funs (I : Inv X pins σ H s) : s.heap.FunFrames X.base X.outer := by
  have all : ∀ (l : List Env), (∀ b ∈ frs l, b ∈ X.fs) → X.s₀.heap.FunFrames X.base l → s.heap.FunFrames X.base l := by
    intro l
    induction l with
    | nil => intro _ _; trivial
    | cons env r ih =>
      intro hs hl
      obtain ⟨hk, ⟨L, o, hf, hn, ho, hd⟩, hr⟩ := hl
      have hL : L ∈ X.fs := hs L (by unfold frs; rw [List.filterMap_cons, hf]; exact List.mem_cons_self)
      obtain ⟨sl, e⟩ := I.base.slot L o ho (I.ok.frf L hL) hL fun z => I.ok.exfs L z hL
      exact ⟨hk, ⟨L, _, hf, hn, e, hd⟩, ih (fun b hb => hs b (by unfold frs; rw [List.filterMap_cons, hf]; exact List.mem_cons_of_mem _ hb)) hr⟩
  exact all X.outer (fun _ hb => hb) I.ok.funs
/-- the frames that run, for a call -/
theorem Inv.stack (I : Inv X pins σ H s) : s.heap.FunFrames X.base X.stack := by
  rcases I.ok.stk with e | ⟨e, hf⟩
  · rw [e]; exact I.funs
  · rw [e]
    obtain ⟨m, hn, _⟩ := I.loc
    refine .cons (by rw [I.ok.kind]; decide) hf hn ?_ I.funs
    exact Heap.get?_none_of_le (Nat.le_trans I.ok.bsz I.ok.above)
theorem Inv.stkSub (I : Inv X pins σ H s) : ∀ b ∈ frs X.stack, b ∈ X.env.locals :: X.fs := fun b hb => by
  rcases I.ok.stk with e | ⟨e, hf⟩
  · rw [e] at hb; exact List.mem_cons_of_mem _ hb
  · rw [e] at hb
    unfold frs at hb
    rw [List.filterMap_cons, hf] at hb
    exact hb
theorem Inv.stkFree (I : Inv X pins σ H s) : ∀ b ∈ frs X.stack, H b = none := fun b hb => by
  rcases List.mem_cons.mp (I.stkSub b hb) with e | hb
  · rw [e]; exact I.free
  · obtain ⟨_, o, ho, _⟩ := I.ok.funs.mem hb
    exact I.base.free b o ho (I.ok.frf b hb) fun z => I.ok.exfs b z hb
/-- THE STEP: the untracked objects but the frame and the records at ch are kept (the callers' frames up to slots), the frame's map is kept, the new abstract heap is held -/
theorem Inv.step {g' : Array GenState} {t' : Nat} {d' : Drawn} {ch : List Addr} (I : Inv X pins σ H s)
    (hch : ∀ b ∈ ch, (b ∈ X.ex ∨ X.s₀.heap.objs.size ≤ b) ∧ b ≠ X.env.locals ∧ (∀ x c, X.env.cells.lookup x = some c → c ≠ b) ∧ ∀ p ∈ X.pn ++ pins, p.1 ≠ b)
    (keep : ∀ b o, b ≠ X.env.locals → b ∉ X.fs → b ∉ ch → s.heap.get? b = some o → H b = none → h'.get? b = some o)
    (slot : ∀ b o, b ≠ X.env.locals → b ∈ X.fs → b ∉ ch → s.heap.get? b = some o → H b = none → ∃ sl, h'.get? b = some { o with slots := sl }) (free : ∀ b o, b ∉ ch → s.heap.get? b = some o → H b = none → H' b = none)
    (there : ∀ b o, b ∉ ch → s.heap.get? b = some o → ∃ o', h'.get? b = some o')
    (tups : ∀ b xs, H b = some (.tup xs) → H' b = some (.tup xs)) (frzs : ∀ b o u, H b = some (.frz o u) → H' b = some (.frz o u)) (tbls : ∀ b ps, H b = some (.tbl ps) → ∃ more, H' b = some (.tbl (ps ++ more)))
    (ns : ∀ m, s.heap.Ns X.env.locals m → h'.Ns X.env.locals m) (hok : HOk X.prog X.w H' h') (hg : AllBare g') :
    Inv X pins σ H' { s with heap := h', gens := g', drawn := d', toks := t' } := by
  have neL : ∀ b o, X.s₀.heap.get? b = some o → b ≠ X.env.locals := fun b o e => Nat.ne_of_lt (Nat.lt_of_lt_of_le (Heap.lt_size e) I.ok.above)
  have neC : ∀ b o, X.s₀.heap.get? b = some o → b ∉ X.ex → b ∉ ch := fun b o e hx hb => by
    rcases (hch b hb).1 with z | z
    · exact hx z
    · exact absurd (Nat.lt_of_lt_of_le (Heap.lt_size e) z) (Nat.lt_irrefl _)
  have cellK : ∀ x c, X.env.cells.lookup x = some c → ∀ v, s.heap.IsCell c v → h'.IsCell c v := fun x c e v ⟨o, ho, hd⟩ => by
    have nch : c ∉ ch := fun z => (hch c z).2.2.1 x c e rfl
    by_cases hc : c ∈ X.fs
    · obtain ⟨sl, q⟩ := slot c o (I.cne x c e) hc nch ho (I.freeC x c e)
      exact ⟨_, q, hd⟩
    · exact ⟨o, keep c o (I.cne x c e) hc nch ho (I.freeC x c e), hd⟩
  refine ⟨I.ok, I.os, hg, ⟨fun b o e n hb hx => ?_, fun b o e n hb hx => ?_, fun b o e n hx => ?_, fun b o e hx => ?_, fun b xs e => tups b xs (I.base.tups b xs e), fun b o xs e => frzs b o xs (I.base.frzs b o xs e), fun b ps e => ?_⟩, ?_, fun x c e => ?_, ?_, fun x c e => ?_, fun p hp => ?_, hok, I.len⟩
  · exact keep b o (neL b o e) hb (neC b o e hx) (I.base.keep b o e n hb hx) (I.base.free b o e n hx)
  · obtain ⟨sl, e1⟩ := I.base.slot b o e n hb hx
    obtain ⟨sl', e2⟩ := slot b _ (neL b o e) hb (neC b o e hx) e1 (I.base.free b o e n hx)
    exact ⟨sl', e2⟩
  · obtain ⟨o', e1⟩ := I.base.there b o e hx
    exact free b o' (neC b o e hx) e1 (I.base.free b o e n hx)
  · obtain ⟨o', e1⟩ := I.base.there b o e hx
    exact there b o' (neC b o e hx) e1
  · obtain ⟨m1, e1⟩ := I.base.tbls b ps e
    obtain ⟨m2, e2⟩ := tbls b _ e1
    exact ⟨m1 ++ m2, by rw [e2, Array.append_assoc]⟩
  · obtain ⟨m, hn, hl⟩ := I.loc
    refine ⟨m, ns m hn, fun i x v e1 e2 e3 => ?_⟩
    obtain ⟨u, r, l⟩ := hl i x v e1 e2 e3
    refine ⟨u, r, ?_⟩
    rcases l with l | ⟨k, c, e, z⟩
    · exact .inl l
    · exact .inr ⟨k, c, e, cellK x c e _ z⟩
  · obtain ⟨v, z⟩ := I.cell x c e
    exact ⟨v, cellK x c e v z⟩
  · obtain ⟨m, ⟨o, _, _, ho, _⟩, _⟩ := I.loc
    exact free _ o (fun z => (hch _ z).2.1 rfl) ho I.free
  · obtain ⟨v, o, ho, hd⟩ := I.cell x c e
    exact free c o (fun z => (hch c z).2.2.1 x c e rfl) ho (I.freeC x c e)
  · obtain ⟨e, n, ne, nf, d⟩ := I.pin p hp
    have nch : p.1 ∉ ch := fun z => (hch p.1 z).2.2.2 p hp rfl
    exact ⟨keep p.1 p.2 ne nf nch e n, free p.1 p.2 nch e n, ne, nf, d⟩
/-- .. where the frame's own object is kept too -/
theorem Inv.un {t' : Nat} (I : Inv X pins σ H s) (u : Un X.fs [] H H' s.heap h') (hok : HOk X.prog X.w H' h') : Inv X pins σ H' { s with heap := h', toks := t' } := by
  obtain ⟨m, ⟨o, es, ep, ho, r⟩, _⟩ := id I.loc
  obtain ⟨sl, hL⟩ := u.any ho I.free (by simp)
  exact I.step (g' := s.gens) (d' := s.drawn) (ch := []) (fun _ z => nomatch z) (fun b o _ hb _ e n => u.keep b o e n hb (by simp)) (fun b o _ hb _ e n => u.slot b o e n hb (by simp)) (fun b o _ e n => u.free b o e n (by simp)) (fun b o _ e => u.there b o e (by simp)) u.tups u.frzs u.tbls (fun m' hm => by
    obtain ⟨o', es', ep', ho', r'⟩ := hm
    rw [ho] at ho'; cases ho'
    exact ⟨_, es', ep', hL, r'⟩) hok I.bare
/-- behind a call (or a comprehension's block): the slots of this frame may have changed too, the records at ch may have turned -/
theorem Inv.call {g' : Array GenState} {t' : Nat} {d' : Drawn} {ch : List Addr} (I : Inv X pins σ H s) (u : Un (frs X.stack) ch H H' s.heap h') (hok : HOk X.prog X.w H' h') (hg : AllBare g')
    (hch : ∀ b ∈ ch, (b ∈ X.ex ∨ X.s₀.heap.objs.size ≤ b) ∧ b ≠ X.env.locals ∧ (∀ x c, X.env.cells.lookup x = some c → c ≠ b) ∧ ∀ p ∈ X.pn ++ pins, p.1 ≠ b) :
    Inv X pins σ H' { s with heap := h', gens := g', drawn := d', toks := t' } := by
  obtain ⟨m, ⟨o, es, ep, ho, r⟩, _⟩ := id I.loc
  obtain ⟨sl, hL⟩ := u.any ho I.free fun z => (hch _ z).2.1 rfl
  exact I.step (ch := ch) hch (fun b o hL hb hc e n => u.keep b o e n (fun z => (List.mem_cons.mp (I.stkSub b z)).elim hL hb) hc) (fun b o _ _ hc e n => u.any e n hc) (fun b o hc e n => u.free b o e n hc) (fun b o hc e => u.there b o e hc) u.tups u.frzs u.tbls (fun m' hm => by
    obtain ⟨o', es', ep', ho', r'⟩ := hm
    rw [ho] at ho'; cases ho'
    exact ⟨_, es', ep', hL, r'⟩) hok hg
/-- an untracked record of ours (an iterator) has turned -/
theorem Inv.turned {t' : Nat} {it : Addr} (I : Inv X pins σ H s) (k : ∀ b o, b ≠ it → s.heap.get? b = some o → h'.get? b = some o) (hn : H it = none) (hL : it ≠ X.env.locals)
    (h1 : it ∈ X.ex ∨ X.s₀.heap.objs.size ≤ it) (h2 : ∀ x c, X.env.cells.lookup x = some c → c ≠ it) (h3 : ∀ p ∈ X.pn ++ pins, p.1 ≠ it) : Inv X pins σ H { s with heap := h', toks := t' } := by
  have nit : ∀ b u, H b = some u → b ≠ it := fun b u e z => by rw [z, hn] at e; cases e
  refine I.step (g' := s.gens) (d' := s.drawn) (ch := [it]) (fun b hb => ?_) (fun b o _ _ hc e _ => k b o (fun z => hc (by simp [z])) e) (fun b o _ _ hc e _ => ⟨o.slots, k b o (fun z => hc (by simp [z])) e⟩) (fun _ _ _ _ n => n)
    (fun b o hc e => ⟨o, k b o (fun z => hc (by simp [z])) e⟩) (fun _ _ e => e) (fun _ _ _ e => e) (fun b ps e => ⟨#[], by rw [e]; simp⟩) (fun m hm => ?_) (fun b u e => ?_) I.bare
  · have e : b = it := by simpa using hb
    subst e
    exact ⟨h1, hL, h2, h3⟩
  · obtain ⟨o, es, ep, ho, r⟩ := hm
    exact ⟨o, es, ep, k _ o (Ne.symm hL) ho, r⟩
  · refine (I.hok b u e).stay (fun c v hc q => k c v ?_ q) (fun _ q => q) fun _ _ q => q
    rcases hc with z | z
    · rw [z]; exact nit b u e
    · exact nit c _ z
theorem Inv.tok (I : Inv X pins σ H s) (t : Nat) : Inv X pins σ H { s with toks := t } := I.un (h' := s.heap) (t' := t) Un.refl I.hok
/-- all objects kept -/
theorem Inv.kept {t' : Nat} (I : Inv X pins σ H s) (k : ∀ b u, s.heap.get? b = some u → h'.get? b = some u) : Inv X pins σ H { s with heap := h', toks := t' } := I.un (Un.kept k) (I.hok.kept k)
/-- a new object laid and tracked -/
theorem Inv.laid {a : Addr} {o : HO} {t' : Nat} (I : Inv X pins σ H s) (k : ∀ b u, s.heap.get? b = some u → h'.get? b = some u) (hp : s.heap.objs.size ≤ a) (new : ObjOk X.prog X.w (upd H a o) h' a o) :
    Inv X pins σ (upd H a o) { s with heap := h', toks := t' } := I.un (Un.laid k hp (I.hok.fresh hp)) (I.hok.laid k hp new)
/-- an object written -/
theorem Inv.write {x e : Addr} {o : HO} {t' : Nat} (I : Inv X pins σ H s) (mu : Mut (H x)) (he : e = x ∨ H e = some (.own x)) (k : ∀ b u, b ≠ e → s.heap.get? b = some u → h'.get? b = some u) (heo : ∃ u, h'.get? e = some u)
    (new : ObjOk X.prog X.w (upd H x o) h' x o) : Inv X pins σ (upd H x o) { s with heap := h', toks := t' } := I.un (Un.write mu he k heo) (I.hok.write mu he k heo new)
/-- forgetting slots, pins -/
theorem Inv.weak {σ' : List (Option V)} (I : Inv X pins σ H s) (hl : σ'.length = σ.length) (w : ∀ (i : Nat) v, σ'[i]? = some (some v) → σ[i]? = some (some v)) : Inv X pins σ' H s :=
  ⟨I.ok, I.os, I.bare, I.base, let ⟨m, hn, hl'⟩ := I.loc; ⟨m, hn, fun i x v e1 e2 e3 => hl' i x v e1 (w i v e2) e3⟩, I.cell, I.free, I.freeC, I.pin, I.hok, hl.trans I.len⟩
theorem Inv.pins_of {pins' : List (Addr × Obj)} (I : Inv X pins σ H s) (h : ∀ p ∈ pins', s.heap.get? p.1 = some p.2 ∧ H p.1 = none ∧ p.1 ≠ X.env.locals ∧ p.1 ∉ X.fs ∧ ∀ v, p.2.data ≠ .cell v) : Inv X pins' σ H s :=
  ⟨I.ok, I.os, I.bare, I.base, I.loc, I.cell, I.free, I.freeC, fun p hp => (List.mem_append.mp hp).elim (fun z => I.pin p (List.mem_append_left _ z)) (h p), I.hok, I.len⟩
theorem nodup_ix {N : List Str} (hN : N.Nodup) {i j : Nat} {x : Str} (a : N[i]? = some x) (b : N[j]? = some x) : i = j := by
  obtain ⟨h1, e1⟩ := List.getElem?_eq_some_iff.mp a
  obtain ⟨h2, e2⟩ := List.getElem?_eq_some_iff.mp b
  exact (List.getElem_inj hN).mp (e1.trans e2.symm)
/-- a name is stored; what changed -/
theorem store_ok2 {M : Model} {A : Around} {E : Value → Shared → Prop} {i : Nat} {x : Str} {v : V} {u : Value} {Q : Unit → Shared → Prop} (I : Inv X pins σ H s) (hN : X.N.Nodup) (hi : X.N[i]? = some x) (hx : Loc X.env.scope x) (r : RelV v u)
    (h : ∀ s', Inv X pins (σ.set i (some v)) H s' → (∃ a, Heap.SameBut a s.heap s'.heap ∧ (a = X.env.locals ∨ X.env.cells.lookup x = some a)) → Q () s') (hf : X.fn x = true ∨ X.env.scope.names.lookup x = some .local := by first | exact .inl rfl | exact .inr rfl | assumption) : wpAny M A (storeName X.env x u) Q E s := by
  obtain ⟨m, hn, hl⟩ := id I.loc
  have hcls : (X.env.scope.kind == .class || (X.env.scope.kind == .module && X.env.locals != X.env.globals)) = false := by rw [I.ok.kind]; rfl
  have hiσ : i < σ.length := by rw [I.len]; exact (List.getElem?_eq_some_iff.mp hi).1
  have cne := I.cne
  have tracked : ∀ {a : Addr} {h' : Heap}, (∃ o, s.heap.get? a = some o ∧ H a = none) → Heap.SameBut a s.heap h' → HOk X.prog X.w H h' := fun {a h'} ha hs b ob e => by
    obtain ⟨_, _, hfree⟩ := ha
    refine (I.hok b ob e).stay (fun c w' hc q => (hs.2 c ?_).trans q) (fun _ q => q) fun _ _ q => q
    rintro rfl
    rcases hc with rfl | hc
    · rw [hfree] at e; cases e
    · rw [hfree] at hc; cases hc
  rcases hx with hk | hk
  · refine wpAny_storeName_local hk hn (fun h' hn' hs => ?_) hcls
    obtain ⟨oL, _, _, hoL, _⟩ := id hn
    refine h _ ⟨I.ok, I.os, I.bare, ⟨fun b o e n hb hx => ?_, fun b o e n hb hx => ?_, I.base.free, fun b o e hx => ?_, I.base.tups, I.base.frzs, I.base.tbls⟩, ⟨_, hn', fun j y v' e1 e2 e3 => ?_⟩, fun y c e => ?_, I.free, I.freeC, fun p hp => ?_, tracked ⟨oL, hoL, I.free⟩ hs, by simpa using I.len⟩ ⟨_, hs, .inl rfl⟩
    · exact (hs.2 b (Nat.ne_of_lt (Nat.lt_of_lt_of_le (Heap.lt_size e) I.ok.above))).trans (I.base.keep b o e n hb hx)
    · obtain ⟨sl, e1⟩ := I.base.slot b o e n hb hx
      exact ⟨sl, (hs.2 b (Nat.ne_of_lt (Nat.lt_of_lt_of_le (Heap.lt_size e) I.ok.above))).trans e1⟩
    · obtain ⟨o', e1⟩ := I.base.there b o e hx
      exact ⟨o', (hs.2 b (Nat.ne_of_lt (Nat.lt_of_lt_of_le (Heap.lt_size e) I.ok.above))).trans e1⟩
    · by_cases hj : j = i
      · subst hj
        rw [hi] at e1; cases e1
        rw [List.getElem?_set_self hiσ] at e2
        cases e2
        exact ⟨u, r, .inl ⟨hk, by simp⟩⟩
      · rw [List.getElem?_set_ne (Ne.symm hj)] at e2
        obtain ⟨u', r', q⟩ := hl j y v' e1 e2 e3
        refine ⟨u', r', ?_⟩
        rcases q with ⟨k, e⟩ | ⟨k, c, e, z⟩
        · refine .inl ⟨k, ?_⟩
          have : y ≠ x := fun e => hj (nodup_ix hN e1 (e ▸ hi))
          simp [this, e]
        · exact .inr ⟨k, c, e, z.sameBut hs (cne y c e)⟩
    · obtain ⟨w', z⟩ := I.cell y c e
      exact ⟨w', z.sameBut hs (cne y c e)⟩
    · obtain ⟨e, n, ne, nf, d⟩ := I.pin p hp
      exact ⟨(hs.2 p.1 ne).trans e, n, ne, nf, d⟩
  · have hfn : X.fn x = true := by
      rcases hf with z | z
      · exact z
      · rw [z] at hk; cases hk
    obtain ⟨c, hc⟩ := I.ok.has x (.inl hk)
    obtain ⟨w', z⟩ := I.cell x c hc
    refine wpAny_storeName_cell I.ok.kind hk hc z (fun h' hc' hs => ?_)
    obtain ⟨oc, hoc, hocd⟩ := id z
    refine h { s with heap := h' } ⟨I.ok, I.os, I.bare, ⟨fun b o e n hb hx => ?_, fun b o e n hb hx => ?_, I.base.free, fun b o e hx => ?_, I.base.tups, I.base.frzs, I.base.tbls⟩, ⟨m, hn.sameBut hs (Ne.symm (cne x c hc)), fun j y v' e1 e2 e3 => ?_⟩, fun y c' e => ?_, I.free, I.freeC, fun p hp => ?_, tracked ⟨oc, hoc, I.freeC x c hc⟩ hs, by simpa using I.len⟩ ⟨c, hs, .inr hc⟩
    · exact (hs.2 b (Nat.ne_of_lt (Nat.lt_of_lt_of_le (Heap.lt_size e) (I.ok.cab x c hfn hc)))).trans (I.base.keep b o e n hb hx)
    · obtain ⟨sl, e1⟩ := I.base.slot b o e n hb hx
      exact ⟨sl, (hs.2 b (Nat.ne_of_lt (Nat.lt_of_lt_of_le (Heap.lt_size e) (I.ok.cab x c hfn hc)))).trans e1⟩
    · obtain ⟨o', e1⟩ := I.base.there b o e hx
      exact ⟨o', (hs.2 b (Nat.ne_of_lt (Nat.lt_of_lt_of_le (Heap.lt_size e) (I.ok.cab x c hfn hc)))).trans e1⟩
    · by_cases hj : j = i
      · subst hj
        rw [hi] at e1; cases e1
        rw [List.getElem?_set_self hiσ] at e2
        cases e2
        exact ⟨u, r, .inr ⟨.inl hk, c, hc, hc'⟩⟩
      · rw [List.getElem?_set_ne (Ne.symm hj)] at e2
        obtain ⟨u', r', q⟩ := hl j y v' e1 e2 e3
        refine ⟨u', r', ?_⟩
        rcases q with q | ⟨k, c', e, z'⟩
        · exact .inl q
        · refine .inr ⟨k, c', e, z'.sameBut hs ?_⟩
          rintro rfl
          exact hj (nodup_ix hN e1 (I.ok.inj _ _ _ e hc ▸ hi))
    · by_cases hcc : c' = c
      · subst hcc; exact ⟨_, hc'⟩
      · obtain ⟨w2, z2⟩ := I.cell y c' e
        exact ⟨w2, z2.sameBut hs hcc⟩
    · obtain ⟨e, n, ne, nf, d⟩ := I.pin p hp
      refine ⟨(hs.2 p.1 ?_).trans e, n, ne, nf, d⟩
      intro q
      rw [q, hoc] at e
      have q' : oc = p.2 := Option.some.inj e
      exact d w' (by rw [← q']; exact hocd)
theorem store_ok {M : Model} {A : Around} {E : Value → Shared → Prop} {i : Nat} {x : Str} {v : V} {u : Value} {Q : Unit → Shared → Prop} (I : Inv X pins σ H s) (hN : X.N.Nodup) (hi : X.N[i]? = some x) (hx : Loc X.env.scope x) (r : RelV v u)
    (h : ∀ s', Inv X pins (σ.set i (some v)) H s' → Q () s') (hf : X.fn x = true ∨ X.env.scope.names.lookup x = some .local := by first | exact .inl rfl | exact .inr rfl | assumption) : wpAny M A (storeName X.env x u) Q E s :=
  store_ok2 I hN hi hx r (fun s' I' _ => h s' I') hf
/-- behind a call or a block, the state as it is -/
theorem Inv.call' {s' : Shared} {ch : List Addr} (I : Inv X pins σ H s) (ho : s'.os = s.os) (u : Un (frs X.stack) ch H H' s.heap s'.heap) (hok : HOk X.prog X.w H' s'.heap) (hg : AllBare s'.gens)
    (hch : ∀ b ∈ ch, (b ∈ X.ex ∨ X.s₀.heap.objs.size ≤ b) ∧ b ≠ X.env.locals ∧ (∀ x c, X.env.cells.lookup x = some c → c ≠ b) ∧ ∀ p ∈ X.pn ++ pins, p.1 ≠ b) : Inv X pins σ H' s' := by
  obtain ⟨h', g', d', t', o'⟩ := s'
  have e : o' = s.os := ho
  subst e
  exact I.call (g' := g') (t' := t') (d' := d') u hok hg hch
end
/-! ### the judgements -/
/-- an exception: its class, its own dict's address (where it has one), the abstract heap behind it -/
abbrev XK := Value → Option Addr → Hp → Prop
abbrev St := List (Option V)
abbrev VK := V → Hp → Prop
/-- an expression's reading; a test's; an argument list's -/
abbrev TE := St → Hp → VK → Prop
abbrev TT := St → Hp → (Bool → Hp → Prop) → Prop
abbrev TA := St → Hp → (List V → Hp → Prop) → Prop
/-- what is wanted behind a statement -/
structure Ends where
  nx : St → Hp → Prop
  rt : VK
  bk : St → Hp → Prop := fun _ _ => False
  ct : St → Hp → Prop := fun _ _ => False
abbrev TS := Ends → St → Hp → Prop
def EP (X : Cx) (pins : List (Addr × Obj)) (σ : St) (Q : VK) (u : Value) (s' : Shared) : Prop := ∃ v H', Inv X pins σ H' s' ∧ RelV v u ∧ Q v H'
def TP (X : Cx) (pins : List (Addr × Obj)) (σ : St) (Q : Bool → Hp → Prop) (b : Bool) (s' : Shared) : Prop := ∃ H', Inv X pins σ H' s' ∧ Q b H'
def AP (X : Cx) (pins : List (Addr × Obj)) (σ : St) (Q : List V → Hp → Prop) (us : List Value) (s' : Shared) : Prop := ∃ vs H', Inv X pins σ H' s' ∧ Vals vs us ∧ Q vs H'
def SP (X : Cx) (pins : List (Addr × Obj)) (D : Ends) (f : Flow) (s' : Shared) : Prop :=
  match f with
  | .next => ∃ σ' H', Inv X pins σ' H' s' ∧ D.nx σ' H'
  | .brk => ∃ σ' H', Inv X pins σ' H' s' ∧ D.bk σ' H'
  | .cont => ∃ σ' H', Inv X pins σ' H' s' ∧ D.ct σ' H'
  | .ret u => ∃ v σ' H', Inv X pins σ' H' s' ∧ RelV v u ∧ D.rt v H'
def PE (X : Cx) (e : Expr) (t : TE) : Prop :=
  ∀ (pins : List (Addr × Obj)) (s : Shared) (σ : St) (H : Hp) (Q : VK), Inv X pins σ H s → t σ H Q → wpAny (model X.prog X.w) X.A (eval e X.env) (EP X pins σ Q) X.xe s
def PT (X : Cx) (e : Expr) (t : TT) : Prop :=
  ∀ (pins : List (Addr × Obj)) (s : Shared) (σ : St) (H : Hp) (Q : Bool → Hp → Prop), Inv X pins σ H s → t σ H Q → wpAny (model X.prog X.w) X.A (isTrue e X.env (eval e X.env)) (TP X pins σ Q) X.xe s
/-- a test whatever its 'whole' is (and, or) -/
def PW (X : Cx) (e : Expr) (t : TT) : Prop :=
  ∀ (whole : Sem Value) (pins : List (Addr × Obj)) (s : Shared) (σ : St) (H : Hp) (Q : Bool → Hp → Prop), Inv X pins σ H s → t σ H Q → wpAny (model X.prog X.w) X.A (isTrue e X.env whole) (TP X pins σ Q) X.xe s
theorem PW.pt {X : Cx} {e : Expr} {t : TT} (h : PW X e t) : PT X e t := h _
/-- an argument list (no star), from the left -/
def PA (X : Cx) (es : List Expr) (t : TA) : Prop :=
  ∀ (pos : Pos) (pins : List (Addr × Obj)) (s : Shared) (σ : St) (H : Hp) (Q : List V → Hp → Prop), Inv X pins σ H s → t σ H Q → wpAny (model X.prog X.w) X.A (spliced (backTo pos (starEach es X.env))) (AP X pins σ Q) X.xe s
def PS (X : Cx) (st : Stmt) (t : TS) : Prop :=
  ∀ (pins : List (Addr × Obj)) (s : Shared) (σ : St) (H : Hp) (D : Ends), Inv X pins σ H s → t D σ H → wpAny (model X.prog X.w) X.A (exec st X.env) (SP X pins D) X.xe s
def PSs (X : Cx) (st : List Stmt) (t : TS) : Prop :=
  ∀ (pins : List (Addr × Obj)) (s : Shared) (σ : St) (H : Hp) (D : Ends), Inv X pins σ H s → t D σ H → wpAny (model X.prog X.w) X.A (execs st X.env) (SP X pins D) X.xe s
/-- weaken the end -/
theorem thn {α : Type} {t : Sem α} {Q Q' : α → Shared → Prop} {M : Model} {A : Around} {E : Value → Shared → Prop} {s : Shared} (h : wpAny M A t Q E s) (hQ : ∀ a s, Q a s → Q' a s) : wpAny M A t Q' E s := wpAny_mono h hQ fun _ _ x => x
end L2
namespace L2
open PySem PySem.Spec PyProof.Rows
section
variable {X : Cx}
/-! ### names and constants -/
def tVar (i : Nat) : TE := fun σ H Q => ∃ v, σ[i]? = some (some v) ∧ Q v H
def tC (v : V) : TE := fun _ H Q => Q v H
theorem pe_var {i : Nat} {x : Str} {pos : Pos} (hN : X.N[i]? = some x) (hv : Vis X.env.scope x) (hd : (x == ("__debug__" : Str)) = false := by decide) (hcd : (x == ("__classdict__" : Str)) = false := by decide) : PE X (.Name x pos) (tVar i) := by
  intro pins s σ H Q I h
  obtain ⟨v, e, h⟩ := h
  obtain ⟨m, hn, hl⟩ := I.loc
  obtain ⟨u, r, l⟩ := hl i x v hN e hv
  have fin : EP X pins σ Q u s := ⟨v, H, I, r, h⟩
  rcases l with ⟨hk, hm⟩ | ⟨hk, c, hc, hcell⟩
  · exact wpAny_Name (wpAny_loadName_local I.ok.kind hk hn hm fin) hd
  · rcases hk with hk | hk
    · exact wpAny_Name (wpAny_loadName_cell I.ok.kind hk hc hcell fin) hd
    · exact wpAny_Name (wpAny_loadName_free I.ok.kind hk hc hcell fin hcd) hd
theorem pe_int {i j pos} : PE X (.Constant (.int i) j pos) (tC (.int i)) := fun _ _ _ H _ I h => wpAny_Constant_int ⟨.int i, H, I.tok _, ⟨_, rfl⟩, h⟩
theorem pe_bl {b j pos} : PE X (.Constant (.bool b) j pos) (tC (.bl b)) := fun _ _ _ H _ I h => Constant_bool ⟨.bl b, H, I, rfl, h⟩
theorem pe_non {j pos} : PE X (.Constant .none j pos) (tC .non) := fun _ _ _ H _ I h => Constant_none ⟨.non, H, I, rfl, h⟩
theorem pe_str {x j pos} : PE X (.Constant (.str x) j pos) (tC (.str x)) := fun _ _ _ H _ I h => Calls.Constant_str ⟨.str x, H, I.tok _, ⟨_, rfl⟩, h⟩
/-- a global name of the def -/
def Gl (X : Cx) (x : Str) : Prop := X.env.kindOf x = some .globalImplicit
theorem ld_glob {E : Value → Shared → Prop} {pins : List (Addr × Obj)} {s : Shared} {σ : St} {H : Hp} {x : Str} {u : Value} {pos : Pos} {Q : Value → Shared → Prop} (I : Inv X pins σ H s) (hg : Gl X x) (hm : X.mg x = some u) (h : Q u s)
    (hd : (x == ("__debug__" : Str)) = false := by decide) : wpAny (model X.prog X.w) X.A (eval (.Name x pos) X.env) Q E s :=
  Calls.Name_function_global I.ok.kind hg (Calls.loadGlobal_global (by rw [I.ok.glob]; exact I.mod.glob.keeps I.bk) hm h) hd
theorem ld_blt {E : Value → Shared → Prop} {pins : List (Addr × Obj)} {s : Shared} {σ : St} {H : Hp} {x : Str} {u : Value} {pos : Pos} {Q : Value → Shared → Prop} (I : Inv X pins σ H s) (hg : Gl X x) (hm : X.mg x = none) (hv : bootBuiltins x = some u) (h : Q u s)
    (hn : x ≠ "__name__" := by decide) (hd : (x == ("__debug__" : Str)) = false := by decide) : wpAny (model X.prog X.w) X.A (eval (.Name x pos) X.env) Q E s := by
  obtain ⟨mb, h1, h2⟩ := I.mod.blt
  exact Calls.Name_function_global I.ok.kind hg (Calls.loadGlobal_builtin (by rw [I.ok.glob]; exact I.mod.glob.keeps I.bk) hm (by rw [I.ok.blt]; exact h1.keeps I.bk) ((h2 x hn).trans hv) h) hd
/-- a module's constant, a class, a function, as a value -/
theorem pe_glob {x : Str} {v : V} {u : Value} {pos : Pos} (hg : Gl X x) (hm : X.mg x = some u) (r : RelV v u) (hd : (x == ("__debug__" : Str)) = false := by decide) : PE X (.Name x pos) (tC v) :=
  fun _ _ _ H _ I h => ld_glob I hg hm ⟨v, H, I, r, h⟩ hd
theorem pe_bltn {x : Str} {v : V} {u : Value} {pos : Pos} (hg : Gl X x) (hm : X.mg x = none) (hv : bootBuiltins x = some u) (r : RelV v u) (hn : x ≠ "__name__" := by decide) (hd : (x == ("__debug__" : Str)) = false := by decide) : PE X (.Name x pos) (tC v) :=
  fun _ _ _ H _ I h => ld_blt I hg hm hv ⟨v, H, I, r, h⟩ hn hd
variable {a b : Expr} {ta tb : TE} {pos : Pos}
/-- a comparison as a value, as a test -/
def tB (t : TE) : TT := fun σ H Q => t σ H fun x H1 => ∃ c, x = .bl c ∧ Q c H1
/-- an expression whose value is a bool, as a test -/
theorem pt_val {e : Expr} {t : TE} (h : PE X e t) (he : ∀ whole, isTrue e X.env whole = (do let v ← whole; standAt e.pos; holding [v] (truthy v)) := by intro _; rfl) : PT X e (tB t) := by
  intro pins s σ H Q I hw
  refine isTrue_plain (thn (h pins s σ H _ I hw) fun v s1 ⟨x, H1, I1, r1, q1⟩ => ?_) (he _)
  obtain ⟨d, rfl, q⟩ := q1
  cases r1
  exact wpAny_truthy_bool ⟨H1, I1, q⟩
/-! ### and, or, not -/
variable {tA tB' : TT} {rest : List Expr}
def tAnd (t u : TT) : TT := fun σ H Q => t σ H fun c H1 => if c = true then u σ H1 Q else Q false H1
def tOr (t u : TT) : TT := fun σ H Q => t σ H fun c H1 => if c = true then Q true H1 else u σ H1 Q
def tNot (t : TT) : TT := fun σ H Q => t σ H fun c H1 => Q (!c) H1
theorem pw_and1 (ha : PT X a tA) : PW X (.BoolOp .And [a] pos) tA := by
  intro wh pins s σ H Q I h
  refine isTrue_and (thn (ha pins s σ H Q I h) fun c s1 e => ?_)
  cases c with
  | true => exact isTrue_and_nil e
  | false => exact e
theorem pw_or1 (ha : PT X a tA) : PW X (.BoolOp .Or [a] pos) tA := by
  intro wh pins s σ H Q I h
  refine isTrue_or (thn (ha pins s σ H Q I h) fun c s1 e => ?_)
  cases c with
  | false => exact isTrue_or_nil e
  | true => exact e
theorem pw_and (ha : PT X a tA) (hb : PW X (.BoolOp .And (b :: rest) pos) tB') : PW X (.BoolOp .And (a :: b :: rest) pos) (tAnd tA tB') := by
  intro wh pins s σ H Q I h
  refine isTrue_and (thn (ha pins s σ H _ I h) fun c s1 ⟨H1, I1, q1⟩ => ?_)
  cases c with
  | true => exact hb wh pins s1 σ H1 Q I1 q1
  | false => exact ⟨H1, I1, q1⟩
theorem pw_or (ha : PT X a tA) (hb : PW X (.BoolOp .Or (b :: rest) pos) tB') : PW X (.BoolOp .Or (a :: b :: rest) pos) (tOr tA tB') := by
  intro wh pins s σ H Q I h
  refine isTrue_or (thn (ha pins s σ H _ I h) fun c s1 ⟨H1, I1, q1⟩ => ?_)
  cases c with
  | true => exact ⟨H1, I1, q1⟩
  | false => exact hb wh pins s1 σ H1 Q I1 q1
theorem pt_not (ha : PT X a tA) : PT X (.UnaryOp .Not a pos) (tNot tA) := by
  intro pins s σ H Q I h
  exact isTrue_not (ha pins s σ H (fun c H1 => Q (!c) H1) I h)
/-- .. as values (bools) -/
def tAndV (ta tb : TE) : TE := fun σ H Q => ta σ H fun x H1 => ∃ c, x = .bl c ∧ if c = true then tb σ H1 Q else Q (.bl false) H1
def tNotV (ta : TE) : TE := fun σ H Q => ta σ H fun x H1 => ∃ c, x = .bl c ∧ Q (.bl (!c)) H1
theorem pe_one {op} {t : TE} (h : PE X a t) : PE X (.BoolOp op [a] pos) t := fun pins s σ H Q I hw => BoolOp_one (h pins s σ H Q I hw)
theorem pe_and (ha : PE X a ta) (hb : PE X (.BoolOp .And (b :: rest) pos) tb) : PE X (.BoolOp .And (a :: b :: rest) pos) (tAndV ta tb) := by
  intro pins s σ H Q I h
  refine BoolOp_and (thn (ha pins s σ H _ I h) fun v s1 ⟨x, H1, I1, r1, q1⟩ => ?_)
  obtain ⟨c, rfl, q1⟩ := q1
  cases r1
  refine wpAny_truthy_bool ?_
  cases c with
  | true => exact hb pins s1 σ H1 Q I1 q1
  | false => exact ⟨.bl false, H1, I1, rfl, q1⟩
theorem pe_not (ha : PE X a ta) : PE X (.UnaryOp .Not a pos) (tNotV ta) := by
  intro pins s σ H Q I h
  refine UnaryOp_ (thn (ha pins s σ H _ I h) fun v s1 ⟨x, H1, I1, r1, q1⟩ => ?_)
  obtain ⟨c, rfl, q1⟩ := q1
  cases r1
  exact not_of (wpAny_truthy_bool ⟨.bl (!c), H1, I1, rfl, q1⟩)
end
end L2
namespace L2
open PySem PySem.Spec PyProof.Rows
/-! ### a list, a tuple that is read: tracked, frozen, or an object of the module -/
def SqL (K : PySem.W.Frag) (H : Hp) (a : Addr) (xs : List V) : Prop :=
  Rd H a (.lst xs) ∨
    ∃ (o : Obj) (its : Array Value) (n : Nat), K.lookup a = some o ∧ o.cls = .type "list" ∧ o.dict = none ∧ o.data = .seq its n ∧ its.size ≤ sizeLine ∧ Vals xs its.toList
def SqT (K : PySem.W.Frag) (H : Hp) (a : Addr) (xs : List V) : Prop :=
  Rd H a (.tup xs) ∨
    ∃ (o : Obj) (its : Array Value) (n : Nat), K.lookup a = some o ∧ o.cls = .type "tuple" ∧ o.data = .seq its n ∧ its.size ≤ sizeLine ∧ Vals xs its.toList
def absV : Value → Option V
  | .none => some .non
  | .bool b => some (.bl b)
  | .int i _ => some (.int i)
  | .str x _ => some (.str x)
  | .bytes b _ => some (.byt b)
  | .float b _ => some (.flt b)
  | .ref a => some (.ref a)
  | .type n => some (.ty n)
  | _ => none
theorem RelV.abs {x : V} {u : Value} (r : RelV x u) : absV u = some x := by
  cases x with
  | non => cases r; rfl
  | bl _ => cases r; rfl
  | int _ => obtain ⟨t, rfl⟩ := r; rfl
  | str _ => obtain ⟨t, rfl⟩ := r; rfl
  | byt _ => obtain ⟨t, rfl⟩ := r; rfl
  | flt _ => obtain ⟨t, rfl⟩ := r; rfl
  | ref _ => cases r; rfl
  | ty _ => cases r; rfl
theorem RelV.inj {x y : V} {u : Value} (r : RelV x u) (q : RelV y u) : x = y := Option.some.inj (r.abs.symm.trans q.abs)
theorem Vals.inj : ∀ {xs ys : List V} {us : List Value}, Vals xs us → Vals ys us → xs = ys
  | _, _, _, .nil, .nil => rfl
  | _, _, _, .cons r t, .cons r' t' => by rw [r.inj r', Vals.inj t t']
section
variable {X : Cx} {pins : List (Addr × Obj)} {σ : St} {H : Hp} {s : Shared} {a : Addr} {xs ys : List V}
theorem SqL.of {K : PySem.W.Frag} (h : H a = some (.lst xs)) : SqL K H a xs := .inl (.inl h)
theorem SqT.of {K : PySem.W.Frag} (h : H a = some (.tup xs)) : SqT K H a xs := .inl (.inl h)
theorem Inv.list (I : Inv X pins σ H s) (h : SqL X.K H a xs) : ∃ its : List Value, Vals xs its ∧ PlainL s.heap a its.toArray ∧ xs.length ≤ sizeLine := by
  rcases h with h | ⟨o, its, n, hk, hc, hd, hs, hz, r⟩
  · obtain ⟨z, its, n, r, e⟩ := h.ok I.hok
    exact ⟨its, r, ⟨_, n, e, rfl, rfl, rfl⟩, z⟩
  · refine ⟨its.toList, r, ⟨o, n, I.kIn a o hk, hc, hd, by simpa using hs⟩, ?_⟩
    have e := r.length
    simp only [Array.length_toList] at e
    omega
theorem Inv.tuple (I : Inv X pins σ H s) (h : SqT X.K H a xs) : ∃ its : List Value, Vals xs its ∧ IsTup s.heap a its.toArray ∧ xs.length ≤ sizeLine := by
  rcases h with h | ⟨o, its, n, hk, hc, hs, hz, r⟩
  · obtain ⟨z, its, r, p⟩ := h.ok I.hok
    exact ⟨its, r, p, z⟩
  · refine ⟨its.toList, r, ⟨o, I.kIn a o hk, hc, n, by simpa using hs⟩, ?_⟩
    have e := r.length
    simp only [Array.length_toList] at e
    omega
theorem Inv.list_inj (I : Inv X pins σ H s) (h : SqL X.K H a xs) (h' : SqL X.K H a ys) : xs = ys := by
  obtain ⟨its, r, ⟨o, n, e, _, _, d⟩, _⟩ := I.list h
  obtain ⟨its', r', ⟨o', n', e', _, _, d'⟩, _⟩ := I.list h'
  rw [e] at e'; cases e'
  rw [d] at d'
  injection d' with d1 _
  have : its = its' := by simpa using congrArg Array.toList d1
  subst this
  exact r.inj r'
theorem Inv.tuple_inj (I : Inv X pins σ H s) (h : SqT X.K H a xs) (h' : SqT X.K H a ys) : xs = ys := by
  obtain ⟨its, r, ⟨o, e, _, n, d⟩, _⟩ := I.tuple h
  obtain ⟨its', r', ⟨o', e', _, n', d'⟩, _⟩ := I.tuple h'
  rw [e] at e'; cases e'
  rw [d] at d'
  injection d' with d1 _
  have : its = its' := by simpa using congrArg Array.toList d1
  subst this
  exact r.inj r'
end
/-! ### another wish about exceptions -/
abbrev Cx.wish (X : Cx) (E : Value → Shared → Prop) : Cx := { X with xe := E }
/-- no exception leaves -/
abbrev Cx.nox (X : Cx) : Cx := X.wish fun _ _ => False
theorem Cx.Ok.wish {X : Cx} (ok : X.Ok) (E : Value → Shared → Prop) : (X.wish E).Ok :=
  ⟨ok.mod, ok.kind, ok.glob, ok.blt, ok.above, ok.inj, ok.has, ok.cab, ok.hd, ok.frames, ok.stk, ok.exf, ok.bs, ok.bsz, ok.noex, ok.exfs, ok.funs, ok.frf⟩
theorem Cx.Ok.unwish {X : Cx} {E : Value → Shared → Prop} (ok : (X.wish E).Ok) : X.Ok :=
  ⟨ok.mod, ok.kind, ok.glob, ok.blt, ok.above, ok.inj, ok.has, ok.cab, ok.hd, ok.frames, ok.stk, ok.exf, ok.bs, ok.bsz, ok.noex, ok.exfs, ok.funs, ok.frf⟩
section
variable {X : Cx} {pins : List (Addr × Obj)} {σ : St} {H : Hp} {s : Shared} {E : Value → Shared → Prop}
theorem Inv.wish (I : Inv X pins σ H s) (E : Value → Shared → Prop) : Inv (X.wish E) pins σ H s := ⟨I.ok.wish E, I.os, I.bare, I.base, I.loc, I.cell, I.free, I.freeC, I.pin, I.hok, I.len⟩
theorem Inv.unwish (I : Inv (X.wish E) pins σ H s) : Inv X pins σ H s := ⟨I.ok.unwish, I.os, I.bare, I.base, I.loc, I.cell, I.free, I.freeC, I.pin, I.hok, I.len⟩
theorem SP.unwish {D : Ends} {f : Flow} {s' : Shared} (h : SP (X.wish E) pins D f s') : SP X pins D f s' := by
  cases f with
  | next => obtain ⟨σ', H', I, q⟩ := h; exact ⟨σ', H', I.unwish, q⟩
  | brk => obtain ⟨σ', H', I, q⟩ := h; exact ⟨σ', H', I.unwish, q⟩
  | cont => obtain ⟨σ', H', I, q⟩ := h; exact ⟨σ', H', I.unwish, q⟩
  | ret u => obtain ⟨v, σ', H', I, r, q⟩ := h; exact ⟨v, σ', H', I.unwish, r, q⟩
theorem PE.nox {e : Expr} {t : TE} (h : PE X.nox e t) : PE X e t := fun pins s σ H Q I hw =>
  wpAny_mono (h pins s σ H Q (I.wish _) hw) (fun _ _ ⟨v, H', I', r, q⟩ => ⟨v, H', I'.unwish, r, q⟩) fun _ _ z => False.elim z
theorem PT.nox {e : Expr} {t : TT} (h : PT X.nox e t) : PT X e t := fun pins s σ H Q I hw =>
  wpAny_mono (h pins s σ H Q (I.wish _) hw) (fun _ _ ⟨H', I', q⟩ => ⟨H', I'.unwish, q⟩) fun _ _ z => False.elim z
theorem PSs.nox {st : List Stmt} {t : TS} (h : PSs X.nox st t) : PSs X st t := fun pins s σ H D I hw =>
  wpAny_mono (h pins s σ H D (I.wish _) hw) (fun _ _ q => q.unwish) fun _ _ z => False.elim z
end
/-! ### blocks and small statements -/
section
variable {X : Cx} {st : Stmt} {rest : List Stmt} {t u : TS} {e : Expr} {te : TE} {pos : Pos}
def tNext : TS := fun D σ H => D.nx σ H
def tSeq (t u : TS) : TS := fun D σ H => t { D with nx := u D } σ H
theorem pss_nil : PSs X [] tNext := fun _ _ σ H _ I h => wpAny_execs_nil ⟨σ, H, I, h⟩
theorem pss_cons (h1 : PS X st t) (h2 : PSs X rest u) : PSs X (st :: rest) (tSeq t u) := by
  intro pins s σ H D I h
  refine wpAny_execs_cons (thn (h1 pins s σ H { D with nx := u D } I h) fun f s1 q => ?_)
  cases f with
  | next =>
    obtain ⟨σ', H', I', q⟩ := q
    exact h2 pins s1 σ' H' D I' q
  | ret v => exact q
  | brk => exact q
  | cont => exact q
/-- in a def's body nothing is shown -/
theorem Inv.quiet {pins : List (Addr × Obj)} {σ : St} {H : Hp} {s : Shared} (I : Inv X pins σ H s) : interactive X.env = false := by simp [interactive, I.ok.kind]
/-- an expression whose value is dropped -/
def tDrop (te : TE) : TS := fun D σ H => te σ H fun _ H1 => D.nx σ H1
theorem ps_expr (he : PE X e te) (hs : swapsWith e none pos.line X.env = pure false := by rfl) : PS X (.Expr e pos) (tDrop te) := by
  intro pins s σ H D I h
  exact wpAny_Expr_any (thn (he pins s σ H _ I h) fun v s1 ⟨x, H1, I1, r1, q1⟩ => ⟨σ, H1, I1, q1⟩) I.quiet hs
def tRet (te : TE) : TS := fun D σ H => te σ H D.rt
theorem ps_ret (he : PE X e te) : PS X (.Return (some e) pos) (tRet te) := by
  intro pins s σ H D I h
  exact wpAny_Return_some (thn (he pins s σ H _ I h) fun v s1 ⟨x, H1, I1, r1, q1⟩ => ⟨x, σ, H1, I1, r1, q1⟩)
def tIfS (c : TT) (t u : TS) : TS := fun D σ H => c σ H fun b H1 => if b = true then t D σ H1 else u D σ H1
theorem ps_if {c : Expr} {a b : List Stmt} {tc : TT} (hc : PT X c tc) (ha : PSs X a t) (hb : PSs X b u) : PS X (.If c a b pos) (tIfS tc t u) := by
  intro pins s σ H D I h
  refine wpAny_If (thn (hc pins s σ H _ I h) fun d s1 ⟨H1, I1, q1⟩ => ?_)
  cases d with
  | true => exact ha pins s1 σ H1 D I1 q1
  | false => exact hb pins s1 σ H1 D I1 q1
/-- code that the proof never comes to -/
def tNever : TS := fun _ _ _ => False
theorem pss_never {sts : List Stmt} : PSs X sts tNever := fun _ _ _ _ _ _ h => h.elim
end
/-! ### targets -/
abbrev TG := V → St → Hp → (St → Hp → Prop) → Prop
abbrev TGs := List V → St → Hp → (St → Hp → Prop) → Prop
def PG (X : Cx) (target : Expr) (t : TG) : Prop :=
  ∀ (pins : List (Addr × Obj)) (s : Shared) (σ : St) (H : Hp) (v : V) (u : Value) (Q : St → Hp → Prop), Inv X pins σ H s → RelV v u → t v σ H Q →
    wpAny (model X.prog X.w) X.A (assign target X.env u) (fun _ s' => ∃ σ' H', Inv X pins σ' H' s' ∧ Q σ' H') X.xe s
/-- several targets, one after another -/
def PGs (X : Cx) (ts : List Expr) (t : TGs) : Prop :=
  ∀ (pins : List (Addr × Obj)) (s : Shared) (σ : St) (H : Hp) (vs : List V) (us : List Value) (Q : St → Hp → Prop), Inv X pins σ H s → Vals vs us → t vs σ H Q →
    wpAny (model X.prog X.w) X.A (assignInOrder ((assignEach ts X.env).map (·.2)) us) (fun _ s' => ∃ σ' H', Inv X pins σ' H' s' ∧ Q σ' H') X.xe s
section
variable {X : Cx} {pos : Pos}
def gName (i : Nat) : TG := fun v σ H Q => Q (σ.set i (some v)) H
theorem pg_name {i : Nat} {x : Str} (hN : X.N.Nodup) (hi : X.N[i]? = some x) (hx : Loc X.env.scope x) (hf : X.fn x = true ∨ X.env.scope.names.lookup x = some .local := by first | exact .inl rfl | exact .inr rfl | assumption) : PG X (.Name x pos) (gName i) := by
  intro pins s σ H v u Q I r h
  exact wpAny_assign_Name (store_ok I hN hi hx r (fun s' I' => ⟨_, H, I', h⟩) hf)
/-- target = value -/
def tAsg (te : TE) (g : TG) : TS := fun D σ H => te σ H fun x H1 => g x σ H1 D.nx
/-- name = value -/
theorem ps_set {i : Nat} {x : Str} {e : Expr} {te : TE} {pos' : Pos} (hN : X.N.Nodup) (hi : X.N[i]? = some x) (hx : Loc X.env.scope x) (he : PE X e te) (hs : swapsWith e (some (.Name x pos')) pos.line X.env = pure false := by rfl) (hf : X.fn x = true ∨ X.env.scope.names.lookup x = some .local := by first | exact .inl rfl | exact .inr rfl | assumption) :
    PS X (.Assign [.Name x pos'] e pos) (tAsg te (gName i)) := by
  intro pins s σ H D I h
  refine wpAny_Assign_Name (thn (he pins s σ H _ I h) fun v s1 ⟨y, H1, I1, r1, q1⟩ => ?_) hs
  exact store_ok I1 hN hi hx r1 (fun s2 I2 => ⟨_, H1, I2, q1⟩) hf
end
/-! ### while -/
/-! ### what a loop or a comprehension walks -/
/-- at turn i: it yields x (the heap may grow), or it stops -/
structure It where
  go : Nat → Hp → Prop
  yld : Nat → Hp → V → Hp → Prop
  stop : Nat → Hp → Prop
/-- the iterator's own objects may turn: they are not the frame's, not pinned, younger than the entry (or a comprehension's own) -/
def FpOk (X : Cx) (pins : List (Addr × Obj)) (H : Hp) (b : Addr) : Prop :=
  H b = none ∧ b ≠ X.env.locals ∧ b ∉ X.fs ∧ (b ∈ X.ex ∨ X.s₀.heap.objs.size ≤ b) ∧ (∀ x c, X.env.cells.lookup x = some c → c ≠ b) ∧ ∀ p ∈ X.pn ++ pins, p.1 ≠ b
theorem Inv.fpOk {X : Cx} {pins : List (Addr × Obj)} {σ : St} {H H' : Hp} {s : Shared} {b : Addr} (I : Inv X pins σ H s) (hb : s.heap.objs.size ≤ b) (hn : H' b = none) : FpOk X pins H' b := by
  refine ⟨hn, Nat.ne_of_gt (Nat.lt_of_lt_of_le I.lt hb), I.nofs hb, .inr (Nat.le_trans I.sz hb), fun x c e z => ?_, fun p hp z => ?_⟩
  · obtain ⟨v, q⟩ := I.cell x c e
    exact absurd (Nat.lt_of_lt_of_le q.lt (by rw [z]; exact hb)) (Nat.lt_irrefl _)
  · exact absurd (Nat.lt_of_lt_of_le (Heap.lt_size (I.pin p hp).1) (by rw [z]; exact hb)) (Nat.lt_irrefl _)
structure Turn (P : Program) (w : World) (K : PySem.W.Frag) (tg : Expr) (J : It) (fp : List Addr) (it : Addr) (tn : Nat → Heap → Prop) : Prop where
  mem : it ∈ fp
  obj : ∀ i h, tn i h → ∀ b ∈ fp, ∃ o, h.get? b = some o ∧ ∀ v, o.data ≠ .cell v
  keep : ∀ i h h', tn i h → (∀ b ∈ fp, ∀ o, h.get? b = some o → h'.get? b = some o) → tn i h'
  item : ∀ (X : Cx), X.prog = P → X.w = w → X.K = K → X.calm = true → ∀ (i : Nat) (pins : List (Addr × Obj)) (s : Shared) (σ : St) (H : Hp) (E : Value → Shared → Prop), Inv X pins σ H s → (∀ b ∈ fp, FpOk X pins H b) → tn i s.heap → J.go i H →
    wpAny (model P w) X.A (pyNext (.ref it)) (fun r s1 => ∃ u, r = some u ∧
      wpAny (model P w) X.A (letOwnedTupleGo tg (.ref it) u) (fun _ s2 => ∃ x H', Inv X pins σ H' s2 ∧ RelV x u ∧ J.yld i H x H' ∧ tn (i + 1) s2.heap ∧ ∀ b ∈ fp, H' b = none) E s1) E s
  done : ∀ (X : Cx), X.prog = P → X.w = w → X.K = K → X.calm = true → ∀ (i : Nat) (pins : List (Addr × Obj)) (s : Shared) (σ : St) (H : Hp) (E : Value → Shared → Prop), Inv X pins σ H s → (∀ b ∈ fp, FpOk X pins H b) → tn i s.heap → J.stop i H →
    wpAny (model P w) X.A (pyNext (.ref it)) (fun r s1 => r = none ∧ Inv X pins σ H s1) E s
  self : ∀ (A : Around) (i : Nat) (s : Shared) (Q : Value → Shared → Prop) (E : Value → Shared → Prop), tn i s.heap → Q (.ref it) s → wpAny (model P w) A (pyIter (.ref it)) Q E s
abbrev TI := St → Hp → (It → Hp → Prop) → Prop
/-- an iterator has come -/
def PIE (X : Cx) (pins : List (Addr × Obj)) (σ : St) (tg : Expr) (R : It → Hp → Prop) (itv : Value) (s2 : Shared) : Prop :=
  ∃ (it : Addr) (fp : List Addr) (tn : Nat → Heap → Prop) (J : It) (H' : Hp), itv = .ref it ∧ Inv X pins σ H' s2 ∧ Turn X.prog X.w X.K tg J fp it tn ∧ tn 0 s2.heap ∧ (∀ b ∈ fp, FpOk X pins H' b) ∧ R J H'
def PI (X : Cx) (tg iter : Expr) (wi : TI) : Prop :=
  ∀ (pins : List (Addr × Obj)) (s : Shared) (σ : St) (H : Hp) (R : It → Hp → Prop), Inv X pins σ H s → wi σ H R →
    wpAny (model X.prog X.w) X.A (eval iter X.env) (fun v s1 => wpAny (model X.prog X.w) X.A (pyIter v) (PIE X pins σ tg R) X.xe s1) X.xe s
/-- the step ahead of the store is nothing for an iterator that keeps no tuple -/
theorem go_of {M : Model} {A : Around} {E : Value → Shared → Prop} {s : Shared} {tg : Expr} {it : Addr} {u : Value} {o : Obj} {n : String} {vs : Array Value} {Q : Unit → Shared → Prop} (ho : s.heap.get? it = some o) (hc : o.cls = .type n) (hd : o.data = .fields vs)
    (hn : ["enumerate", "zip", "dict_itemiterator", "dict_reverseitemiterator", "odict_iterator", "itertools.zip_longest", "itertools.pairwise"].contains n = false) (hQ : Q () s) : wpAny M A (letOwnedTupleGo tg (.ref it) u) Q E s := by
  unfold letOwnedTupleGo
  cases tg <;> first
    | exact wpAny_pure hQ
    | (cases u <;> first
        | exact wpAny_pure hQ
        | (refine wpAny_bind (wpAny_load ho ?_)
           rw [hc, hd]
           show wpAny M A (if (["enumerate", "zip", "dict_itemiterator", "dict_reverseitemiterator", "odict_iterator", "itertools.zip_longest", "itertools.pairwise"].contains n && vs[0]? == some (rawInt _)) = true then _ else _) Q E s
           rw [if_neg (by intro h; rw [hn, Bool.false_and] at h; cases h)]
           exact wpAny_pure hQ))
/-- the list at a, as it stands at each turn (a loop may append to it) -/
def Itl (K : PySem.W.Frag) (a : Addr) : It :=
  ⟨fun i H => ∃ xs x, SqL K H a xs ∧ xs[i]? = some x, fun i H x H' => H' = H ∧ ∀ xs, SqL K H a xs → xs[i]? = some x, fun i H => ∃ xs, SqL K H a xs ∧ xs.length ≤ i⟩
def Itt (K : PySem.W.Frag) (a : Addr) : It :=
  ⟨fun i H => ∃ xs x, SqT K H a xs ∧ xs[i]? = some x, fun i H x H' => H' = H ∧ ∀ xs, SqT K H a xs → xs[i]? = some x, fun i H => ∃ xs, SqT K H a xs ∧ xs.length ≤ i⟩
/-- lo, lo + 1, .. (n of them) -/
def Itr (lo : Int) (n : Nat) : It := ⟨fun i _ => i < n, fun i H x H' => H' = H ∧ x = .int (lo + i), fun i _ => n ≤ i⟩
theorem turn_list {P : Program} {w : World} {K : PySem.W.Frag} {tg : Expr} (a it : Addr) : Turn P w K tg (Itl K a) [it] it (fun i h => h.IsListIter it a i) where
  mem := by simp
  obj := fun i h st b hb => by
    have e : b = it := by simpa using hb
    subst e
    obtain ⟨o, e, c, d⟩ := st
    exact ⟨o, e, fun v z => by rw [d] at z; cases z⟩
  keep := fun i h h' st k => st.at fun o e => k it (by simp) o e
  item := by
    intro X hP hw hK hc i pins s σ H E I hf st hg
    subst hP hw hK
    obtain ⟨xs, x, hq, hx⟩ := hg
    obtain ⟨its, rv, p, hz⟩ := I.list hq
    obtain ⟨u, hu, ru⟩ := rv.get hx
    obtain ⟨f0, f1, f2, f3, f4, f5⟩ := hf it (by simp)
    refine wpAny_pyNext_list_item st p.isList (x := u) (by simpa using hu) fun h' st' sb => ?_
    have I1 : Inv X pins σ H { s with heap := h' } := I.turned (t' := s.toks) (fun b o hb e => (sb.2 b hb).trans e) f0 f1 f3 f4 f5
    obtain ⟨o, e, c, d⟩ := id st'
    exact ⟨u, rfl, go_of (s := { s with heap := h' }) e c d (by decide) ⟨x, H, I1, ru, ⟨rfl, fun ys hy => by rw [I.list_inj hy hq]; exact hx⟩, st', fun b hb => (hf b hb).1⟩⟩
  done := by
    intro X hP hw hK hc i pins s σ H E I hf st hg
    subst hP hw hK
    obtain ⟨xs, hq, hx⟩ := hg
    obtain ⟨its, rv, p, hz⟩ := I.list hq
    obtain ⟨f0, f1, f2, f3, f4, f5⟩ := hf it (by simp)
    have hl := rv.length
    exact wpAny_pyNext_list_end (I.ok.hd hc) st p.isList (by simp; omega) fun h' eb => ⟨rfl, I.turned (t' := s.toks) (fun b o hb e => eb b o hb e) f0 f1 f3 f4 f5⟩
  self := fun _ _ _ _ _ st h => wpAny_pyIter_listiter st h
theorem turn_tuple {P : Program} {w : World} {K : PySem.W.Frag} {tg : Expr} (a it : Addr) : Turn P w K tg (Itt K a) [it] it (fun i h => h.IsTupleIter it a i) where
  mem := by simp
  obj := fun i h st b hb => by
    have e : b = it := by simpa using hb
    subst e
    obtain ⟨o, e, c, d⟩ := st
    exact ⟨o, e, fun v z => by rw [d] at z; cases z⟩
  keep := fun i h h' st k => st.at fun o e => k it (by simp) o e
  item := by
    intro X hP hw hK hc i pins s σ H E I hf st hg
    subst hP hw hK
    obtain ⟨xs, x, hq, hx⟩ := hg
    obtain ⟨its, rv, p, hz⟩ := I.tuple hq
    obtain ⟨u, hu, ru⟩ := rv.get hx
    obtain ⟨f0, f1, f2, f3, f4, f5⟩ := hf it (by simp)
    refine wpAny_pyNext_tuple_item st (show s.heap.IsTuple a its.toArray from p) (x := u) (by simpa using hu) fun h' st' sb => ?_
    have I1 : Inv X pins σ H { s with heap := h' } := I.turned (t' := s.toks) (fun b o hb e => (sb.2 b hb).trans e) f0 f1 f3 f4 f5
    obtain ⟨o, e, c, d⟩ := id st'
    exact ⟨u, rfl, go_of (s := { s with heap := h' }) e c d (by decide) ⟨x, H, I1, ru, ⟨rfl, fun ys hy => by rw [I.tuple_inj hy hq]; exact hx⟩, st', fun b hb => (hf b hb).1⟩⟩
  done := by
    intro X hP hw hK hc i pins s σ H E I hf st hg
    subst hP hw hK
    obtain ⟨xs, hq, hx⟩ := hg
    obtain ⟨its, rv, p, hz⟩ := I.tuple hq
    obtain ⟨f0, f1, f2, f3, f4, f5⟩ := hf it (by simp)
    have hl := rv.length
    exact wpAny_pyNext_tuple_end (I.ok.hd hc) st (show s.heap.IsTuple a its.toArray from p) (by simp; omega) fun h' eb => ⟨rfl, I.turned (t' := s.toks) (fun b o hb e => eb b o hb e) f0 f1 f3 f4 f5⟩
  self := fun _ _ _ _ _ st h => wpAny_pyIter_tupleiter st h
theorem turn_range {P : Program} {w : World} {K : PySem.W.Frag} {tg : Expr} (it : Addr) (lo : Int) (n : Nat) : Turn P w K tg (Itr lo n) [it] it (fun i h => IsRangeIter h it (lo + (i : Nat) * 1) ((n : Int) - (i : Nat)) 1) where
  mem := by simp
  obj := fun i h st b hb => by
    have e : b = it := by simpa using hb
    subst e
    exact ⟨_, st, fun v z => by
      have z' : Data.fields _ = Data.cell v := z
      cases z'⟩
  keep := fun i h h' st k => k it (by simp) _ st
  item := by
    intro X hP hw hK hc i pins s σ H E I hf st hg
    subst hP hw hK
    obtain ⟨f0, f1, f2, f3, f4, f5⟩ := hf it (by simp)
    have W := Walks.range (prog := X.prog) (w := X.w) (I.ok.hd hc) it lo 1 n
    refine W.item i s _ _ hg st fun v h' tk hv st' kk => ?_
    obtain ⟨t, rfl⟩ := hv
    have I1 : Inv X pins σ H { s with heap := h', toks := tk } := I.turned (fun b o hb e => kk b o (by simpa using hb) e) f0 f1 f3 f4 f5
    refine ⟨_, rfl, go_of (s := { s with heap := h', toks := tk }) (n := "range_iterator") st' rfl rfl (by decide) ⟨.int (lo + i), H, I1, ⟨t, ?_⟩, ⟨rfl, rfl⟩, st', fun b hb => (hf b hb).1⟩⟩
    rw [Int.mul_one]
  done := by
    intro X hP hw hK hc i pins s σ H E I hf st hg
    subst hP hw hK
    obtain ⟨f0, f1, f2, f3, f4, f5⟩ := hf it (by simp)
    exact wpAny_pyNext_range_end (I.ok.hd hc) st (by have : n ≤ i := hg; omega) fun h' eb => ⟨rfl, I.turned (t' := s.toks) (fun b o hb e => eb b o hb e) f0 f1 f3 f4 f5⟩
  self := fun _ _ _ _ _ st h => wpAny_pyIter_rangeiter st h
end L2
namespace L2
open PySem PySem.Spec PyProof.Rows
section
variable {X : Cx} {tg : Expr}
def iList (K : PySem.W.Frag) (tl : TE) : TI := fun σ H R => tl σ H fun x H1 => ∃ a, x = .ref a ∧ (∃ xs, SqL K H1 a xs) ∧ R (Itl K a) H1
def iTup (K : PySem.W.Frag) (tl : TE) : TI := fun σ H R => tl σ H fun x H1 => ∃ a, x = .ref a ∧ (∃ xs, SqT K H1 a xs) ∧ R (Itt K a) H1
theorem pi_list {l : Expr} {tl : TE} (hl : PE X l tl) : PI X tg l (iList X.K tl) := by
  intro pins s σ H R I h
  refine thn (hl pins s σ H _ I h) fun v s1 ⟨x, H1, I1, r1, q1⟩ => ?_
  obtain ⟨a, e, ⟨xs, hq⟩, q⟩ := q1
  subst e
  cases r1
  obtain ⟨its, rv, p, hz⟩ := I1.list hq
  refine wpAny_pyIter_list p.isList ?_
  refine ⟨s1.heap.objs.size, [s1.heap.objs.size], _, _, H1, rfl, I1.kept (t' := s1.toks) fun b o e => Heap.get?_push_of_some _ e, turn_list a _, ⟨_, Heap.get?_push_size _ rfl, rfl, rfl⟩, fun b hb => ?_, q⟩
  have e : b = s1.heap.objs.size := by simpa using hb
  subst e
  exact I1.fpOk (Nat.le_refl _) (I1.hok.fresh (Nat.le_refl _))
theorem pi_tup {l : Expr} {tl : TE} (hl : PE X l tl) : PI X tg l (iTup X.K tl) := by
  intro pins s σ H R I h
  refine thn (hl pins s σ H _ I h) fun v s1 ⟨x, H1, I1, r1, q1⟩ => ?_
  obtain ⟨a, e, ⟨xs, hq⟩, q⟩ := q1
  subst e
  cases r1
  obtain ⟨its, rv, p, hz⟩ := I1.tuple hq
  refine wpAny_pyIter_tuple (show s1.heap.IsTuple a its.toArray from p) ?_
  refine ⟨s1.heap.objs.size, [s1.heap.objs.size], _, _, H1, rfl, I1.kept (t' := s1.toks) fun b o e => Heap.get?_push_of_some _ e, turn_tuple a _, ⟨_, Heap.get?_push_size _ rfl, rfl, rfl⟩, fun b hb => ?_, q⟩
  have e : b = s1.heap.objs.size := by simpa using hb
  subst e
  exact I1.fpOk (Nat.le_refl _) (I1.hok.fresh (Nat.le_refl _))
/-- a range object just made, walked -/
theorem range_it {pins : List (Addr × Obj)} {σ : St} {H : Hp} {s : Shared} {R : It → Hp → Prop} {E : Value → Shared → Prop} {lo hi : Int} {t u v : Tok} {tk : Nat} (I : Inv X pins σ H s) (h1 : -(2 ^ 62) ≤ lo) (h2 : lo < 2 ^ 62) (h3 : -(2 ^ 62) ≤ hi) (h4 : hi < 2 ^ 62)
    (q : R (Itr lo (hi - lo).toNat) H) : wpAny (model X.prog X.w) X.A (pyIter (.ref s.heap.objs.size)) (PIE X pins σ tg R) E { s with heap := s.heap.push { cls := .type "range", data := .fields #[.int lo t, .int hi u, .int 1 v] }, toks := tk } := by
  refine wpAny_pyIter_range (IsRange.new ..) (small_one h1 h2 h3 h4) ?_
  have I1 : Inv X pins σ H { s with heap := s.heap.push { cls := .type "range", data := .fields #[.int lo t, .int hi u, .int 1 v] }, toks := tk } := I.kept fun b o e => Heap.get?_push_of_some _ e
  refine ⟨(s.heap.push { cls := .type "range", data := .fields #[.int lo t, .int hi u, .int 1 v] }).objs.size, [(s.heap.push { cls := .type "range", data := .fields #[.int lo t, .int hi u, .int 1 v] }).objs.size], _, _, H, rfl,
    I1.kept (t' := tk) fun b o e => Heap.get?_push_of_some _ e, turn_range _ lo (hi - lo).toNat, ?_, fun b hb => ?_, q⟩
  · have e1 : lo + ((0 : Nat) : Int) * 1 = lo := by simp
    have e2 : (((hi - lo).toNat : Nat) : Int) - ((0 : Nat) : Int) = Builtin.Range.rangeSize lo hi 1 := by rw [rangeSize_one]; split <;> omega
    show IsRangeIter _ _ (lo + ((0 : Nat) : Int) * 1) ((((hi - lo).toNat : Nat) : Int) - ((0 : Nat) : Int)) 1
    rw [e1, e2]
    exact Heap.get?_push_size _ rfl
  · have e : b = (s.heap.push { cls := .type "range", data := .fields #[.int lo t, .int hi u, .int 1 v] }).objs.size := by simpa using hb
    subst e
    exact I1.fpOk (Nat.le_refl _) (I1.hok.fresh (Nat.le_refl _))
def iRng1 (ta : TA) : TI := fun σ H R => ta σ H fun vs H1 => ∃ j : Int, vs = [.int j] ∧ -(2 ^ 62) ≤ j ∧ j < 2 ^ 62 ∧ R (Itr 0 j.toNat) H1
theorem pi_range1 {a : Expr} {ta : TA} {p pos : Pos} (hg : Gl X "range") (hm : X.mg "range" = none) (ha : PA X [a] ta) (hs : starEach [a] X.env = [(false, eval a X.env)] := by rfl) : PI X tg (.Call (.Name "range" p) [a] [] pos) (iRng1 ta) := by
  intro pins s σ H R I h
  refine Call_ (ld_blt I hg hm boot_range (PyProof.Rows.callWith_type1 (thn (ha pos pins s σ H _ I h) fun us s1 ⟨vs, H1, I1, r1, q1⟩ => ?_) hs rfl))
  obtain ⟨j, e, q1, q2, q⟩ := q1
  subst e
  cases r1 with
  | cons r rr =>
    cases rr
    obtain ⟨t, rfl⟩ := r
    exact call_range_1 (range_it I1 (by omega) (by omega) q1 q2 (by simpa using q))
/-! ### for -/
/-- W: the invariant by the turn and a measure; N: what the body is to reach -/
def tFor (wi : TI) (g : TG) (tb : TS) : TS := fun D σ H => wi σ H fun J H1 => ∃ W : Nat → Nat → St → Hp → Prop, (∃ m, W 0 m σ H1) ∧ ∀ i m σ H, W i m σ H →
  (J.stop i H ∧ D.nx σ H) ∨ (J.go i H ∧ ∃ N : St → Hp → Prop, (∀ σ' H', N σ' H' → ∃ m', m' < m ∧ W (i + 1) m' σ' H') ∧ ∀ x H', J.yld i H x H' → g x σ H' fun σ2 H2 => tb { D with nx := N, ct := N, bk := D.nx } σ2 H2)
/-- the records at fp as they stand -/
def pinsAt (fp : List Addr) (h : Heap) : List (Addr × Obj) := fp.filterMap fun b => (h.get? b).map fun o => (b, o)
theorem mem_pinsAt {fp : List Addr} {h : Heap} {b : Addr} {o : Obj} (hb : b ∈ fp) (e : h.get? b = some o) : (b, o) ∈ pinsAt fp h := List.mem_filterMap.mpr ⟨b, hb, by rw [e]; rfl⟩
theorem of_pinsAt {fp : List Addr} {h : Heap} {p : Addr × Obj} (hp : p ∈ pinsAt fp h) : p.1 ∈ fp ∧ h.get? p.1 = some p.2 := by
  obtain ⟨b, hb, e⟩ := List.mem_filterMap.mp hp
  cases q : h.get? b with
  | none => rw [q] at e; cases e
  | some o =>
    rw [q] at e
    have e' : (b, o) = p := Option.some.inj e
    subst e'
    exact ⟨hb, q⟩
theorem Inv.pinned {pins : List (Addr × Obj)} {σ : St} {H : Hp} {s : Shared} {fp : List Addr} (I : Inv X pins σ H s) (hf : ∀ b ∈ fp, FpOk X pins H b) (ho : ∀ b ∈ fp, ∃ o, s.heap.get? b = some o ∧ ∀ v, o.data ≠ .cell v) : Inv X (pins ++ pinsAt fp s.heap) σ H s :=
  I.pins_of fun p hp => (List.mem_append.mp hp).elim (fun z => I.pin p (List.mem_append_right _ z)) fun z => by
    obtain ⟨hb, e⟩ := of_pinsAt z
    obtain ⟨f0, f1, f2, _⟩ := hf p.1 hb
    obtain ⟨o, e', d⟩ := ho p.1 hb
    rw [e] at e'; cases e'
    exact ⟨e, f0, f1, f2, d⟩
theorem Inv.unpinned {pins pl : List (Addr × Obj)} {σ : St} {H : Hp} {s : Shared} (I : Inv X (pins ++ pl) σ H s) : Inv X pins σ H s := I.pins_of fun p hp => I.pin p (List.mem_append_right _ (List.mem_append_left _ hp))
theorem ps_for {iter : Expr} {body : List Stmt} {wi : TI} {g : TG} {tb : TS} {pos : Pos} (hp : PassesOwn (model X.prog X.w) X.A X.env X.xe) (hc : X.calm = true) (hi : PI X tg iter wi) (hg : PG X tg g) (hb : PSs X body tb)
    (hs : ∀ x, foldedSetIterable iter X.env x = pure x := by intro _; rfl) : PS X (.For tg iter body [] pos) (tFor wi g tb) := by
  intro pins s σ H D I h
  refine wpAny_For (thn (hi pins s σ H _ I h) fun v s1 h1 => thn h1 fun itv s2 h2 => ?_) hs
  obtain ⟨it, fp, tn, J, H2, e, I2, T, st2, f2, W, ⟨m0, w0⟩, turn⟩ := h2
  subst e
  -- what stays true of the iterator's objects through the loop
  have stat : ∀ {H' : Hp}, (∀ b ∈ fp, H' b = none) → ∀ b ∈ fp, FpOk X pins H' b := fun hn b hb => ⟨hn b hb, (f2 b hb).2⟩
  refine codeAny_forLoop_any (fun n s' => ∃ i σ' H', Inv X pins σ' H' s' ∧ tn i s'.heap ∧ (∀ b ∈ fp, H' b = none) ∧ W i n σ' H') ?_ m0 ⟨0, σ, H2, I2, st2, fun b hb => (f2 b hb).1, w0⟩
  rintro n s3 ⟨i, σ3, H3, I3, st3, fr3, w3⟩
  rcases turn i n σ3 H3 w3 with ⟨stop, qn⟩ | ⟨go, N, hN, step⟩
  · refine wpAny_passesOwn hp (thn (T.done X rfl rfl rfl hc i pins s3 σ3 H3 X.xe I3 (stat fr3) st3 stop) fun r s4 ⟨hr, I4⟩ => ?_)
    subst hr
    exact wpAny_execs_nil ⟨σ3, H3, I4, qn⟩
  · refine wpAny_passesOwn hp (thn (T.item X rfl rfl rfl hc i pins s3 σ3 H3 X.xe I3 (stat fr3) st3 go) fun r s4 ⟨u, hr, h4⟩ => ?_)
    subst hr
    refine wpAny_passesOwn hp (thn h4 fun _ s5 ⟨x, H5, I5, r5, y5, st5, fr5⟩ => ?_)
    have I5' := I5.pinned (stat fr5) (T.obj _ _ st5)
    refine wpAny_passesOwn hp (thn (hg _ s5 σ3 H5 x u _ I5' r5 (step x H5 y5)) fun _ s6 ⟨σ6, H6, I6, q6⟩ => ?_)
    refine wpAny_passesOwn hp (thn (hb _ s6 σ6 H6 _ I6 q6) fun f s7 q7 => ?_)
    have again : ∀ {σ7 : St} {H7 : Hp}, Inv X (pins ++ pinsAt fp s5.heap) σ7 H7 s7 → N σ7 H7 → ∃ m, m < n ∧ ∃ i σ' H', Inv X pins σ' H' s7 ∧ tn i s7.heap ∧ (∀ b ∈ fp, H' b = none) ∧ W i m σ' H' := fun {σ7 H7} I7 n7 => by
      obtain ⟨m', hm, w7⟩ := hN σ7 H7 n7
      refine ⟨m', hm, i + 1, σ7, H7, I7.unpinned, T.keep _ _ _ st5 fun b hb o e => (I7.pin (b, o) (List.mem_append_right _ (List.mem_append_right _ (mem_pinsAt hb e)))).1, fun b hb => ?_, w7⟩
      obtain ⟨o, e, d⟩ := T.obj _ _ st5 b hb
      exact (I7.pin (b, o) (List.mem_append_right _ (List.mem_append_right _ (mem_pinsAt hb e)))).2.1
    cases f with
    | next => obtain ⟨σ7, H7, I7, n7⟩ := q7; exact again I7 n7
    | cont => obtain ⟨σ7, H7, I7, n7⟩ := q7; exact again I7 n7
    | brk => obtain ⟨σ7, H7, I7, q7⟩ := q7; exact ⟨σ7, H7, I7.unpinned, q7⟩
    | ret v => obtain ⟨x7, σ7, H7, I7, r7, q7⟩ := q7; exact ⟨x7, σ7, H7, I7.unpinned, r7, q7⟩
end
end L2
namespace L2
open PySem PySem.Spec PyProof.Rows
abbrev R2 := V → V → Hp → VK → Prop
/-- a two-place operation on values: f is binaryOp op, inplaceOp op or compareOp op -/
def OpR (X : Cx) (f : Value → Value → Sem Value) (r : R2) : Prop :=
  ∀ (pins : List (Addr × Obj)) (s : Shared) (σ : St) (H : Hp) (x y : V) (v u : Value) (Q : VK), Inv X pins σ H s → RelV x v → RelV y u → r x y H Q →
    wpAny (model X.prog X.w) X.A (f v u) (EP X pins σ Q) X.xe s
/-- a one-place operation -/
def UnR (X : Cx) (f : Value → Sem Value) (r : V → Hp → VK → Prop) : Prop :=
  ∀ (pins : List (Addr × Obj)) (s : Shared) (σ : St) (H : Hp) (x : V) (v : Value) (Q : VK), Inv X pins σ H s → RelV x v → r x H Q →
    wpAny (model X.prog X.w) X.A (f v) (EP X pins σ Q) X.xe s
/-- a call of a value that is known (a builtin, a type) with values -/
def CallR (X : Cx) (f : Value) (r : List V → Hp → VK → Prop) : Prop :=
  ∀ (pins : List (Addr × Obj)) (s : Shared) (σ : St) (H : Hp) (xs : List V) (us : List Value) (Q : VK), Inv X pins σ H s → Vals xs us → r xs H Q →
    wpAny (model X.prog X.w) X.A (call f us) (EP X pins σ Q) X.xe s
def tOp (r : R2) (ta tb : TE) : TE := fun σ H Q => ta σ H fun x H1 => tb σ H1 fun y H2 => r x y H2 Q
def tUn (r : V → Hp → VK → Prop) (ta : TE) : TE := fun σ H Q => ta σ H fun x H1 => r x H1 Q
/-- ints in, under C, and a value out -/
def rI (C : Int → Int → Prop) (g : Int → Int → V) : R2 := fun x y H Q => ∃ i j, x = .int i ∧ y = .int j ∧ C i j ∧ Q (g i j) H
def rI0 (g : Int → Int → V) : R2 := fun x y H Q => ∃ i j, x = .int i ∧ y = .int j ∧ Q (g i j) H
def rU (g : Int → V) : V → Hp → VK → Prop := fun x H Q => ∃ i, x = .int i ∧ Q (g i) H
section
variable {X : Cx} {a b c : Expr} {ta tb tc : TE} {pos : Pos}
theorem binT (ha : PE X a ta) (hb : PE X b tb) {pins : List (Addr × Obj)} {s : Shared} {σ : St} {H : Hp} {R : V → V → Hp → Prop} (I : Inv X pins σ H s)
    (h : ta σ H fun x H1 => tb σ H1 fun y H2 => R x y H2) {Q : Value → Shared → Prop} {f : Value → Value → Sem Value}
    (hf : ∀ v u s2 x y H2, Inv X pins σ H2 s2 → RelV x v → RelV y u → R x y H2 → wpAny (model X.prog X.w) X.A (f v u) Q X.xe s2) :
    wpAny (model X.prog X.w) X.A (eval a X.env) (fun v s₁ => wpAny (model X.prog X.w) X.A (eval b X.env) (fun u s₂ => wpAny (model X.prog X.w) X.A (f v u) Q X.xe s₂) X.xe s₁) X.xe s := by
  refine thn (ha pins s σ H _ I h) fun v s1 ⟨x, H1, I1, r1, q1⟩ => ?_
  refine thn (hb pins s1 σ H1 _ I1 q1) fun u s2 ⟨y, H2, I2, r2, q2⟩ => ?_
  exact hf v u s2 x y H2 I2 r1 r2 q2
theorem pe_op {op : Operator} {r : R2} (ho : OpR X (binaryOp op) r) (ha : PE X a ta) (hb : PE X b tb) : PE X (.BinOp a op b pos) (tOp r ta tb) := by
  intro pins s σ H Q I h
  exact wpAny_BinOp (binT ha hb I h fun v u s2 x y H2 I2 rx ry q => ho pins s2 σ H2 x y v u Q I2 rx ry q)
theorem pe_un {op : UnaryOp} {r : V → Hp → VK → Prop} (ho : UnR X (unaryOp op) r) (ha : PE X a ta) : PE X (.UnaryOp op a pos) (tUn r ta) := by
  intro pins s σ H Q I h
  exact UnaryOp_ (thn (ha pins s σ H _ I h) fun v s1 ⟨x, H1, I1, r1, q1⟩ => ho pins s1 σ H1 x v Q I1 r1 q1)
/-! ### ints -/
theorem opI {f : Value → Value → Sem Value} {C : Int → Int → Prop} {g : Int → Int → Int}
    (rule : ∀ (i j : Int) (t u : Tok) (s : Shared) (Q : Value → Shared → Prop) (E : Value → Shared → Prop), C i j → Q (.int (g i j) s.toks) { s with toks := s.toks + 1 } → wpAny (model X.prog X.w) X.A (f (.int i t) (.int j u)) Q E s) :
    OpR X f (rI C fun i j => .int (g i j)) := by
  intro pins s σ H x y v u Q I rx ry h
  obtain ⟨i, j, rfl, rfl, hc, q⟩ := h
  obtain ⟨t, rfl⟩ := rx
  obtain ⟨t', rfl⟩ := ry
  exact rule i j t t' s _ _ hc ⟨.int (g i j), H, I.tok _, ⟨_, rfl⟩, q⟩
theorem opI0 {f : Value → Value → Sem Value} {g : Int → Int → Int}
    (rule : ∀ (i j : Int) (t u : Tok) (s : Shared) (Q : Value → Shared → Prop) (E : Value → Shared → Prop), Q (.int (g i j) s.toks) { s with toks := s.toks + 1 } → wpAny (model X.prog X.w) X.A (f (.int i t) (.int j u)) Q E s) :
    OpR X f (rI0 fun i j => .int (g i j)) := by
  intro pins s σ H x y v u Q I rx ry h
  obtain ⟨i, j, rfl, rfl, q⟩ := h
  obtain ⟨t, rfl⟩ := rx
  obtain ⟨t', rfl⟩ := ry
  exact rule i j t t' s _ _ ⟨.int (g i j), H, I.tok _, ⟨_, rfl⟩, q⟩
theorem opB0 {f : Value → Value → Sem Value} {g : Int → Int → Bool}
    (rule : ∀ (i j : Int) (t u : Tok) (s : Shared) (Q : Value → Shared → Prop) (E : Value → Shared → Prop), Q (.bool (g i j)) s → wpAny (model X.prog X.w) X.A (f (.int i t) (.int j u)) Q E s) :
    OpR X f (rI0 fun i j => .bl (g i j)) := by
  intro pins s σ H x y v u Q I rx ry h
  obtain ⟨i, j, rfl, rfl, q⟩ := h
  obtain ⟨t, rfl⟩ := rx
  obtain ⟨t', rfl⟩ := ry
  exact rule i j t t' s _ _ ⟨.bl (g i j), H, I, rfl, q⟩
def CDiv (i j : Int) : Prop := 0 < j ∧ j < 1073741824
def CPow (i j : Int) : Prop := 0 ≤ j ∧ j ≤ 1000000 ∧ i.natAbs < 2 ^ 64
def CMul (i j : Int) : Prop := (-(2 ^ 64) < i ∧ i < 2 ^ 64) ∨ (-(2 ^ 64) < j ∧ j < 2 ^ 64)
theorem CMul.ok {i j : Int} (h : CMul i j) : IntMulOk i j := by
  rcases h with ⟨h1, h2⟩ | ⟨h1, h2⟩
  · exact .of_left (intBits_le_64 h1 h2)
  · exact .of_right (intBits_le_64 h1 h2)
theorem op_add : OpR X (binaryOp .Add) (rI0 fun i j => .int (i + j)) := opI0 fun _ _ _ _ _ _ _ q => add_int q
theorem op_sub : OpR X (binaryOp .Sub) (rI0 fun i j => .int (i - j)) := opI0 fun _ _ _ _ _ _ _ q => sub_int q
theorem op_mul : OpR X (binaryOp .Mult) (rI CMul fun i j => .int (i * j)) := opI fun _ _ _ _ _ _ _ hc q => mul_int q hc.ok
/-- // by a positive divisor -/
theorem op_fdiv : OpR X (binaryOp .FloorDiv) (rI CDiv fun i j => .int (i / j)) := opI fun i j _ _ _ _ _ hc q => by
  have h1 : (0 : Int) < j := hc.1
  have h2 : j < 1073741824 := hc.2
  exact floordiv_int (by omega) (by rw [Int.fdiv_eq_ediv_of_nonneg i (by omega)]; exact q) (.inl (PyProof.noPylong_small (by omega)))
/-- % by a positive divisor of any size -/
theorem op_mod : OpR X (binaryOp .Mod) (rI (fun _ j => 0 < j) fun i j => .int (i % j)) := opI fun i j _ _ _ _ _ hc q => by
  have h1 : (0 : Int) < j := hc
  exact mod_int' (by omega) (by rw [Int.fmod_eq_emod_of_nonneg i (by omega)]; exact q)
theorem op_pow : OpR X (binaryOp .Pow) (rI CPow fun i j => .int (i ^ j.toNat)) := opI fun _ _ _ _ _ _ _ hc q => pow_int_small hc.1 hc.2.1 hc.2.2 q
theorem unI {f : Value → Sem Value} {g : Int → Int}
    (rule : ∀ (i : Int) (t : Tok) (s : Shared) (Q : Value → Shared → Prop) (E : Value → Shared → Prop), Q (.int (g i) s.toks) { s with toks := s.toks + 1 } → wpAny (model X.prog X.w) X.A (f (.int i t)) Q E s) :
    UnR X f (rU fun i => .int (g i)) := by
  intro pins s σ H x v Q I rx h
  obtain ⟨i, rfl, q⟩ := h
  obtain ⟨t, rfl⟩ := rx
  exact rule i t s _ _ ⟨.int (g i), H, I.tok _, ⟨_, rfl⟩, q⟩
theorem un_neg : UnR X (unaryOp .USub) (rU fun i => .int (-i)) := unI fun _ _ _ _ _ q => neg_int q
end
/-! ### comparisons -/
/-- the scalars that == tells apart as data does -/
def scal : V → V → Bool
  | .non, .non => true | .non, .int _ => true | .int _, .non => true | .non, .bl _ => true | .bl _, .non => true | .non, .str _ => true | .str _, .non => true
  | .int _, .int _ => true | .bl _, .bl _ => true | .str _, .str _ => true | .byt _, .byt _ => true
  | .int _, .str _ => true | .str _, .int _ => true | .bl _, .str _ => true | .str _, .bl _ => true
  | _, _ => false
def rEq : R2 := fun x y H Q => scal x y = true ∧ Q (.bl (decide (x = y))) H
def rNe : R2 := fun x y H Q => scal x y = true ∧ Q (.bl (!decide (x = y))) H
theorem dec_int {i j : Int} : decide (V.int i = V.int j) = (i == j) := by
  rw [Bool.eq_iff_iff]
  simp
theorem dec_bl {i j : Bool} : decide (V.bl i = V.bl j) = (i == j) := by
  rw [Bool.eq_iff_iff]
  simp
theorem dec_str {i j : Str} : decide (V.str i = V.str j) = (i == j) := by
  rw [Bool.eq_iff_iff]
  simp
theorem dec_byt {i j : Array UInt8} : decide (V.byt i = V.byt j) = (i.toList == j.toList) := by
  rw [Bool.eq_iff_iff]
  cases i
  cases j
  simp
section
variable {X : Cx} {a b c : Expr} {ta tb tc : TE} {pos : Pos}
theorem fin_bl {pins : List (Addr × Obj)} {σ : St} {H : Hp} {s : Shared} {Q : VK} {k k' : Bool} (I : Inv X pins σ H s) (q : Q (.bl k) H) (e : k = k') : EP X pins σ Q (.bool k') s := by
  subst e
  exact ⟨.bl k, H, I, rfl, q⟩
theorem op_eq : OpR X (compareOp .Eq) rEq := by
  intro pins s σ H x y v u Q I rx ry h
  obtain ⟨hs, q⟩ := h
  cases x with
  | non =>
    cases rx
    cases y with
    | non => cases ry; exact PySem.EqNone.eq_none_none (fin_bl I q (by simp))
    | bl j => cases ry; exact PySem.EqNone.eq_none_bool (fin_bl I q (by simp))
    | int j => obtain ⟨t', rfl⟩ := ry; exact PySem.EqNone.eq_none_int (fin_bl I q (by simp))
    | str j => obtain ⟨t', rfl⟩ := ry; exact PySem.EqNone.eq_none_str (fin_bl I q (by simp))
    | _ => exact absurd (show false = true from hs) Bool.false_ne_true
  | bl i =>
    cases rx
    cases y with
    | non => cases ry; exact PySem.EqNone.eq_bool_none (fin_bl I q (by simp))
    | bl j => cases ry; exact eq_bool (fin_bl I q dec_bl)
    | str j => obtain ⟨t', rfl⟩ := ry; exact PySem.EqMixed.eq_bool_str (fin_bl I q (by simp))
    | _ => exact absurd (show false = true from hs) Bool.false_ne_true
  | int i =>
    obtain ⟨t, rfl⟩ := rx
    cases y with
    | non => cases ry; exact PySem.EqNone.eq_int_none (fin_bl I q (by simp))
    | int j => obtain ⟨t', rfl⟩ := ry; exact eq_int (fin_bl I q dec_int)
    | str j => obtain ⟨t', rfl⟩ := ry; exact PySem.EqMixed.eq_int_str (fin_bl I q (by simp))
    | _ => exact absurd (show false = true from hs) Bool.false_ne_true
  | str i =>
    obtain ⟨t, rfl⟩ := rx
    cases y with
    | non => cases ry; exact PySem.EqNone.eq_str_none (fin_bl I q (by simp))
    | bl j => cases ry; exact PySem.EqMixed.eq_str_bool (fin_bl I q (by simp))
    | int j => obtain ⟨t', rfl⟩ := ry; exact PySem.EqMixed.eq_str_int (fin_bl I q (by simp))
    | str j => obtain ⟨t', rfl⟩ := ry; exact eq_str (fin_bl I q dec_str)
    | _ => exact absurd (show false = true from hs) Bool.false_ne_true
  | byt i =>
    obtain ⟨t, rfl⟩ := rx
    cases y with
    | byt j => obtain ⟨t', rfl⟩ := ry; exact PySem.W.eq_bytes (fin_bl I q dec_byt)
    | _ => exact absurd (show false = true from hs) Bool.false_ne_true
  | _ => cases y <;> exact absurd (show false = true from hs) Bool.false_ne_true
theorem op_ne : OpR X (compareOp .NotEq) rNe := by
  intro pins s σ H x y v u Q I rx ry h
  obtain ⟨hs, q⟩ := h
  cases x with
  | non =>
    cases rx
    cases y with
    | non => cases ry; exact PySem.EqNone.ne_none_none (fin_bl I q (by simp))
    | bl j => cases ry; exact PySem.EqNone.ne_none_bool (fin_bl I q (by simp))
    | int j => obtain ⟨t', rfl⟩ := ry; exact PySem.EqNone.ne_none_int (fin_bl I q (by simp))
    | str j => obtain ⟨t', rfl⟩ := ry; exact PySem.EqNone.ne_none_str (fin_bl I q (by simp))
    | _ => exact absurd (show false = true from hs) Bool.false_ne_true
  | bl i =>
    cases rx
    cases y with
    | non => cases ry; exact PySem.EqNone.ne_bool_none (fin_bl I q (by simp))
    | bl j => cases ry; exact ne_bool (fin_bl I q (congrArg not dec_bl))
    | str j => obtain ⟨t', rfl⟩ := ry; exact PySem.EqMixed.ne_bool_str (fin_bl I q (by simp))
    | _ => exact absurd (show false = true from hs) Bool.false_ne_true
  | int i =>
    obtain ⟨t, rfl⟩ := rx
    cases y with
    | non => cases ry; exact PySem.EqNone.ne_int_none (fin_bl I q (by simp))
    | int j => obtain ⟨t', rfl⟩ := ry; exact ne_int (fin_bl I q (congrArg not dec_int))
    | str j => obtain ⟨t', rfl⟩ := ry; exact PySem.EqMixed.ne_int_str (fin_bl I q (by simp))
    | _ => exact absurd (show false = true from hs) Bool.false_ne_true
  | str i =>
    obtain ⟨t, rfl⟩ := rx
    cases y with
    | non => cases ry; exact PySem.EqNone.ne_str_none (fin_bl I q (by simp))
    | bl j => cases ry; exact PySem.EqMixed.ne_str_bool (fin_bl I q (by simp))
    | int j => obtain ⟨t', rfl⟩ := ry; exact PySem.EqMixed.ne_str_int (fin_bl I q (by simp))
    | str j => obtain ⟨t', rfl⟩ := ry; exact ne_str (fin_bl I q (congrArg not dec_str))
    | _ => exact absurd (show false = true from hs) Bool.false_ne_true
  | byt i =>
    obtain ⟨t, rfl⟩ := rx
    cases y with
    | byt j => obtain ⟨t', rfl⟩ := ry; exact PySem.W.ne_bytes (fin_bl I q (congrArg not dec_byt))
    | _ => exact absurd (show false = true from hs) Bool.false_ne_true
  | _ => cases y <;> exact absurd (show false = true from hs) Bool.false_ne_true
theorem op_lt : OpR X (compareOp .Lt) (rI0 fun i j => .bl (decide (i < j))) := opB0 fun _ _ _ _ _ _ _ q => lt_int q
theorem op_le : OpR X (compareOp .LtE) (rI0 fun i j => .bl (decide (i ≤ j))) := opB0 fun _ _ _ _ _ _ _ q => le_int q
theorem op_gt : OpR X (compareOp .Gt) (rI0 fun i j => .bl (decide (j < i))) := opB0 fun _ _ _ _ _ _ _ q => gt_int q
theorem op_ge : OpR X (compareOp .GtE) (rI0 fun i j => .bl (decide (j ≤ i))) := opB0 fun _ _ _ _ _ _ _ q => ge_int q
/-- two rules for one operation: by cases -/
theorem OpR.or {f : Value → Value → Sem Value} {r r' : R2} (h : OpR X f r) (h' : OpR X f r') : OpR X f (fun x y H Q => r x y H Q ∨ r' x y H Q) := by
  intro pins s σ H x y v u Q I rx ry q
  rcases q with q | q
  · exact h pins s σ H x y v u Q I rx ry q
  · exact h' pins s σ H x y v u Q I rx ry q
theorem nomark (b : Expr) {op : CmpOp} (h : op ≠ .In := by decide) (h2 : op ≠ .NotIn := by decide) : behindInMarks op b = false := by
  have e1 : (op == CmpOp.In) = false := by cases op <;> first | rfl | exact absurd rfl h
  have e2 : (op == CmpOp.NotIn) = false := by cases op <;> first | rfl | exact absurd rfl h2
  cases b <;> simp [behindInMarks, e1, e2]
/-- a comparison as a value; hm: nomark b, or (for in, not in) by with_unfolding_all rfl -/
theorem pe_cmpR {op : CmpOp} {r : R2} (ho : OpR X (compareOp op) r) (ha : PE X a ta) (hb : PE X b tb) (hm : behindInMarks op b = false) : PE X (.Compare a [op] [b] pos) (tOp r ta tb) := by
  intro pins s σ H Q I h
  exact wpAny_Compare1 (binT ha hb I h fun v u s2 x y H2 I2 rx ry q => ho pins s2 σ H2 x y v u Q I2 rx ry q) hm
/-- a reading of a value as a test -/
def tTest (t : TE) : TT := fun σ H Q => t σ H fun x H' => ∃ k, x = .bl k ∧ Q k H'
theorem pt_cmpR {op : CmpOp} {r : R2} (ho : OpR X (compareOp op) r) (ha : PE X a ta) (hb : PE X b tb) (hm : behindInMarks op b = false) : PT X (.Compare a [op] [b] pos) (tTest (tOp r ta tb)) := by
  intro pins s σ H Q I h
  refine wpAny_isTrue_Compare1 (thn (ha pins s σ H _ I h) fun v s1 ⟨x, H1, I1, r1, q1⟩ => thn (hb pins s1 σ H1 _ I1 q1) fun u s2 ⟨y, H2, I2, r2, q2⟩ =>
    thn (ho pins s2 σ H2 x y v u _ I2 r1 r2 q2) fun c s3 ⟨z, H3, I3, r3, k, e, q3⟩ => ?_) hm
  subst e
  cases r3
  exact wpAny_truthy_bool ⟨H3, I3, q3⟩
theorem line63 : (sizeLine : Nat) < 2 ^ 63 := by rw [sizeLine_eq]; decide
/-! ### scalar builtins, by CallR -/
theorem vals1 {x : V} {us : List Value} (r : Vals [x] us) : ∃ u, us = [u] ∧ RelV x u := by
  cases r with
  | cons r1 r2 => cases r2; exact ⟨_, rfl, r1⟩
end
end L2
namespace L2
open PySem PySem.Spec PyProof.Rows
/-! ### an instance, its attributes a map -/
structure ObjM (h : Heap) (x dx C : Addr) (mA : Str → Option Value) : Prop where
  obj : h.get? x = some (PySem.W.instObj C dx)
  ns : h.Ns1 dx mA
  ne : dx ≠ x
theorem lookIn_ns {h : Heap} {dx : Addr} {mA : Str → Option Value} (n : h.Ns1 dx mA) : ∃ od, h.get? dx = some od ∧ ∀ name, PySem.W.lookIn name od = some (mA name) := by
  obtain ⟨o, es, ep, ho, hd, hk, _, hm⟩ := n
  refine ⟨o, ho, fun name => ?_⟩
  have e := hm name
  unfold nsFind findBy at e
  rw [← Array.find?_toList] at e
  unfold PySem.W.lookIn
  rw [hd]
  dsimp only
  split
  · rename_i y q
    rw [q] at e
    exact congrArg some e
  · rename_i q
    rw [q] at e
    have a : es.toList.any (·.refKey) = false := by
      rw [List.any_eq_false]
      intro y hy
      obtain ⟨z, t, hkey⟩ := hk y (Array.mem_toList_iff.mp hy)
      simp [DictEntry.refKey, hkey]
    have a' : ¬ es.toList.any (·.refKey) = true := by rw [a]; exact Bool.false_ne_true
    rw [if_neg a']
    exact congrArg some e
theorem ObjM.look {h : Heap} {x dx C : Addr} {mA : Str → Option Value} (I : ObjM h x dx C mA) : ∃ od, PySem.W.InstAt h x (PySem.W.instObj C dx) C (some od) ∧ ∀ name, PySem.W.lookIn name od = some (mA name) :=
  let ⟨od, ho, hl⟩ := lookIn_ns I.ns
  ⟨od, ⟨I.obj, rfl, rfl, ho⟩, hl⟩
section
variable {prog : Program} {w : World} {A : Around} {E : Value → Shared → Prop} {s : Shared} {K : PySem.W.Frag} {x dx C f : Addr} {mA : Str → Option Value} {name : Str} {v : Value}
theorem get_map {expr : Bool} {Q : Value → Shared → Prop} (X : K.In s.heap) (I : ObjM s.heap x dx C mA) (hg : PySem.W.plainGet K C name = true) (hh : PySem.W.hasDictIn K C = true)
    (ha : PySem.W.findIn K (.ref C) name = some none) (hv : mA name = some v) (hv' : PySem.W.handedIn v = true) (h : Q v { s with toks := s.toks + 1 }) :
    wpAny (model prog w) A (getAttr (.ref x) name expr) Q E s := by
  obtain ⟨od, J, hl⟩ := I.look
  exact PySem.W.get_value X J (PySem.W.plainGet_of hg).1 (PySem.W.findObj_own hh ha rfl (by rw [hl, hv])) hv' h
theorem set_map {ns : List Str} {Q : Unit → Shared → Prop} (X : K.In s.heap) (I : ObjM s.heap x dx C mA)
    (hs : PySem.W.findIn K (.ref C) "__setattr__" = some (some (.builtin "object.__setattr__"))) (hp : PySem.W.plainOver K C = true) (ht : PySem.W.takerIn K C name = some none) (hh : PySem.W.hasDictIn K C = true)
    (hw : PySem.Within mA ns) (hsz : ns.length ≤ sizeLine)
    (h : ∀ h', ObjM h' x dx C (fun y => if y = name then some v else mA y) → Heap.SameBut dx s.heap h' → Q () { s with heap := h', toks := s.toks + 2 }) :
    wpAny (model prog w) A (setAttr (.ref x) name v) Q E s := by
  obtain ⟨od, J, hl⟩ := I.look
  refine PySem.W.set_plain X J hs (PySem.W.osa_open (s := { s with toks := s.toks + 1 }) (r := none) X J hp ht fun b => ?_)
  obtain ⟨cd, hc, hd'⟩ := PySem.W.any_some hh
  have hx : s.heap.get? x = some ⟨.ref C, some dx, .plain, #[]⟩ := I.obj
  refine wpAny_bind (wpAny_pure (wpAny_bind (wpAny_bind (wpAny_loadPart hx (wpAny_bind (PySem.W.Looks.here (s := { s with toks := s.toks + 1 }) (PySem.W.looks_clsIn X hc) ?_))))))
  rw [hd']
  refine wpAny_pure (a := some dx) (wpAny_bind (wpAny_pure (wpAny_bind ?_)))
  refine wpAny_nsSet1 (s := { s with toks := s.toks + 1 }) I.ns fun h' hn2 hs2 => ?_
  obtain ⟨oD, esD, epD, hoD, hdD, hcD⟩ := hn2.count (PySem.Within.cons name v hw)
  refine wpAny_bind (wpAny_lookBehind hoD (by rw [hdD]; exact pastItsLine_dict (Nat.le_trans hcD (by rw [List.length_cons]; omega))) ?_)
  exact wpAny_pure (h _ ⟨(hs2.2 _ (Ne.symm I.ne)).trans I.obj, hn2, I.ne⟩ hs2)
/-- C(..): the dict at the heap's end, the instance behind it; then its __init__ -/
theorem make_map {R : Result → Shared → Prop} {vs : List Value} {kw : List (Str × Value)} (X : K.In s.heap) (hm : PySem.W.makesIn K C = true)
    (hi : PySem.W.findIn K (.ref C) "__init__" = some (some (.ref f))) (hf : PySem.W.typeIn K (.ref f) = some (.type "function"))
    (h : codeAny (model prog w) (A.under (.builtin "type.__call__" ⟨.ref C :: vs, kw⟩)) (.call (.ref f) ⟨.ref (s.heap.objs.size + 1) :: vs, kw⟩) (PySem.W.InitBack (s.heap.objs.size + 1) R)
      { s with heap := (s.heap.push PySem.W.emptyDict).push (PySem.W.instObj C s.heap.objs.size) }) :
    codeAny (model prog w) A (.call (.ref C) ⟨vs, kw⟩) R s := by
  obtain ⟨hh, g, d, t, os⟩ := s
  exact PySem.W.make_core (PySem.W.makes_of X hm) (PySem.W.looks_findIn X hi) (fun self => PySem.W.bind_fn X self hf) (.inl rfl) h
end
/-! ### the attributes as a list of pairs -/
def putF (f : Str) (v : V) : List (Str × V) → List (Str × V)
  | [] => [(f, v)]
  | (g, x) :: r => if g = f then (g, v) :: r else (g, x) :: putF f v r
theorem lookup_putF (f g : Str) (v : V) : ∀ fs : List (Str × V), (putF f v fs).lookup g = if g = f then some v else fs.lookup g
  | [] => by
    show List.lookup g [(f, v)] = _
    by_cases h : g = f
    · have hb : (g == f) = true := beq_iff_eq.mpr h
      simp only [List.lookup, hb, if_pos h]
    · have hb : (g == f) = false := beq_eq_false_iff_ne.mpr h
      simp only [List.lookup, hb, if_neg h]
  | (k, x) :: r => by
    have ih := lookup_putF f g v r
    rw [show putF f v ((k, x) :: r) = (if k = f then (k, v) :: r else (k, x) :: putF f v r) from rfl]
    by_cases hk : k = f
    · rw [if_pos hk]
      by_cases h : g = k
      · have hb : (g == k) = true := beq_iff_eq.mpr h
        simp only [List.lookup, hb, if_pos (h.trans hk)]
      · have hb : (g == k) = false := beq_eq_false_iff_ne.mpr h
        simp only [List.lookup, hb, if_neg (fun e : g = f => h (e.trans hk.symm))]
    · rw [if_neg hk]
      by_cases h : g = k
      · have hb : (g == k) = true := beq_iff_eq.mpr h
        simp only [List.lookup, hb, if_neg (fun e : g = f => hk (h.symm.trans e))]
      · have hb : (g == k) = false := beq_eq_false_iff_ne.mpr h
        simp only [List.lookup, hb]
        exact ih
theorem keys_putF (f : Str) (v : V) : ∀ fs : List (Str × V), f ∈ (putF f v fs).map (·.1) ∧ ∀ g, g ∈ fs.map (·.1) → g ∈ (putF f v fs).map (·.1)
  | [] => ⟨by simp [putF], fun g h => by simp at h⟩
  | (k, x) :: r => by
    obtain ⟨i1, i2⟩ := keys_putF f v r
    rw [show putF f v ((k, x) :: r) = (if k = f then (k, v) :: r else (k, x) :: putF f v r) from rfl]
    by_cases hk : k = f
    · rw [if_pos hk]
      subst hk
      exact ⟨by simp, fun g h => by simpa using h⟩
    · rw [if_neg hk]
      refine ⟨?_, fun g h => ?_⟩
      · rw [List.map_cons]
        exact List.mem_cons_of_mem _ i1
      · rw [List.map_cons] at h ⊢
        rcases List.mem_cons.mp h with e | e
        · exact List.mem_cons.mpr (.inl e)
        · exact List.mem_cons_of_mem _ (i2 g e)
theorem length_putF (f : Str) (v : V) : ∀ fs : List (Str × V), (putF f v fs).length ≤ fs.length + 1
  | [] => by simp [putF]
  | (k, x) :: r => by
    have ih := length_putF f v r
    rw [show putF f v ((k, x) :: r) = (if k = f then (k, v) :: r else (k, x) :: putF f v r) from rfl]
    by_cases hk : k = f
    · rw [if_pos hk, List.length_cons, List.length_cons]; omega
    · rw [if_neg hk, List.length_cons, List.length_cons]; omega
theorem RelO.some_of {v : V} {o : Option Value} (r : RelO (some v) o) : ∃ u, o = some u ∧ RelV v u := by
  cases o with
  | none => exact (show False from r).elim
  | some u => exact ⟨u, rfl, r⟩
theorem handed_of {v : V} {u : Value} (r : RelV v u) : PySem.W.handedIn u = true := by
  cases v with
  | non => cases (show u = Value.none from r); rfl
  | bl b => cases (show u = Value.bool b from r); rfl
  | int i => obtain ⟨t, e⟩ := (show ∃ t, u = Value.int i t from r); cases e; rfl
  | str x => obtain ⟨t, e⟩ := (show ∃ t, u = Value.str x t from r); cases e; rfl
  | byt b => obtain ⟨t, e⟩ := (show ∃ t, u = Value.bytes b t from r); cases e; rfl
  | flt b => obtain ⟨t, e⟩ := (show ∃ t, u = Value.float b t from r); cases e; rfl
  | ref a => cases (show u = Value.ref a from r); rfl
  | ty n => cases (show u = Value.type n from r); rfl
section
variable {P : Program} {w : World} {H H' : Hp} {h h' : Heap} {a C dx : Addr} {fs fs' : List (Str × V)}
theorem ins_get (hok : HOk P w H h) (e : H a = some (.ins C dx fs)) : ∃ mA, ObjM h a dx C mA ∧ (∀ f, RelO (fs.lookup f) (mA f)) ∧ PySem.Within mA (fs.map (·.1)) ∧ fs.length ≤ 1000 ∧ H dx = some (.own a) := by
  obtain ⟨d, z, ne, ob, mA, n, r, q⟩ := (show ObjOk P w H h a (.ins C dx fs) from hok a _ e)
  exact ⟨mA, ⟨ob, n, ne⟩, r, q, z, d⟩
end
/-! ### what of the text a class must have -/
structure Cls (K : PySem.W.Frag) (C : Addr) : Prop where
  pg : PySem.W.plainGet K C Str.empty = true
  hd : PySem.W.hasDictIn K C = true
  po : PySem.W.plainOver K C = true
  sa : PySem.W.findIn K (.ref C) "__setattr__" = some (some (.builtin "object.__setattr__"))
theorem Cls.get {K : PySem.W.Frag} {C : Addr} (c : Cls K C) (f : Str) : PySem.W.plainGet K C f = true := c.pg
/-- no class of it has the name -/
def NoAttr (K : PySem.W.Frag) (C : Addr) (f : Str) : Prop := PySem.W.findIn K (.ref C) f = some none
theorem NoAttr.taker {K : PySem.W.Frag} {C : Addr} {f : Str} (n : NoAttr K C f) : PySem.W.takerIn K C f = some none := by
  unfold PySem.W.takerIn
  rw [show PySem.W.findIn K (.ref C) f = some none from n]
  rfl
/-- a constant of the class -/
structure Con (K : PySem.W.Frag) (C : Addr) (f : Str) (v : V) (u : Value) : Prop where
  at_ : PySem.W.findIn K (.ref C) f = some (some u)
  rel : RelV v u
  get : PySem.W.specialIn K u "__get__" = some none
  cp : PySem.W.copiedNames.contains f = false
/-- a method: a plain def of the class or of one above it -/
structure Meth (K : PySem.W.Frag) (C : Addr) (m : Str) (f : Addr) : Prop where
  at_ : PySem.W.findIn K (.ref C) m = some (some (.ref f))
  fn : PySem.W.isFn K (.ref f) = true
  kp : PySem.W.keepIn K (.ref f) = true
section
variable {X : Cx} {pins : List (Addr × Obj)} {σ : St} {H : Hp} {s : Shared} {a C dx : Addr} {fs : List (Str × V)} {f : Str} {v : V} {A : Around} {E : Value → Shared → Prop}
theorem getattr_ok {b : Bool} {Q : Value → Shared → Prop} (I : Inv X pins σ H s) (e : H a = some (.ins C dx fs)) (c : Cls X.K C) (n : NoAttr X.K C f) (l : fs.lookup f = some v)
    (h : ∀ u s', Inv X pins σ H s' → RelV v u → Q u s') : wpAny (model X.prog X.w) A (getAttr (.ref a) f b) Q E s := by
  obtain ⟨mA, O, r, _, _, _⟩ := ins_get I.hok e
  obtain ⟨u, hu, ru⟩ := RelO.some_of (v := v) (o := mA f) (by rw [← l]; exact r f)
  exact get_map I.kIn O (c.get f) c.hd n hu (handed_of ru) (h u _ (I.tok _) ru)
theorem setattr_ok {y : V} {u : Value} {Q : Unit → Shared → Prop} (I : Inv X pins σ H s) (e : H a = some (.ins C dx fs)) (c : Cls X.K C) (n : NoAttr X.K C f) (hl : fs.length < 1000) (ry : RelV y u)
    (h : ∀ s', Inv X pins σ (upd H a (.ins C dx (putF f y fs))) s' → Q () s') : wpAny (model X.prog X.w) A (setAttr (.ref a) f u) Q E s := by
  obtain ⟨mA, O, r, wi, _, ho⟩ := ins_get I.hok e
  have hz : (fs.map (·.1)).length ≤ sizeLine := by rw [List.length_map, sizeLine_eq]; omega
  refine set_map I.kIn O c.sa c.po n.taker c.hd wi hz fun h' O' sb => h _ ?_
  have hd : ∃ o, h'.get? dx = some o := let ⟨o, _, _, e', _⟩ := O'.ns; ⟨o, e'⟩
  refine I.write (x := a) (e := dx) (by rw [e]; exact True.intro) (.inr ho) (fun b q hb z => (sb.2 b hb).trans z) hd ?_
  refine ⟨by rw [upd_ne O.ne]; exact ho, ?_, O.ne, O'.obj, _, O'.ns, fun g => ?_, fun g hg => ?_⟩
  · have := length_putF f y fs; omega
  · show RelO ((putF f y fs).lookup g) (if g = f then some u else mA g)
    rw [lookup_putF]
    by_cases q : g = f
    · rw [if_pos q, if_pos q]; exact ry
    · rw [if_neg q, if_neg q]; exact r g
  · by_cases q : g = f
    · rw [q]; exact (keys_putF f y fs).1
    · refine (keys_putF f y fs).2 g (wi g fun z => hg ?_)
      show (if g = f then some u else mA g) = none
      rw [if_neg q]; exact z
/-- a new instance, tracked, without attributes -/
theorem Inv.made (I : Inv X pins σ H s) : Inv X pins σ (upd (upd H s.heap.objs.size (.own (s.heap.objs.size + 1))) (s.heap.objs.size + 1) (.ins C s.heap.objs.size []))
    { s with heap := (s.heap.push PySem.W.emptyDict).push (PySem.W.instObj C s.heap.objs.size) } := by
  have e1 : (s.heap.push PySem.W.emptyDict).get? s.heap.objs.size = some PySem.W.emptyDict := Heap.get?_push_size s.heap rfl
  have e2 : ((s.heap.push PySem.W.emptyDict).push (PySem.W.instObj C s.heap.objs.size)).get? (s.heap.objs.size + 1) = some (PySem.W.instObj C s.heap.objs.size) := by
    have := Heap.get?_push_size (s.heap.push PySem.W.emptyDict) (o := PySem.W.instObj C s.heap.objs.size) rfl
    rwa [Heap.size_push] at this
  have e3 : (s.heap.push PySem.W.emptyDict).Ns s.heap.objs.size (fun _ => none) := ⟨PySem.W.emptyDict, #[], _, e1, rfl, (fun e he => absurd he (by simp)), fun _ => rfl⟩
  have I1 := I.laid (a := s.heap.objs.size) (o := .own (s.heap.objs.size + 1)) (h' := s.heap.push PySem.W.emptyDict) (t' := s.toks) (fun b u q => Heap.get?_push_of_some _ q) (Nat.le_refl _) ⟨_, e1⟩
  refine I1.laid (a := s.heap.objs.size + 1) (o := .ins C s.heap.objs.size []) (t' := s.toks) (fun b u q => Heap.get?_push_of_some _ q) (Nat.le_of_eq (Heap.size_push _ _)) ?_
  have ne : s.heap.objs.size ≠ s.heap.objs.size + 1 := Nat.ne_of_lt (Nat.lt_succ_self _)
  refine ⟨by rw [upd_ne ne, upd_same], Nat.zero_le _, ne, e2, fun _ => none, (Heap.Ns1.of_empty e3).at fun o q => Heap.get?_push_of_some _ q, fun _ => True.intro, fun y hy => absurd rfl hy⟩
/-- e.f where nothing but the object is asked: through attributeBase (super) and the last hold -/
theorem attr_of {prog : Program} {w : World} {env : Env} {e : Expr} {f : Str} {pos : Pos} {s : Shared} {Q : Value → Shared → Prop} (hb : attributeBase e f env (eval e env) = eval e env)
    (h : wpAny (model prog w) A (eval e env) (fun o s₁ => wpAny (model prog w) A (getAttr o f true) Q E s₁) E s) : wpAny (model prog w) A (eval (.Attribute e f pos) env) Q E s :=
  Attribute_any_ h (by rw [arm_eval_Attribute, hb])
end
/-! ### readings and rules -/
/-- e.f, an attribute of the instance -/
def tFld (K : PySem.W.Frag) (ta : TE) (f : Str) : TE := fun σ H Q => ta σ H fun x H1 => ∃ a C dx fs v, x = .ref a ∧ H1 a = some (.ins C dx fs) ∧ Cls K C ∧ NoAttr K C f ∧ fs.lookup f = some v ∧ Q v H1
/-- e.f = value -/
def sFld (K : PySem.W.Frag) (ta tv : TE) (f : Str) : TS := fun D σ H => tv σ H fun y H1 => ta σ H1 fun x H2 => ∃ a C dx fs, x = .ref a ∧ H2 a = some (.ins C dx fs) ∧ Cls K C ∧ NoAttr K C f ∧ fs.length < 1000 ∧
  D.nx σ (upd H2 a (.ins C dx (putF f y fs)))
section
variable {X : Cx} {o e value : Expr} {f : Str} {pos pos' tpos : Pos} {ta tv : TE}
theorem pe_fld (he : PE X e ta) (hb : attributeBase e f X.env (eval e X.env) = eval e X.env) : PE X (.Attribute e f pos) (tFld X.K ta f) := by
  intro pins s σ H Q I h
  refine attr_of hb (thn (he pins s σ H _ I h) fun u s1 ⟨x, H1, I1, rx, a, C, dx, fs, v, ex, ea, c, n, l, q⟩ => ?_)
  subst ex
  obtain rfl : u = Value.ref a := rx
  exact getattr_ok I1 ea c n l fun u' s2 I2 ru => ⟨v, H1, I2, ru, q⟩
theorem ps_fld (ha : PE X o ta) (hv : PE X value tv) (hs : swapsWith value (some (.Attribute o f pos')) pos.line X.env = pure false) : PS X (.Assign [.Attribute o f pos'] value pos) (sFld X.K ta tv f) := by
  intro pins s σ H D I h
  refine plainObj_wpAny_Assign_Attribute (thn (hv pins s σ H _ I h) fun u s1 ⟨y, H1, I1, ry, q⟩ => thn (ha pins s1 σ H1 _ I1 q) fun ov s2 ⟨x, H2, I2, rx, a, C, dx, fs, ex, ea, c, n, l, q2⟩ => ?_) hs
  subst ex
  obtain rfl : ov = Value.ref a := rx
  exact setattr_ok I2 ea c n l ry fun s3 I3 => ⟨σ, _, I3, q2⟩
end
/-! ### isinstance -/
section
variable {X : Cx} {pins : List (Addr × Obj)} {σ : St} {H : Hp} {s : Shared} {A : Around} {E : Value → Shared → Prop} {Q : Value → Shared → Prop} {c : Value} {b : Bool}
/-- the type of a value, as the fragment's deciders take it; for an instance its class -/
inductive TyOf (K : PySem.W.Frag) (H : Hp) : V → Value → Prop where
  | non : TyOf K H .non (.type "NoneType")
  | bl (x : Bool) : TyOf K H (.bl x) (.type "bool")
  | int (i : Int) : TyOf K H (.int i) (.type "int")
  | str (x : Str) : TyOf K H (.str x) (.type "str")
  | flt (x : UInt64) : TyOf K H (.flt x) (.type "float")
  | lst {a : Addr} {xs : List V} (e : H a = some (.lst xs)) : TyOf K H (.ref a) (.type "list")
  | frz {a : Addr} {o : Obj} {xs : List V} (e : H a = some (.frz o (.lst xs))) : TyOf K H (.ref a) (.type "list")
  | tup {a : Addr} {xs : List V} (e : H a = some (.tup xs)) : TyOf K H (.ref a) (.type "tuple")
  | dK {a : Addr} {kvs : List (Key × V)} (e : H a = some (.dK kvs)) : TyOf K H (.ref a) (.type "dict")
  | dT {a : Addr} {kvs : List (List Key × V)} (e : H a = some (.dT kvs)) : TyOf K H (.ref a) (.type "dict")
  | ins {a C dx : Addr} {fs : List (Str × V)} (e : H a = some (.ins C dx fs)) (cl : Cls K C) (ha : PySem.W.findIn K (.ref C) "__class__" = some (some (.builtin "object.__class__")))
      (hn : PySem.W.specialIn K (.builtin "object.__class__") "__get__" = some (some (.builtin "getset_descriptor.__get__"))) (htk : PySem.W.takesIn K (.builtin "object.__class__") = some true)
      (hm : PySem.W.mroIn K C (.type "object") = some true) : TyOf K H (.ref a) (.ref C)
end
end L2
namespace L2
open PySem PySem.Spec PyProof.Rows
/-! ### room -/
structure Room (k : Nat) (A : Around) : Prop where
  hd : A.handled = none
  dp : A.depth + 3 * k + 5 < recursionLimit
  un : A.units + 16 * k + 200 < cLine
theorem Room.mono {j k : Nat} {A : Around} (r : Room k A) (h : j ≤ k) : Room j A := ⟨r.hd, by have := r.dp; omega, by have := r.un; omega⟩
theorem Room.deeper {k : Nat} {A : Around} (r : Room (k + 1) A) (env : Env) : Room k (A.deeper env) :=
  ⟨r.hd, by have := r.dp; show A.depth + 1 + 3 * k + 5 < _; omega, by have := r.un; show A.units + 3 + 16 * k + 200 < _; omega⟩
theorem Room.in1 {k : Nat} {A : Around} (r : Room (k + 1) A) : Room k A.in1 :=
  ⟨r.hd, by have := r.dp; show A.depth + 3 * k + 5 < _; omega, by have := r.un; show A.units + 1 + 16 * k + 200 < _; omega⟩
theorem make_depth {A : Around} {C : Addr} {us : List Value} {kw : List (Str × Value)} : (A.under (.builtin "type.__call__" ⟨.ref C :: us, kw⟩)).depth = A.depth + 1 := by
  first | rfl | simp [Around.under, Code.weight, Code.isCreation, Code.isGuard, Code.isCaller, Code.frames, Code.isFrame, guardIds]
theorem make_units {A : Around} {C : Addr} {us : List Value} {kw : List (Str × Value)} : (A.under (.builtin "type.__call__" ⟨.ref C :: us, kw⟩)).units = A.units + 1 := by
  first | rfl | simp [Around.under, Code.cUnits, Code.frames, Code.isFrame]
theorem Room.make {k : Nat} {A : Around} (r : Room (k + 1) A) (C : Addr) (us : List Value) (kw : List (Str × Value)) : Room k (A.under (.builtin "type.__call__" ⟨.ref C :: us, kw⟩)) :=
  ⟨r.hd, by have := r.dp; rw [make_depth]; omega, by have := r.un; rw [make_units]; omega⟩
theorem Room.depth {k : Nat} {A : Around} (r : Room k A) : A.depth < recursionLimit := by have := r.dp; omega
theorem Room.units {k : Nat} {A : Around} (r : Room k A) : A.units + 64 < cLine := by have := r.un; omega
/-! ### argument lists and displays -/
def tNil : TA := fun _ H Q => Q [] H
def tCons (ta : TE) (tr : TA) : TA := fun σ H Q => ta σ H fun x H1 => tr σ H1 fun xs H2 => Q (x :: xs) H2
section
variable {X : Cx} {e : Expr} {es : List Expr} {te : TE} {t : TA} {pos : Pos}
theorem pa_nil : PA X [] tNil := fun _ _ _ _ H Q I h => Calls.spliced_nil ⟨[], H, I, .nil, h⟩
theorem pa_cons (ha : PE X e te) (hr : PA X es t) (hs : starEach (e :: es) X.env = (false, eval e X.env) :: starEach es X.env := by rfl) : PA X (e :: es) (tCons te t) := by
  intro pos pins s σ H Q I h
  rw [hs]
  show wpAny _ _ (spliced ((false, eval e X.env) :: backTo pos (starEach es X.env))) _ _ s
  refine Calls.spliced_cons (thn (ha pins s σ H _ I h) fun u s1 ⟨x, H1, I1, r1, q1⟩ => ?_)
  exact thn (hr pos pins s1 σ H1 _ I1 q1) fun us s2 ⟨xs, H2, I2, r2, q2⟩ => ⟨x :: xs, H2, I2, .cons r1 r2, q2⟩
/-- a tuple, a list of written items -/
def tTup (t : TA) : TE := fun σ H Q => t σ H fun xs H1 => xs.length ≤ sizeLine ∧ ∀ p, H1 p = none → Q (.ref p) (upd H1 p (.tup xs))
def tLst (t : TA) : TE := fun σ H Q => t σ H fun xs H1 => xs.length ≤ sizeLine ∧ ∀ p, H1 p = none → Q (.ref p) (upd H1 p (.lst xs))
theorem pe_tup {x1} (h : PA X es t) : PE X (.Tuple es x1 pos) (tTup t) := by
  intro pins s σ H Q I hq
  refine wpAny_Tuple_spliced (thn (h pos pins s σ H _ I hq) fun us s1 ⟨xs, H1, I1, r, z, q⟩ => ⟨by rw [← r.length]; exact z, ?_⟩)
  have hf : H1 s1.heap.objs.size = none := I1.hok.fresh (Nat.le_refl _)
  refine ⟨.ref s1.heap.objs.size, upd H1 s1.heap.objs.size (.tup xs), I1.laid (t' := s1.toks) (fun b u e => Heap.get?_push_of_some _ e) (Nat.le_refl _) ?_, rfl, q _ hf⟩
  exact ⟨z, us, r, ⟨_, Heap.get?_push_size _ rfl, rfl, _, rfl⟩⟩
theorem pe_lst (h : PA X es t) : PE X (.List es pos) (tLst t) := by
  intro pins s σ H Q I hq
  refine wpAny_List_spliced (thn (h pos pins s σ H _ I hq) fun us s1 ⟨xs, H1, I1, r, z, q⟩ => ⟨by rw [← r.length]; exact z, ?_⟩)
  have hf : H1 s1.heap.objs.size = none := I1.hok.fresh (Nat.le_refl _)
  refine ⟨.ref s1.heap.objs.size, upd H1 s1.heap.objs.size (.lst xs), I1.laid (t' := s1.toks) (fun b u e => Heap.get?_push_of_some _ e) (Nat.le_refl _) ?_, rfl, q _ hf⟩
  exact ⟨z, us, 0, r, Heap.get?_push_size _ rfl⟩
end
/-! ### what a def promises -/
/-- a def's promise: the bound arguments in the parameters' order, the heap, the wanted end, the wanted exception -/
abbrev Sp := List V → Hp → VK → XK → Prop
/-- how an exception lies behind a call (file 08 gives it): the callers' frames, abstract heap and state ahead of the call, the wish, the exception, the state -/
abbrev CXT := List Env → Hp → Shared → XK → Value → Shared → Prop
/-- the state at a call -/
structure Env0 (P : Program) (w : World) (K : PySem.W.Frag) (mg : Str → Option Value) (base : Heap) (A : Around) (outer : List Env) (s : Shared) (H : Hp) : Prop where
  frames : A.frames = some outer
  mod : Mod K mg base
  bs : ∀ b o, base.get? b = some o → s.heap.get? b = some o ∧ H b = none
  bsz : base.objs.size ≤ s.heap.objs.size
  funs : s.heap.FunFrames base outer
  frf : ∀ b ∈ frs outer, H b = none
  hok : HOk P w H s.heap
  bare : AllBare s.gens
/-- a call's end -/
def CE (outer : List Env) (P : Program) (w : World) (H : Hp) (s : Shared) (Q : VK) (u : Value) (s' : Shared) : Prop :=
  ∃ v H', s'.os = s.os ∧ AllBare s'.gens ∧ Un (frs outer) [] H H' s.heap s'.heap ∧ HOk P w H' s'.heap ∧ RelV v u ∧ Q v H'
def CR (CX : CXT) (outer : List Env) (P : Program) (w : World) (H : Hp) (s : Shared) (Q : VK) (E : XK) (r : Result) (s' : Shared) : Prop :=
  match r with
  | .ok (.ret u) => CE outer P w H s Q u s'
  | .ok _ => False
  | .error e => CX outer H s E e s'
structure FnOk (P : Program) (w : World) (K : PySem.W.Frag) (mg : Str → Option Value) (base : Heap) (CX : CXT) (k : Nat) (f : Addr) (fd : FuncData) (ps : List Str) (sp : Sp) : Prop where
  len : ∀ vs H Q E, sp vs H Q E → vs.length = ps.length
  run : ∀ (A : Around) (outer : List Env) (s : Shared) (H : Hp) (args : Args) (us : List Value) (vs : List V) (Q : VK) (E : XK), Room k A → Env0 P w K mg base A outer s H → BindsTo s fd args (ps.zip us) → Vals vs us → sp vs H Q E →
    codeAny (model P w) A (.call (.ref f) args) (CR CX outer P w H s Q E) s
theorem FnOk.mono {P : Program} {w : World} {K : PySem.W.Frag} {mg : Str → Option Value} {base : Heap} {CX : CXT} {j k : Nat} {f : Addr} {fd : FuncData} {ps : List Str} {sp : Sp} (F : FnOk P w K mg base CX j f fd ps sp) (h : j ≤ k) :
    FnOk P w K mg base CX k f fd ps sp := ⟨F.len, fun A outer s H args us vs Q E hr => F.run A outer s H args us vs Q E (hr.mono h)⟩
/-- a weaker promise -/
theorem FnOk.imp {P : Program} {w : World} {K : PySem.W.Frag} {mg : Str → Option Value} {base : Heap} {CX : CXT} {k : Nat} {f : Addr} {fd : FuncData} {ps : List Str} {sp sp' : Sp} (F : FnOk P w K mg base CX k f fd ps sp)
    (h : ∀ vs H Q E, sp' vs H Q E → sp vs H Q E) : FnOk P w K mg base CX k f fd ps sp' :=
  ⟨fun vs H Q E q => F.len vs H Q E (h _ _ _ _ q), fun A outer s H args us vs Q E hr he hb hv hs => F.run A outer s H args us vs Q E hr he hb hv (h _ _ _ _ hs)⟩
theorem Env0.make {P : Program} {w : World} {K : PySem.W.Frag} {mg : Str → Option Value} {base : Heap} {A : Around} {outer : List Env} {s : Shared} {H : Hp} (e : Env0 P w K mg base A outer s H) (C : Addr) (us : List Value) (kw : List (Str × Value)) :
    Env0 P w K mg base (A.under (.builtin "type.__call__" ⟨.ref C :: us, kw⟩)) outer s H := ⟨by first | exact e.frames | (simpa [Around.under, Code.envs, Code.isFrame, pushEnvs] using e.frames), e.mod, e.bs, e.bsz, e.funs, e.frf, e.hok, e.bare⟩
theorem Env0.in1 {P : Program} {w : World} {K : PySem.W.Frag} {mg : Str → Option Value} {base : Heap} {A : Around} {outer : List Env} {s : Shared} {H : Hp} (e : Env0 P w K mg base A outer s H) :
    Env0 P w K mg base A.in1 outer s H := ⟨e.frames, e.mod, e.bs, e.bsz, e.funs, e.frf, e.hok, e.bare⟩
section
variable {X : Cx} {pins : List (Addr × Obj)} {σ : St} {H : Hp} {s s' : Shared}
/-- from a body: what a callee wants -/
theorem Inv.env0 (I : Inv X pins σ H s) : Env0 X.prog X.w X.K X.mg X.base X.A X.stack s H :=
  ⟨I.ok.frames, I.ok.mod, I.bs, Nat.le_trans I.ok.bsz I.sz, I.stack, I.stkFree, I.hok, I.bare⟩
/-- behind a call -/
theorem Inv.after {Q : VK} {u : Value} (I : Inv X pins σ H s) (h : CE X.stack X.prog X.w H s Q u s') : EP X pins σ Q u s' := by
  obtain ⟨v, H', os, bare, un, hok, r, q⟩ := h
  obtain ⟨hh, g, d, t, os'⟩ := s'
  obtain rfl : os' = s.os := os
  exact ⟨v, H', I.call (h' := hh) (g' := g) (d' := d) (t' := t) (ch := []) un hok bare (fun b z => absurd z (by simp)), r, q⟩
end
/-! ### calls -/
/-- f(..): the written arguments, then the defaults dvs; E: what is wanted of an exception -/
def tCall (sp : Sp) (dvs : List V) (E : XK) (t : TA) : TE := fun σ H Q => t σ H fun vs H1 => sp (vs ++ dvs) H1 Q E
/-- C(..): a new instance and its dict, then __init__ -/
def tMake (C : Addr) (sp : Sp) (dvs : List V) (E : XK) (t : TA) : TE := fun σ H Q => t σ H fun vs H1 => ∀ x dx, H1 x = none → H1 dx = none → dx ≠ x →
  sp (.ref x :: (vs ++ dvs)) (upd (upd H1 dx (.own x)) x (.ins C dx [])) (fun v H2 => v = .non ∧ Q (.ref x) H2) E
/-- how the parameters are bound: us the positional arguments, kw the keywords' values by name, ds the defaults that fill up -/
def Binds (K : PySem.W.Frag) (fd : FuncData) (ps : List Str) (ds : List Value) : Prop :=
  ∀ (s : Shared) (us : List Value), K.In s.heap → (us ++ ds).length = ps.length → BindsTo s fd ⟨us, []⟩ (ps.zip (us ++ ds))
/-- every parameter is given -/
theorem Binds.all {K : PySem.W.Frag} {fd : FuncData} {ps : List Str} (h : ∀ us : List Value, us.length = ps.length → bindArgs fd ⟨us, []⟩ = pure (ps.zip us)) : Binds K fd ps [] := fun s us _ hl => by
  rw [List.append_nil] at hl ⊢
  exact .of_eq (h us hl)
/-- an exception of a callee reaches what this body wants of exceptions -/
def Passes (CX : CXT) (X : Cx) (E : XK) : Prop := ∀ (pins : List (Addr × Obj)) (σ : St) (H : Hp) (s : Shared) (e : Value) (s' : Shared), Inv X pins σ H s → CX X.stack H s E e s' → X.xe e s'
section
variable {X : Cx} {CX : CXT} {k : Nat} {f C : Addr} {fd : FuncData} {ps : List Str} {sp : Sp} {dvs : List V} {ds : List Value} {E : XK} {x m : Str} {p pos apos : Pos} {e o : Expr} {es : List Expr} {ta : TE} {t : TA}
/-- the callee runs -/
theorem run_fn {pins : List (Addr × Obj)} {σ : St} {H : Hp} {s : Shared} {Q : VK} {us : List Value} {vs : List V} (F : FnOk X.prog X.w X.K X.mg X.base CX k f fd ps sp) (hr : Room k X.A) (hb : Binds X.K fd ps ds) (hd : Vals dvs ds) (hx : Passes CX X E)
    (I : Inv X pins σ H s) (r : Vals vs us) (h : sp (vs ++ dvs) H Q E) : wpAny (model X.prog X.w) X.A (call (.ref f) us) (EP X pins σ Q) X.xe s := by
  have r2 : Vals (vs ++ dvs) (us ++ ds) := r.append hd
  have hl : (us ++ ds).length = ps.length := by rw [← r2.length]; exact F.len _ _ _ _ h
  refine wpAny_call (codeAny_mono (F.run X.A X.stack s H ⟨us, []⟩ (us ++ ds) (vs ++ dvs) Q E hr I.env0 (hb s us I.kIn hl) r2 h) fun r s' hq => ?_)
  cases r with
  | error e => exact hx pins σ H s e s' I hq
  | ok fl =>
    cases fl with
    | ret u => exact I.after hq
    | next => exact False.elim hq
    | brk => exact False.elim hq
    | cont => exact False.elim hq
theorem pe_call (F : FnOk X.prog X.w X.K X.mg X.base CX k f fd ps sp) (hr : Room k X.A) (hg : Gl X x) (hm : X.mg x = some (.ref f)) (hk : PySem.W.keepIn X.K (.ref f) = true) (hb : Binds X.K fd ps ds) (hd : Vals dvs ds) (hx : Passes CX X E)
    (ha : PA X (e :: es) t) (hdb : (x == ("__debug__" : Str)) = false := by decide) (he : starEach (e :: es) X.env = (false, eval e X.env) :: starEach es X.env := by rfl) (hpl : (backTo pos (starEach es X.env)).any (·.1) = false := by rfl) :
    PE X (.Call (.Name x p) (e :: es) [] pos) (tCall sp dvs E t) := by
  intro pins s σ H Q I h
  refine wpAny_Call_Name_kw (ld_glob I hg hm ?_ hdb)
  refine PySem.W.callWith_K (h₀ := X.base) I.ok.mod.kin hk (thn (ha pos pins s σ H _ I h) fun us s1 ⟨vs, H1, I1, r, q⟩ => ⟨I1.kIn, ?_⟩) he hpl
  exact run_fn F hr hb hd hx I1 r q
/-- what a class must have to be made -/
structure Mk (K : PySem.W.Frag) (C f : Addr) : Prop where
  makes : PySem.W.makesIn K C = true
  init : PySem.W.findIn K (.ref C) "__init__" = some (some (.ref f))
  fn : PySem.W.isFn K (.ref f) = true
  kp : PySem.W.keepIn K (.ref C) = true
theorem run_make {pins : List (Addr × Obj)} {σ : St} {H : Hp} {s : Shared} {Q : VK} {us : List Value} {vs : List V} (M : Mk X.K C f) (F : FnOk X.prog X.w X.K X.mg X.base CX k f fd ps sp) (hr : Room (k + 1) X.A) (hb : Binds X.K fd ps ds) (hd : Vals dvs ds)
    (hx : Passes CX X E) (I : Inv X pins σ H s) (r : Vals vs us)
    (h : ∀ x dx, H x = none → H dx = none → dx ≠ x → sp (.ref x :: (vs ++ dvs)) (upd (upd H dx (.own x)) x (.ins C dx [])) (fun v H2 => v = .non ∧ Q (.ref x) H2) E) :
    wpAny (model X.prog X.w) X.A (call (.ref C) us) (EP X pins σ Q) X.xe s := by
  have hq := h (s.heap.objs.size + 1) s.heap.objs.size (I.hok.fresh (Nat.le_succ _)) (I.hok.fresh (Nat.le_refl _)) (Nat.ne_of_lt (Nat.lt_succ_self _))
  have I2 := Inv.made (C := C) I
  have r2 : Vals (V.ref (s.heap.objs.size + 1) :: (vs ++ dvs)) (Value.ref (s.heap.objs.size + 1) :: (us ++ ds)) := .cons rfl (r.append hd)
  have hl : (Value.ref (s.heap.objs.size + 1) :: us ++ ds).length = ps.length := by
    have e := r2.length
    rw [F.len _ _ _ _ hq] at e
    exact e.symm
  refine wpAny_call (make_map (f := f) I.kIn M.makes M.init (beq_iff_eq.mp M.fn) (codeAny_mono (F.run _ X.stack _ _ ⟨Value.ref (s.heap.objs.size + 1) :: us, []⟩ (Value.ref (s.heap.objs.size + 1) :: (us ++ ds)) _ _ E (hr.make C us [])
    (I2.env0.make C us []) (hb _ (Value.ref (s.heap.objs.size + 1) :: us) I2.kIn hl) r2 hq) fun r s' hq' => ?_))
  cases r with
  | error e => exact hx pins σ _ _ e s' I2 hq'
  | ok fl =>
    cases fl with
    | ret u =>
      obtain ⟨v, H', I3, rv, ev, q3⟩ := I2.after hq'
      subst ev
      exact ⟨rv, ⟨V.ref (s.heap.objs.size + 1), H', I3, rfl, q3⟩⟩
    | next => exact False.elim hq'
    | brk => exact False.elim hq'
    | cont => exact False.elim hq'
theorem pe_make (M : Mk X.K C f) (F : FnOk X.prog X.w X.K X.mg X.base CX k f fd ps sp) (hr : Room (k + 1) X.A) (hg : Gl X x) (hm : X.mg x = some (.ref C)) (hb : Binds X.K fd ps ds) (hd : Vals dvs ds) (hx : Passes CX X E)
    (ha : PA X (e :: es) t) (hdb : (x == ("__debug__" : Str)) = false := by decide) (he : starEach (e :: es) X.env = (false, eval e X.env) :: starEach es X.env := by rfl) (hpl : (backTo pos (starEach es X.env)).any (·.1) = false := by rfl) :
    PE X (.Call (.Name x p) (e :: es) [] pos) (tMake C sp dvs E t) := by
  intro pins s σ H Q I h
  refine wpAny_Call_Name_kw (ld_glob I hg hm ?_ hdb)
  refine PySem.W.callWith_K (h₀ := X.base) I.ok.mod.kin M.kp (thn (ha pos pins s σ H _ I h) fun us s1 ⟨vs, H1, I1, r, q⟩ => ⟨I1.kIn, ?_⟩) he hpl
  exact run_make M F hr hb hd hx I1 r q
end
section
variable {X : Cx} {CX : CXT} {k : Nat} {f C : Addr} {fd : FuncData} {ps ks : List Str} {sp : Sp} {E : XK} {x m : Str} {p pos apos kpos : Pos} {e o : Expr} {es : List Expr} {kws : List Keyword} {te ta : TE} {t tk : TA} {nm : Option Str}
/-- how a call with keywords binds: g puts the positional values us and the keywords' values ws (names ks) in the parameters' order, defaults among them -/
structure KBinds (K : PySem.W.Frag) (fd : FuncData) (ps ks : List Str) (g : List Value → List Value → List Value) (gV : List V → List V → List V) : Prop where
  to : ∀ (s : Shared) (us ws : List Value), K.In s.heap → (g us ws).length = ps.length → BindsTo s fd ⟨us, ks.zip ws⟩ (ps.zip (g us ws))
  rel : ∀ {vs : List V} {us : List Value} {zs : List V} {ws : List Value}, Vals vs us → Vals zs ws → Vals (gV vs zs) (g us ws)
variable {g : List Value → List Value → List Value} {gV : List V → List V → List V}
end
/-! ### a def's body keeps its promise -/
/-- names: the parameters first -/
structure FnScope (N P : List Str) (sc : Scope) : Prop where
  kind : sc.kind = .function
  co : sc.isCoroutine = false
  gen : sc.isGenerator = false
  nd : N.Nodup
  pre : N.take P.length = P
  par : ∀ x ∈ P, sc.names.lookup x = some .local ∨ sc.names.lookup x = some .cell
  nofree : ∀ y ∈ sc.names, y.2 ≠ .free
theorem bindL_out {kindOf : Str → Option NameKind} {x : Str} : ∀ {binds : List (Str × Value)} {m : Str → Option Value}, (∀ v, (x, v) ∉ binds) → bindL kindOf binds m x = m x
  | [], _, _ => rfl
  | (n, v) :: r, m, h => by
    unfold bindL
    rw [bindL_out fun w hw => h w (List.mem_cons_of_mem _ hw)]
    split
    · have : x ≠ n := by rintro rfl; exact h v List.mem_cons_self
      simp [this]
    · rfl
theorem bindC_out {kindOf : Str → Option NameKind} {x : Str} : ∀ {binds : List (Str × Value)} {m : Str → Option Value}, (∀ v, (x, v) ∉ binds) → bindC kindOf binds m x = m x
  | [], _, _ => rfl
  | (n, v) :: r, m, h => by
    unfold bindC
    rw [bindC_out fun w hw => h w (List.mem_cons_of_mem _ hw)]
    split
    · rfl
    · have : x ≠ n := by rintro rfl; exact h v List.mem_cons_self
      simp [this]
theorem bindL_get {kindOf : Str → Option NameKind} {x : Str} {v : Value} : ∀ {P : List Str} {vs : List Value} {i : Nat} {m : Str → Option Value}, P.Nodup → P[i]? = some x → vs[i]? = some v → kindOf x = some .local →
    bindL kindOf (P.zip vs) m x = some v
  | [], _, _, _, _, h, _, _ => by simp at h
  | _ :: _, [], _, _, _, _, h, _ => by simp at h
  | p :: P, w :: vs, 0, m, nd, h1, h2, hk => by
    simp at h1 h2; subst h1; subst h2
    show bindL kindOf ((p, w) :: P.zip vs) m p = _
    unfold bindL
    rw [bindL_out fun v hv => (List.nodup_cons.mp nd).1 (List.of_mem_zip hv).1, if_pos hk]
    simp
  | p :: P, w :: vs, i + 1, m, nd, h1, h2, hk => by
    show bindL kindOf ((p, w) :: P.zip vs) m x = _
    unfold bindL
    exact bindL_get (i := i) (List.nodup_cons.mp nd).2 (by simpa using h1) (by simpa using h2) hk
theorem bindC_get {kindOf : Str → Option NameKind} {x : Str} {v : Value} : ∀ {P : List Str} {vs : List Value} {i : Nat} {m : Str → Option Value}, P.Nodup → P[i]? = some x → vs[i]? = some v → kindOf x ≠ some .local →
    bindC kindOf (P.zip vs) m x = some v
  | [], _, _, _, _, h, _, _ => by simp at h
  | _ :: _, [], _, _, _, _, h, _ => by simp at h
  | p :: P, w :: vs, 0, m, nd, h1, h2, hk => by
    simp at h1 h2; subst h1; subst h2
    show bindC kindOf ((p, w) :: P.zip vs) m p = _
    unfold bindC
    rw [bindC_out fun v hv => (List.nodup_cons.mp nd).1 (List.of_mem_zip hv).1, if_neg hk]
    simp
  | p :: P, w :: vs, i + 1, m, nd, h1, h2, hk => by
    show bindC kindOf ((p, w) :: P.zip vs) m x = _
    unfold bindC
    exact bindC_get (i := i) (List.nodup_cons.mp nd).2 (by simpa using h1) (by simpa using h2) hk
/-- the names' values at the entry -/
def start (N : List Str) (vs : List V) : St := vs.map some ++ List.replicate (N.length - vs.length) none
/-- the context of a def's body, at its entry; an exception leaves the frame, then lies as CX says -/
def cxOf (CX : CXT) (P : Program) (w : World) (K : PySem.W.Frag) (mg : Str → Option Value) (base : Heap) (N : List Str) (qual : Str) (scope : Scope) (f : Addr) (cd : Value) (A : Around) (outer : List Env) (s : Shared) (H : Hp) (E : XK) : Cx where
  prog := P
  w := w
  K := K
  mg := mg
  base := base
  A := A.deeper (envOfC qual scope s.heap.objs.size f cd)
  N := N
  s₀ := s
  H₀ := H
  env := envOfC qual scope s.heap.objs.size f cd
  outer := outer
  stack := envOfC qual scope s.heap.objs.size f cd :: outer
  ex := []
  calm := true
  fn := fun _ => true
  pn := []
  xe := fun e s' => wpAny (model P w) (A.deeper (envOfC qual scope s.heap.objs.size f cd)) (leaving (envOfC qual scope s.heap.objs.size f cd) e) (fun _ s'' => CX outer H s E e s'') (fun e' s'' => CX outer H s E e' s'') s'
theorem cell_has {sc : Scope} {n : Nat} {x : Str} (h : sc.names.lookup x = some .cell) : ∃ c, (cellsFrom n sc.names []).lookup x = some c := by
  have q := PySem.W.cellsFrom_some sc.names n [] (.inl h)
  exact Option.isSome_iff_exists.mp q
theorem inv_start {CX : CXT} {P : Program} {w : World} {K : PySem.W.Frag} {mg : Str → Option Value} {base : Heap} {N ps : List Str} {qual : Str} {scope : Scope} {f : Addr} {cd : Value} {A : Around} {outer : List Env} {s s1 : Shared} {H : Hp} {E : XK} {us : List Value} {vs : List V}
    (S : FnScope N ps scope) (hd : A.handled = none) (e0 : Env0 P w K mg base A outer s H) (hl : vs.length = ps.length) (r : Vals vs us)
    (x : InCallC s s.heap.objs.size (bindL (envOfC qual scope s.heap.objs.size f cd).kindOf (ps.zip us) fun _ => none) (cellsFrom (s.heap.objs.size + 1) scope.names []) (bindC (envOfC qual scope s.heap.objs.size f cd).kindOf (ps.zip us) fun _ => none) s1) :
    Inv (cxOf CX P w K mg base N qual scope f cd A outer s H E) [] (start N vs) H s1 := by
  have hpl : ps.length ≤ N.length := by have := congrArg List.length S.pre; rw [List.length_take] at this; omega
  obtain ⟨h1, tk, rfl, hk⟩ := x.done
  have noA : ∀ b : Addr, b ∉ (cxOf CX P w K mg base N qual scope f cd A outer s H E).ex := fun b z => absurd (show b ∈ ([] : List Addr) from z) (by simp)
  refine ⟨⟨e0.mod, S.kind, rfl, rfl, Nat.le_refl _, fun y z c h1 h2 => ?_, fun y hy => ?_, fun y c _ h => ?_, fun _ => hd, Around.frames_deeper e0.frames, .inr ⟨rfl, rfl⟩, fun b z => absurd z (noA b), e0.bs, e0.bsz, fun b _ _ => noA b, fun b z => absurd z (noA b), e0.funs, e0.frf⟩,
    rfl, e0.bare, Un.kept hk, ⟨_, x.toInCall.ns, fun i y v h1 h2 h3 => ?_⟩, fun y c h => ⟨_, x.cell y c h⟩, e0.hok.fresh (Nat.le_refl _), fun y c h => ?_, fun p hp => absurd (show p ∈ ([] : List (Addr × Obj)) from hp) (by simp), e0.hok.kept hk, ?_⟩
  · exact name_of_addr x.apart (PySem.mem_of_lookup h1) (PySem.mem_of_lookup h2)
  · have hy : scope.names.lookup y = some .cell ∨ scope.names.lookup y = some .free := hy
    rcases hy with hy | hy
    · exact cell_has hy
    · exact absurd rfl (S.nofree _ (PySem.mem_of_lookup hy))
  · exact Nat.le_of_lt (x.above y c (PySem.mem_of_lookup h))
  · have hi : i < vs.length := by
      unfold start at h2
      by_cases hi : i < vs.length
      · exact hi
      · rw [List.getElem?_append_right (by simpa using hi)] at h2
        rw [List.getElem?_replicate] at h2
        split at h2 <;> cases h2
    have ha : vs[i]? = some v := by
      unfold start at h2
      rw [List.getElem?_append_left (by simpa using hi), List.getElem?_map] at h2
      cases e : vs[i]? with
      | none => rw [e] at h2; cases h2
      | some a => rw [e] at h2; cases h2; rfl
    obtain ⟨u, hu, rv⟩ := r.get ha
    have hp : ps[i]? = some y := by
      rw [← S.pre, List.getElem?_take_of_lt (by omega)]; exact h1
    have ndP : ps.Nodup := by rw [← S.pre]; exact S.nd.sublist (List.take_sublist _ _)
    refine ⟨u, rv, ?_⟩
    rcases S.par y (List.mem_of_getElem? hp) with k | k
    · exact .inl ⟨k, bindL_get ndP hp hu k⟩
    · obtain ⟨c, e⟩ := cell_has (n := s.heap.objs.size + 1) k
      refine .inr ⟨.inl k, c, e, ?_⟩
      have q := x.cell y c e
      rw [bindC_get ndP hp hu (by show scope.names.lookup y ≠ _; rw [k]; decide)] at q
      exact q
  · exact e0.hok.fresh (Nat.le_of_lt (x.above y c (PySem.mem_of_lookup h)))
  · unfold start
    show _ = N.length
    rw [List.length_append, List.length_map, List.length_replicate]
    omega
/-- THE RULE: a def (or a method) of the text, by its body. The body's reading t is chosen for each entry; it is run at the parameters' values -/
theorem fn_of {CX : CXT} {P : Program} {w : World} {K : PySem.W.Frag} {mg : Str → Option Value} {base : Heap} {k : Nat} {f : Addr} {name qual : Str} {params : Arguments} {body : List Stmt} {scope : Scope} {dV kV doc pm cdv ct oc : Value} {an od : Option Addr}
    {osl : Array (Option Value)} {N ps : List Str} {sp : Sp} (lk : K.lookup f = some ⟨oc, od, .func (PySem.W.fnOf name qual params body scope dV kV doc pm an cdv ct), osl⟩) (hcd : PySem.W.codeIn K cdv qual = true) (S : FnScope N ps scope)
    (len : ∀ vs H Q E, sp vs H Q E → vs.length = ps.length)
    (hbody : ∀ (A : Around) (outer : List Env) (s : Shared) (H : Hp) (vs : List V) (Q : VK) (E : XK), Room k (A.deeper (envOfC qual scope s.heap.objs.size f cdv)) → sp vs H Q E →
      ∃ t, PSs (cxOf CX P w K mg base N qual scope f cdv A outer s H E) body t ∧ t { nx := fun _ H' => Q .non H', rt := Q } (start N vs) H) :
    FnOk P w K mg base CX (k + 1) f (PySem.W.fnOf name qual params body scope dV kV doc pm an cdv ct) ps sp := by
  refine ⟨len, fun A outer s H args us vs Q E hr e0 hb r hsp => ?_⟩
  have hl := len _ _ _ _ hsp
  have KX : K.In s.heap := e0.mod.kin.keeps fun b o e => (e0.bs b o e).1
  have lim : s.heap.NoLimit := e0.mod.nolimit.keeps fun b o e => (e0.bs b o e).1
  have hkind : ∀ y ∈ ps.zip us, scope.names.lookup y.1 = some .local ∨ (scope.names.lookup y.1 = some .cell ∧ ((cellsFrom (s.heap.objs.size + 1) scope.names []).lookup y.1).isSome = true) := fun ⟨n, v⟩ hy => by
    rcases S.par n (List.of_mem_zip hy).1 with q | q
    · exact .inl q
    · exact .inr ⟨q, PySem.W.cellsFrom_some _ _ _ (.inl q)⟩
  refine codeAny_call_function hr.depth (KX _ _ lk) rfl S.co S.gen rfl (PySem.W.codeRec_of KX hcd) (hb _ _ _ _ ?_)
  refine wpAny_newFunctionEnv_cells S.kind hkind fun env he s1 x => ?_
  subst he
  refine ⟨lim.keeps x.toInCall.keep, codeAny_func ?_⟩
  obtain ⟨t, ht, hq⟩ := hbody A outer s H vs Q E (hr.deeper _) hsp
  have I : Inv (cxOf CX P w K mg base N qual scope f cdv A outer s H E) [] (start N vs) H s1 := inv_start S hr.hd e0 hl r x
  refine wpAny_mono (ht [] s1 (start N vs) H _ I hq) (fun fl s' hs => ?_) fun e s' hs => hs
  have fin : ∀ {σ' : St} {H' : Hp} {v : V} {u : Value}, Inv (cxOf CX P w K mg base N qual scope f cdv A outer s H E) [] σ' H' s' → RelV v u → Q v H' → CE outer P w H s Q u s' :=
    fun {σ' H' v u} J rv q => ⟨v, H', J.os, J.bare, J.base, J.hok, rv, q⟩
  cases fl with
  | ret u =>
    obtain ⟨v, σ', H', J, rv, q⟩ := hs
    exact fin J rv q
  | next =>
    obtain ⟨σ', H', J, q⟩ := hs
    exact fin (v := V.non) (u := Value.none) J rfl q
  | brk =>
    obtain ⟨_, _, _, q⟩ := hs
    exact False.elim q
  | cont =>
    obtain ⟨_, _, _, q⟩ := hs
    exact False.elim q
end L2
namespace L2
open PySem PySem.Spec PyProof.Rows
section
variable {X : Cx} {x : Str} {p pos : Pos} {e : Expr} {es : List Expr} {t : TA} {id T : String} {r : List V → Hp → VK → Prop}
def tCB (r : List V → Hp → VK → Prop) (t : TA) : TE := fun σ H Q => t σ H fun vs H1 => r vs H1 Q
/-- f(e, ..), f a built-in function -/
theorem pe_callB (hc : CallR X (.builtin id) r) (hg : Gl X x) (hm : X.mg x = none) (hv : bootBuiltins x = some (.builtin id)) (ha : PA X (e :: es) t) (hn : x ≠ "__name__" := by decide) (hdb : (x == ("__debug__" : Str)) = false := by decide)
    (he : starEach (e :: es) X.env = (false, eval e X.env) :: starEach es X.env := by rfl) (hpl : (backTo pos (starEach es X.env)).any (·.1) = false := by rfl) : PE X (.Call (.Name x p) (e :: es) [] pos) (tCB r t) := by
  intro pins s σ H Q I h
  refine wpAny_Call_Name_kw (ld_blt I hg hm hv ?_ hn hdb)
  exact PyProof.Rows.callWith_builtin1 (thn (ha pos pins s σ H _ I h) fun us s1 ⟨vs, H1, I1, r1, q1⟩ => hc pins s1 σ H1 vs us Q I1 r1 q1) he hpl
/-- T(e, ..), T a built-in type -/
theorem pe_callTy (hc : CallR X (.type T) r) (hg : Gl X x) (hm : X.mg x = none) (hv : bootBuiltins x = some (.type T)) (ha : PA X (e :: es) t) (hn : x ≠ "__name__" := by decide) (hdb : (x == ("__debug__" : Str)) = false := by decide)
    (he : starEach (e :: es) X.env = (false, eval e X.env) :: starEach es X.env := by rfl) (hpl : (backTo pos (starEach es X.env)).any (·.1) = false := by rfl) : PE X (.Call (.Name x p) (e :: es) [] pos) (tCB r t) := by
  intro pins s σ H Q I h
  refine wpAny_Call_Name_kw (ld_blt I hg hm hv ?_ hn hdb)
  exact PyProof.Rows.callWith_type1 (thn (ha pos pins s σ H _ I h) fun us s1 ⟨vs, H1, I1, r1, q1⟩ => hc pins s1 σ H1 vs us Q I1 r1 q1) he hpl
end
end L2
namespace L2
open PySem PySem.Spec PyProof.Rows
/-! ### the parts of a slice -/
abbrev TO := St → Hp → (Option Int → Hp → Prop) → Prop
section
variable {X : Cx} {e : Expr} {te : TE} {lo hi : Option Expr} {tl th : TO} {pos p2 : Pos}
/-- what a slice of a value is, by values: the slice object stands at sl -/
def SlR (X : Cx) (r : V → Option Int → Option Int → Hp → VK → Prop) : Prop :=
  ∀ (pins : List (Addr × Obj)) (s : Shared) (σ : St) (H : Hp) (x : V) (v vl vu : Value) (lo hi : Option Int) (sl : Addr) (Q : VK), Inv X pins σ H s → RelV x v → s.heap.IsSliceOf sl vl vu .none → IsPart vl lo → IsPart vu hi → r x lo hi H Q →
    ∃ T id, typeLookup (.type T) "__getitem__" = pure (some (.builtin id)) ∧ s.TypeIs v T ∧ wpAny (model X.prog X.w) X.A (getItem v (.ref sl)) (EP X pins σ Q) X.xe s
theorem SlR.or {r r' : V → Option Int → Option Int → Hp → VK → Prop} (h : SlR X r) (h' : SlR X r') : SlR X (fun x lo hi H Q => r x lo hi H Q ∨ r' x lo hi H Q) := by
  intro pins s σ H x v vl vu lo hi sl Q I rx hs pl pu q
  rcases q with q | q
  · exact h pins s σ H x v vl vu lo hi sl Q I rx hs pl pu q
  · exact h' pins s σ H x v vl vu lo hi sl Q I rx hs pl pu q
end
end L2
namespace L2
open PySem PySem.Spec PyProof.Rows
/-! ### places -/
/-- the place that an index of any sign means -/
def ixN (n : Nat) (i : Int) : Option Nat := if 0 ≤ i then (if i < n then some i.toNat else none) else if -(n : Int) ≤ i then some (i + n).toNat else none
def atI {α : Type} (xs : List α) (i : Int) : Option α := (ixN xs.length i).bind fun j => xs[j]?
theorem ixN_seq {n : Nat} {i : Int} {j : Nat} (h : ixN n i = some j) : seqIndex? i n = some j ∧ j < n ∧ -(n : Int) ≤ i ∧ i < n := by
  unfold ixN at h
  by_cases h0 : 0 ≤ i
  · rw [if_pos h0] at h
    by_cases h1 : i < n
    · rw [if_pos h1] at h
      have e : i.toNat = j := Option.some.inj h
      exact ⟨by rw [seqIndex_of h0 h1, e], by omega, by omega, h1⟩
    · rw [if_neg h1] at h; cases h
  · rw [if_neg h0] at h
    by_cases h1 : -(n : Int) ≤ i
    · rw [if_pos h1] at h
      have e : (i + n).toNat = j := Option.some.inj h
      exact ⟨by rw [seqIndex_neg (by omega) h1, e], by omega, h1, by omega⟩
    · rw [if_neg h1] at h; cases h
theorem atI_get {α : Type} {xs : List α} {i : Int} {v : α} (h : atI xs i = some v) : ∃ j, seqIndex? i xs.length = some j ∧ xs[j]? = some v ∧ j < xs.length ∧ -(xs.length : Int) ≤ i ∧ i < xs.length := by
  unfold atI at h
  cases e : ixN xs.length i with
  | none => rw [e] at h; cases h
  | some j =>
    rw [e] at h
    obtain ⟨h1, h2, h3, h4⟩ := ixN_seq e
    exact ⟨j, h1, h, h2, h3, h4⟩
theorem atI_nat {α : Type} {xs : List α} {j : Nat} {v : α} (h : xs[j]? = some v) : atI xs (j : Int) = some v := by
  have hj : j < xs.length := (List.getElem?_eq_some_iff.mp h).1
  have e : ixN xs.length (j : Int) = some j := by
    unfold ixN
    rw [if_pos (by omega), if_pos (by omega)]; simp
  unfold atI; rw [e]; exact h
/-! ### what may be subscripted -/
/-- what stands as an index of a plain subscript -/
def PlainIx (b : Expr) : Prop := ∀ o i, subscripted b false o i = operate [o, i] (getItem o i)
/-- a subscript by values -/
def IxR (X : Cx) (r : R2) : Prop :=
  ∀ (value slice : Expr) (pins : List (Addr × Obj)) (s : Shared) (σ : St) (H : Hp) (x y : V) (v u : Value) (Q : VK), Inv X pins σ H s → RelV x v → RelV y u → r x y H Q →
    subscripted slice false v u = operate [v, u] (getItem v u) → wpAny (model X.prog X.w) X.A (subscriptTail value slice v u) (EP X pins σ Q) X.xe s
/-- a call of a builtin's method by values: the receiver, the arguments -/
def MtR (X : Cx) (id : String) (r : V → List V → Hp → VK → Prop) : Prop :=
  ∀ (pins : List (Addr × Obj)) (s : Shared) (σ : St) (H : Hp) (x : V) (xs : List V) (v : Value) (us : List Value) (Q : VK), Inv X pins σ H s → RelV x v → Vals xs us → r x xs H Q →
    wpAny (model X.prog X.w) X.A (call (.builtin id) (v :: us)) (EP X pins σ Q) X.xe s
section
variable {X : Cx} {a b : Expr} {ta tb : TE} {pos : Pos}
theorem IxR.or {r r' : R2} (h : IxR X r) (h' : IxR X r') : IxR X (fun x y H Q => r x y H Q ∨ r' x y H Q) := by
  intro value slice pins s σ H x y v u Q I rx ry q hs
  rcases q with q | q
  · exact h value slice pins s σ H x y v u Q I rx ry q hs
  · exact h' value slice pins s σ H x y v u Q I rx ry q hs
theorem MtR.or {id : String} {r r' : V → List V → Hp → VK → Prop} (h : MtR X id r) (h' : MtR X id r') : MtR X id (fun x xs H Q => r x xs H Q ∨ r' x xs H Q) := by
  intro pins s σ H x xs v us Q I rx rs q
  rcases q with q | q
  · exact h pins s σ H x xs v us Q I rx rs q
  · exact h' pins s σ H x xs v us Q I rx rs q
/-- a[b] -/
theorem pe_ix {r : R2} (hr : IxR X r) (ha : PE X a ta) (hb : PE X b tb) (hs : PlainIx b) : PE X (.Subscript a b pos) (tOp r ta tb) := by
  intro pins s σ H Q I h
  exact Subscript_ (binT ha hb I h fun v u s2 x y H2 I2 rx ry q => hr a b pins s2 σ H2 x y v u Q I2 rx ry q (hs _ _))
def rIxL (K : PySem.W.Frag) : R2 := fun x y H Q => ∃ p xs i v, x = .ref p ∧ y = .int i ∧ SqL K H p xs ∧ atI xs i = some v ∧ Q v H
theorem ix_list : IxR X (rIxL X.K) := by
  intro value slice pins s σ H x y v u Q I rx ry h hs
  obtain ⟨p, xs, i, z, rfl, rfl, hq, he, q⟩ := h
  cases rx
  obtain ⟨t, rfl⟩ := ry
  obtain ⟨its, r, pl, hz⟩ := I.list hq
  obtain ⟨j, h1, h2, h3, h4, h5⟩ := atI_get he
  obtain ⟨w, ew, rw'⟩ := r.get h2
  have hl := r.length
  have hn := line63
  have fin : EP X pins σ Q w s := ⟨z, H, I, rw', q⟩
  by_cases h0 : 0 ≤ i
  · have hj : i.toNat = j := by
      rw [seqIndex_of h0 h5] at h1
      exact Option.some.inj h1
    exact item_listR pl.isList h0 (by omega) (by rw [hj]; simpa using ew) fin hs
  · have hj : (i + (its.toArray.size : Int)).toNat = j := by
      rw [seqIndex_neg (by omega) h4] at h1
      rw [List.size_toArray, ← hl]
      exact Option.some.inj h1
    exact subscriptTail_builtinR (x := w) pl.isList.typeIs slot_list_getitem.lookup
      (wpAny_getItem_list_neg (Q := fun r s' => r = w ∧ EP X pins σ Q r s') pl.isList (by omega) (by rw [List.size_toArray] <;> omega) (by omega) (by rw [hj]; simpa using ew) ⟨rfl, fin⟩) hs
theorem Inv.lst {pins : List (Addr × Obj)} {σ : St} {H : Hp} {s : Shared} {p : Addr} {xs : List V} (I : Inv X pins σ H s) (h : H p = some (.lst xs)) :
    ∃ (its : List Value) (n : Nat), Vals xs its ∧ s.heap.get? p = some { cls := .type "list", data := .seq its.toArray n } ∧ xs.length ≤ sizeLine := by
  obtain ⟨z, its, n, r, e⟩ := I.hok p _ h
  exact ⟨its, n, r, e, z⟩
/-! ### len, list(x), tuple(x) of any list or tuple that is read -/
theorem call_len_seq : CallR X (.builtin "len") (fun xs H Q => ∃ p ys, xs = [.ref p] ∧ (SqL X.K H p ys ∨ SqT X.K H p ys) ∧ Q (.int ys.length) H) := by
  intro pins s σ H xs us Q I r h
  obtain ⟨p, ys, rfl, hq, q⟩ := h
  obtain ⟨u, rfl, rx⟩ := vals1 r
  cases rx
  have hn := line63
  rcases hq with hq | hq
  · obtain ⟨its, r', pl, hz⟩ := I.list hq
    have hlen := r'.length
    exact Calls.call_len_list pl.isList (by simp only [List.size_toArray] <;> omega) ⟨.int ys.length, H, I.tok _, ⟨s.toks + 1, by rw [List.size_toArray, hlen]⟩, q⟩
  · obtain ⟨its, r', pl, hz⟩ := I.tuple hq
    have hlen := r'.length
    exact len_tuple pl (by simp only [List.size_toArray] <;> omega) ⟨.int ys.length, H, I.tok _, ⟨s.toks + 1, by rw [List.size_toArray, hlen]⟩, q⟩
theorem CallR.or {f : Value} {r r' : List V → Hp → VK → Prop} (h : CallR X f r) (h' : CallR X f r') : CallR X f (fun xs H Q => r xs H Q ∨ r' xs H Q) := by
  intro pins s σ H xs us Q I rs q
  rcases q with q | q
  · exact h pins s σ H xs us Q I rs q
  · exact h' pins s σ H xs us Q I rs q
theorem call_list_of : CallR X (.type "list") (fun xs H Q => ∃ p ys, xs = [.ref p] ∧ (SqL X.K H p ys ∨ SqT X.K H p ys) ∧ ∀ l, H l = none → Q (.ref l) (upd H l (.lst ys))) := by
  intro pins s σ H xs us Q I r h
  obtain ⟨p, ys, rfl, hq, q⟩ := h
  obtain ⟨u, rfl, rx⟩ := vals1 r
  cases rx
  have fin : ∀ (its : List Value), Vals ys its → ys.length ≤ sizeLine → ∀ (h' : Heap) (c' : Nat), (∀ b o', s.heap.get? b = some o' → h'.get? b = some o') →
      h'.get? s.heap.objs.size = some { cls := .type "list", dict := none, data := .seq its.toArray c', slots := #[] } → EP X pins σ Q (.ref s.heap.objs.size) { s with heap := h' } := fun its r' hz h' c' kp e =>
    ⟨.ref s.heap.objs.size, _, I.laid (t' := s.toks) kp (Nat.le_refl _) (show ObjOk X.prog X.w _ h' _ (.lst ys) from ⟨hz, its, c', r', e⟩), rfl, q _ (I.hok.fresh (Nat.le_refl _))⟩
  rcases hq with hq | hq
  · obtain ⟨its, r', pl, hz⟩ := I.list hq
    have hlen := r'.length
    obtain ⟨o, ho, hc, n, hd⟩ := pl.isList
    exact call_list_seq p (.inl rfl) ho hc hd (fun h' c' kp e => fin its r' hz h' c' kp e) (by simp only [List.size_toArray] <;> omega)
  · obtain ⟨its, r', pl, hz⟩ := I.tuple hq
    have hlen := r'.length
    obtain ⟨o, ho, hc, n, hd⟩ := pl
    exact call_list_seq p (.inr rfl) ho hc hd (fun h' c' kp e => fin its r' hz h' c' kp e) (by simp only [List.size_toArray] <;> omega)
theorem call_tuple_of : CallR X (.type "tuple") (fun xs H Q => ∃ p ys, xs = [.ref p] ∧ ((SqL X.K H p ys ∧ ∀ l, H l = none → Q (.ref l) (upd H l (.tup ys))) ∨ (SqT X.K H p ys ∧ Q (.ref p) H))) := by
  intro pins s σ H xs us Q I r h
  obtain ⟨p, ys, rfl, h⟩ := h
  obtain ⟨u, rfl, rx⟩ := vals1 r
  cases rx
  rcases h with ⟨hq, q⟩ | ⟨hq, q⟩
  · obtain ⟨its, r', pl, hz⟩ := I.list hq
    have hlen := r'.length
    refine call_tuple_list pl.isList (fun h' kp => ?_) (by simp only [List.size_toArray] <;> omega)
    have I1 : Inv X pins σ H { s with heap := h' } := I.kept (t' := s.toks) kp
    have I2 : Inv X pins σ (upd H h'.objs.size (.tup ys)) { s with heap := h'.push { cls := .type "tuple", data := .seq its.toArray } } :=
      I1.laid (t' := s.toks) (fun b o e => Heap.get?_push_of_some _ e) (Nat.le_refl _) (show ObjOk X.prog X.w _ _ _ (.tup ys) from ⟨hz, its, r', IsTup.new _ _⟩)
    exact ⟨.ref h'.objs.size, _, I2, rfl, q _ (I1.hok.fresh (Nat.le_refl _))⟩
  · obtain ⟨its, r', pl, hz⟩ := I.tuple hq
    exact call_tuple_same pl ⟨.ref p, H, I, rfl, q⟩
variable {o e : Expr} {es : List Expr} {to : TE} {t : TA} {name : Str} {apos cpos : Pos} {T id : String} {r : V → List V → Hp → VK → Prop}
/- xs.append(e), list.index on a module's tuple .. are MtR facts of 06m -/
end
end L2
namespace L2
open PySem PySem.Spec PyProof.Rows
/-! ### lists of values -/
theorem Vals.one : ∀ {x : V} {us : List Value}, Vals [x] us → ∃ u, us = [u] ∧ RelV x u
  | _, _, .cons r .nil => ⟨_, rfl, r⟩
theorem Vals.two : ∀ {x y : V} {us : List Value}, Vals [x, y] us → ∃ u v, us = [u, v] ∧ RelV x u ∧ RelV y v
  | _, _, _, .cons r (.cons q .nil) => ⟨_, _, rfl, r, q⟩
theorem Vals.zero : ∀ {us : List Value}, Vals [] us → us = []
  | _, .nil => rfl
theorem Vals.dropLast {xs : List V} {us : List Value} (h : Vals xs us) : Vals xs.dropLast us.dropLast := by
  induction h with
  | nil => exact .nil
  | cons r t ih =>
    cases t with
    | nil => exact .nil
    | cons q t' => exact .cons r ih
theorem Vals.rep {xs : List V} {us : List Value} (h : Vals xs us) : ∀ k : Nat, Vals (List.replicate k xs).flatten (List.replicate k us).flatten
  | 0 => .nil
  | k + 1 => by
    rw [List.replicate_succ, List.replicate_succ, List.flatten_cons, List.flatten_cons]
    exact Vals.append h (Vals.rep h k)
section
variable {X : Cx} {pins : List (Addr × Obj)} {σ : St} {H : Hp} {s : Shared} {l b : Addr} {xs ys zs : List V}
theorem Inv.fresh (I : Inv X pins σ H s) : H s.heap.objs.size = none := I.hok.fresh (Nat.le_refl _)
end
/-! ### xs[a:b] = ys -/
end L2
namespace Att
open PySem PySem.W PySem.Calls PyProof.Rows
/-! ### the script -/
theorem ints_of_wellAll {P : Params} {h : Heap} : ∀ (ns : List Int) (vs : List Value), WellAll P h vs (ns.map WData.int) → IntsAre vs ns := by
  intro ns
  induction ns with
  | nil =>
    intro vs w
    rw [List.map_nil] at w
    cases w
    exact .nil
  | cons n ns ih =>
    intro vs w
    rw [List.map_cons] at w
    cases w with
    | cons a b =>
      cases a
      exact .cons _ _ (ih _ b)
theorem script_of {l : OpenLaw} {n : Nat} (hn : l.most = some n) {P : Params} {h : Heap} {args : List WData} {vals : List Value}
    (hpre : l.row.toRowW.claim.pre args = true) (hwl : WellAll P h vals args) :
    ∃ a vs ns, vals = [Value.ref a] ∧ args = [WData.list (ns.map WData.int)] ∧ h.get? a = some { cls := .type "list", data := .seq vs.toArray } ∧ IntsAre vs ns ∧ ns.length ≤ n := by
  have hsh : WShape.hasAll [] args [.list .int] = true := (pre_splitW hpre).1
  have hc : l.pre.holds [] { args := args } = true := (pre_splitW hpre).2
  obtain ⟨d, r, rfl, h1, h2⟩ := hasAllW_cons hsh
  obtain rfl := hasAllW_nil h2
  obtain ⟨xs, rfl, h3⟩ := hasW_list h1
  obtain ⟨ns, rfl⟩ := items_int h3
  have hlen : ns.length ≤ n := by
    unfold OpenLaw.pre at hc
    have h4 : (WTm.not (.lt (.lit (.int (n : Int))) (.len (.arg 0)))).holds [] { args := [.list (ns.map .int)] } = true := by
      have h4 := (holds_andW hc).1
      rw [hn] at h4
      exact h4
    have h5 := condW_of h4 (w_not (w_lt w_lit (w_len_list (w_arg rfl))))
    rw [List.length_map] at h5
    refine Nat.le_of_not_lt fun q => ?_
    have q' : (n : Int) < ((ns.length : Nat) : Int) := by omega
    first
      | (rw [decide_eq_true q'] at h5; exact absurd h5 (by decide))
      | (simp at h5; omega)
  cases hwl with
  | cons w1 w2 =>
    cases w2
    cases w1 with
    | list ho hall => exact ⟨_, _, ns, rfl, rfl, ho, ints_of_wellAll ns _ hall, hlen⟩
theorem post_true (l : OpenLaw) (args : List WData) : l.row.toRowW.claim.post args (.bool true) args = true :=
  postW_of (r := l.row.toRowW) (X := (true == true))
    (show WShape.has [] (.bool true) .bool = true by first | rfl | decide | simp [WShape.has, WShape.arms, WShape.armsAll])
    (show (WTm.eq .res (.lit (.bool true))).value [] { args := args, res := some (.bool true), after := args } = some (.bool (true == true)) from w_eq_bool (w_res rfl) w_lit) rfl
/-- the same from a codeAny of the CALL (for a layer whose function contracts speak of calls) -/
theorem attach_call {l : OpenLaw} {n : Nat} {q : Program} {loose : List Str} {XP : (Str → Option Value) → Heap → Prop} {YP : World → Heap → Prop} {d : DefRec}
    (hn : l.most = some n) (hdf : d.params.defaults = [])
    (call : ∀ (w : World) (s₀ s₁ : Shared) (mg mb : Str → Option Value) (fa : Addr) (o : Obj) (pm cd doc : Value) (a : Addr) (vs : List Value) (ns : List Int),
      Ground q loose [] XP w s₀ mg mb s₁.heap → YP w s₁.heap →
      s₁.heap.get? fa = some o → o.data = .func (docDef d.name d.params d.body d.scope pm cd doc) → s₁.heap.CodeRec cd d.name → mg d.name = some (.ref fa) →
      s₁.heap.get? a = some { cls := .type "list", data := .seq vs.toArray } → IntsAre vs ns → ns.length ≤ n → s₁.gens = #[] →
      codeAny (model l.prog w) callerA (.call (.ref fa) ⟨[.ref a], []⟩) (fun r s' => r = .ok (.ret (.bool true)) ∧ OldK s₁.heap s'.heap ∧ s'.os = s₁.os ∧ AllBare s'.gens) s₁) :
    WalkO q loose XP YP l.row.toRowW d [] (fun f vs => PySem.call f vs) := by
  intro w s₀ s₁ mg mb G Y fa o pm cd doc dV kV ho hd hcd hD hmg hg args vals as hpre hlay hrd hwl hlo
  obtain rfl : dV = .none := Dflts.none hD hdf
  obtain rfl : kV = .none := Dflts.noKw hD
  obtain ⟨a, vs, ns, rfl, rfl, hobj, hints, hlen⟩ := script_of hn hpre hwl
  refine enter_call (codeAny_mono (call w s₀ s₁ mg mb fa o pm cd doc a vs ns G Y ho (fd_plain hd) hcd hmg hobj hints hlen hg) fun r s' hq => ?_)
  obtain ⟨rfl, h2, h3, h4⟩ := hq
  exact ⟨.inl ⟨.bool true, .bool true, [], rfl, fun _ => rfl, .bool true, post_true l _, fun _ => ⟨List.Pairwise.nil, fun _ hm => (nomatch hm)⟩⟩, h2, h3, h4⟩
/-! ### rules over ANY heap (no ledger) from facts about the written part K: the library's own take a ledger (News) for what they write -/
end Att
namespace L2
open PySem PySem.Spec PyProof.Rows
theorem vals_ints : ∀ {vs : List Value} {ns : List Int}, IntsAre vs ns → Vals (ns.map V.int) vs
  | _, _, .nil => .nil
  | _, _, .cons n t h => .cons ⟨t, rfl⟩ (vals_ints h)
/-- nothing is tracked but the script, known to the object (or it is an object of the module) -/
def Only (H : Hp) : Prop := ∀ b, H b = none ∨ ∃ o xs, H b = some (.frz o (.lst xs))
/-- THE HEAD: the law's promise, at the heap behind the top. F, the promise of the law's def, may use that base is part of the heap (so K.In base, base.Ns mainGlobals mg stand in Mod) -/
theorem law_call {P : Program} {w : World} {K : PySem.W.Frag} {mg mb : Str → Option Value} {CX : CXT} {k : Nat} {fa a : Addr} {fd : FuncData} {x : Str} {sp : Sp} {s₁ : Shared} {vs : List Value} {ns : List Int}
    (KX : K.In s₁.heap) (hns : s₁.heap.Ns mainGlobals mg) (hb : s₁.heap.Ns builtinsNs mb) (hbb : ∀ x : Str, x ≠ "__name__" → mb x = bootBuiltins x) (hlim : s₁.heap.NoLimit) (hg : s₁.gens = #[])
    (ha : s₁.heap.get? a = some { cls := .type "list", data := .seq vs.toArray }) (hi : IntsAre vs ns) (hl : ns.length ≤ sizeLine) (hr : Room k callerA)
    (F : ∀ base : Heap, K.In base → base.Ns mainGlobals mg → FnOk P w K mg base CX k fa fd [x] sp) (hbind : ∀ (s : Shared) (u : Value), BindsTo s fd ⟨[u], []⟩ [(x, u)])
    (hsp : ∀ H : Hp, Only H → SqL K H a (ns.map V.int) → sp [.ref a] H (fun v _ => v = .bl true) fun _ _ _ => False)
    (hCX : ∀ H e s', CX [] H s₁ (fun _ _ _ => False) e s' → False) :
    codeAny (model P w) callerA (.call (.ref fa) ⟨[.ref a], []⟩) (fun r s' => r = .ok (.ret (.bool true)) ∧ OldK s₁.heap s'.heap ∧ s'.os = s₁.os ∧ AllBare s'.gens) s₁ := by
  have rv := vals_ints hi
  have lenV := hi.length
  -- from an abstract heap in which nothing but the script may be tracked
  have core : ∀ H : Hp, Only H → SqL K H a (ns.map V.int) → HOk P w H s₁.heap → (∀ b, H b ≠ none → b = a) → (H a ≠ none → K.lookup a = none) →
      codeAny (model P w) callerA (.call (.ref fa) ⟨[.ref a], []⟩) (fun r s' => r = .ok (.ret (.bool true)) ∧ OldK s₁.heap s'.heap ∧ s'.os = s₁.os ∧ AllBare s'.gens) s₁ := by
    intro H hO hS hok hA hK
    have base_of : ∀ {b : Addr} {o : Obj}, s₁.heap.get? b = some o → H b = none → (hidT s₁.heap H).get? b = some o := fun e n => hidT_get e n
    have noA : ∀ {b : Addr} {o : Obj} {es : Array DictEntry} {ep : Nat}, s₁.heap.get? b = some o → o.data = .dict es ep → H b = none := fun {b o es ep} e d => by
      cases q : H b with
      | none => rfl
      | some u =>
        have e' : b = a := hA b (by rw [q]; simp)
        subst e'
        rw [ha] at e; cases e
        have d' : Data.seq vs.toArray _ = Data.dict es ep := d
        cases d'
    have nsK : ∀ {b : Addr} {m : Str → Option Value}, s₁.heap.Ns b m → (hidT s₁.heap H).Ns b m := fun {b m} ⟨o, es, ep, e, d, r⟩ => ⟨o, es, ep, base_of e (noA e d), d, r⟩
    have hKb : K.In (hidT s₁.heap H) := fun b o e => base_of (KX b o e) (by
      cases q : H b with
      | none => rfl
      | some u =>
        have e' : b = a := hA b (by rw [q]; simp)
        subst e'
        rw [hK (by rw [q]; simp)] at e; cases e)
    have hM : Mod K mg (hidT s₁.heap H) := ⟨hKb, nsK hns, ⟨mb, nsK hb, hbb⟩, let ⟨mc, h1, h2⟩ := hlim; ⟨mc, nsK h1, h2⟩⟩
    have e0 : Env0 P w K mg (hidT s₁.heap H) callerA [] s₁ H := ⟨rfl, hM, fun b o e => of_hidT e, Nat.le_of_eq (hidT_size _ _), trivial, fun b hb => absurd (show b ∈ ([] : List Addr) from hb) (by simp), hok, .of_eq hg⟩
    refine codeAny_mono ((F _ hKb (nsK hns)).run callerA [] s₁ H ⟨[.ref a], []⟩ [.ref a] [.ref a] _ _ hr e0 (hbind s₁ (.ref a)) (.cons rfl .nil) (hsp H hO hS)) fun r s' h => ?_
    cases r with
    | error e => exact (hCX H e s' h).elim
    | ok fl =>
      cases fl with
      | next => exact False.elim h
      | brk => exact False.elim h
      | cont => exact False.elim h
      | ret u =>
        obtain ⟨v, H', os, bare, un, hok', r', q⟩ := h
        have q' : v = .bl true := q
        subst q'
        obtain rfl : u = Value.bool true := r'
        refine ⟨rfl, OldK.of_keep fun b o e => ?_, os, bare⟩
        cases q : H b with
        | none => exact un.keep b o e q (by intro z; exact absurd (show b ∈ ([] : List Addr) from z) (by simp)) (by simp)
        | some u =>
          rcases hO b with z | ⟨ob, xs, z⟩
          · rw [q] at z; cases z
          · have z2 := un.frzs b ob _ z
            obtain ⟨e1, _⟩ := hok b _ z
            obtain ⟨e2, _⟩ := hok' b _ z2
            rw [e] at e1; cases e1
            exact e2
  cases hk : K.lookup a with
  | some o =>
    -- the script is one of the module's own objects
    have e := KX a o hk
    rw [ha] at e
    cases e
    refine core (fun _ => none) (fun _ => .inl rfl) (.inr ⟨_, vs.toArray, _, hk, rfl, rfl, rfl, by rw [List.size_toArray, lenV]; exact hl, by simpa using rv⟩) (fun b u z => by have z' : (none : Option HO) = some u := z; cases z') (fun b z => absurd rfl z) fun z => absurd rfl z
  | none =>
    refine core (fun b => if b = a then some (.frz { cls := .type "list", data := .seq vs.toArray } (.lst (ns.map V.int))) else none) (fun b => ?_) (.inl (.inr ⟨{ cls := .type "list", data := .seq vs.toArray }, if_pos rfl⟩)) (fun b u z => ?_) (fun b z => ?_) fun _ => hk
    · by_cases hb : b = a
      · exact .inr ⟨_, _, if_pos hb⟩
      · exact .inl (if_neg hb)
    · by_cases hb : b = a
      · have z' := (if_pos hb).symm.trans z
        cases z'
        subst hb
        exact ⟨ha, by rw [List.length_map]; exact hl, vs, _, rv, ha⟩
      · have z' := (if_neg hb).symm.trans z
        cases z'
    · by_cases hb : b = a
      · exact hb
      · exact absurd (if_neg hb) z
end L2
namespace L2
open PySem PySem.Spec PyProof.Rows
abbrev KOf {K : PySem.W.Frag} {h : Heap} (_ : K.In h) : PySem.W.Frag := K
/-- the goal that k_head leaves (case hc), from the law's promise. F gives the function object fd (K's own) once, then the promise over every base -/
theorem walk_of {l : PySem.W.OpenLaw} {n k : Nat} {q : Program} {loose : List Str} {XP : (Str → Option Value) → Heap → Prop} {YP : World → Heap → Prop} {d : DefRec} {K : Params → PySem.W.Frag} {CX : World → CXT} {sp : World → Sp} {x : Str}
    (hn : l.most = some n) (hn2 : n ≤ sizeLine) (hdf : d.params.defaults = []) (hr : Room k callerA)
    (hY : ∀ (w : World) (h : Heap), YP w h → (K w.params).In h)
    (F : ∀ (w : World) (mg : Str → Option Value) (fa : Addr) (h : Heap), (K w.params).In h → h.Ns mainGlobals mg → mg d.name = some (.ref fa) →
      ∃ fd : FuncData, (∀ (s : Shared) (u : Value), BindsTo s fd ⟨[u], []⟩ [(x, u)]) ∧
        ∀ base : Heap, (K w.params).In base → base.Ns mainGlobals mg → FnOk l.prog w (K w.params) mg base (CX w) k fa fd [x] (sp w))
    (hsp : ∀ (w : World) (H : Hp) (a : Addr) (ns : List Int), ns.length ≤ n → Only H → SqL (K w.params) H a (ns.map V.int) → sp w [.ref a] H (fun v _ => v = .bl true) fun _ _ _ => False)
    (hCX : ∀ (w : World) (H : Hp) (s : Shared) (e : Value) (s' : Shared), CX w [] H s (fun _ _ _ => False) e s' → False) :
    PySem.W.WalkO q loose XP YP l.row.toRowW d [] (fun f vs => PySem.call f vs) := by
  refine Att.attach_call hn hdf fun w s₀ s₁ mg mb fa o pm cd doc a vs ns G Y ho hd hcd hmg hobj hints hlen hg => ?_
  have KX := hY w _ Y
  obtain ⟨fd, hb, hF⟩ := F w mg fa _ KX G.T.g hmg
  exact law_call KX G.T.g G.T.b G.T.builtins G.T.nolimit hg hobj hints (Nat.le_trans hlen hn2) hr hF hb (fun H hO hS => hsp w H a ns hlen hO hS) fun H e s' => hCX w H s₁ e s'
end L2
/- THE LAST THEOREM (shape; LID, My.* are yours):
   My.Adr: a structure of the addresses that your layer names (classes, functions); My.Txt K t: a structure (Prop) of the equations over K;
   My.txt_mk : {K} {implicit addresses ..} (e1 : nsIn K mainGlobals "law" = some (some (.ref f))) (e2 : K.lookup f = some ⟨oc, od, .func (fnOf "law" "law" params body scope dV kV doc pm an cdv ct), sl⟩) (e3 : codeIn K cdv "law" = true) .. : ∃ t, My.Txt K t
set_option maxRecDepth 100000 in
set_option maxHeartbeats 0 in
theorem PySem.Challenge.cw_LID_holds : PySem.Challenge.rw_LID.Holds := by
  w_on; o_law; k_head; (case hw => w_witness2)
  k_fill
  refine L2.walk_of (l := PySem.Challenge.rw_LID) (n := 63) (k := 40) (x := "script") (CX := fun w => ..) (sp := fun _ => My.sp_law) rfl (by decide) rfl ⟨rfl, by decide, by decide⟩ (fun w h Y => PySem.W.kIn_of Y) ?F ?S ?C
  case F =>
    intro w mg fa h KX G hmg
    have T : ∃ t, My.Txt (L2.KOf KX) t := by
      dsimp only [L2.KOf]                          -- K must stand as «<heap const> w.params» for k_is
      refine' My.txt_mk ?e1 ?e2 ?e3 ..
      (case e1 => PySem.W.k_is)                    -- in the order: a name -> its address -> its object -> its parts
      (case e2 => PySem.W.k_is)
      ..
    obtain ⟨t, T⟩ := T
    have e0 := hmg.symm.trans (PySem.W.mg_of KX G T.law)
    cases e0                                       -- fa is the law's own address
    exact ⟨_, fun s u => .of_eq rfl, fun base kb nb => My.law_fn T kb nb⟩     -- if «.of_eq rfl» comes too early: refine' ⟨_, ?b, fun base kb nb => My.law_fn T kb nb⟩; exact fun s u => .of_eq rfl
  case S => exact fun w H a ns hl hO hS => ..
  case C => exact ..
(the tactic k_is has no namespace: write k_is) -/
/-! SHORT WORDS over the layer: a def of the text, its body, what a loop and a test want. -/
namespace L2
open PySem PySem.Spec PyProof.Rows
/-! ### the text by places -/
/-- the j-th statement of a class's body -/
def inClass (s : Stmt) (j : Nat) : Stmt := match s with
  | .ClassDef _ _ _ body _ _ _ _ _ _ _ => body.getD j (.Pass ⟨0, 0, 0, 0⟩)
  | _ => .Pass ⟨0, 0, 0, 0⟩
def defArgs (s : Stmt) : Arguments := match s with
  | .FunctionDef _ a _ _ _ _ _ _ _ _ => a
  | _ => { posonlyargs := [], args := [], vararg := none, kwonlyargs := [], kw_defaults := [], kwarg := none, defaults := [] }
def defBody (s : Stmt) : List Stmt := match s with
  | .FunctionDef _ _ b _ _ _ _ _ _ _ => b
  | _ => []
def defScope (s : Stmt) : Scope := match s with
  | .FunctionDef _ _ _ _ _ _ sc _ _ _ => sc
  | _ => { kind := .function, names := [], isGenerator := false, isCoroutine := false }
/-! ### no exception leaves a def -/
abbrev CX0 : CXT := fun _ _ _ _ _ _ => False
abbrev E0 : XK := fun _ _ _ => False
theorem pass0 {X : Cx} : Passes CX0 X E0 := fun _ _ _ _ _ _ _ h => h.elim
/-! ### a def (or method) of the text as it stands behind the top -/
structure Fun (K : PySem.W.Frag) (x qual : Str) (st : Stmt) (f : Addr) (fd : FuncData) : Prop where
  ex : ∃ (oc : Value) (od : Option Addr) (kV doc pm : Value) (an : Option Addr) (cdv ct : Value) (osl : Array (Option Value)),
    fd = PySem.W.fnOf x qual (defArgs st) (defBody st) (defScope st) .none kV doc pm an cdv ct ∧ K.lookup f = some ⟨oc, od, .func fd, osl⟩ ∧ PySem.W.codeIn K cdv qual = true
  kp : PySem.W.keepIn K (.ref f) = true
section
variable {P : Program} {w : World} {K : PySem.W.Frag} {mg : Str → Option Value} {base : Heap}
/-- THE RULE for a def: its body as a term of rules, and the reading of that term -/
theorem Fun.ok {x qual : Str} {st : Stmt} {f : Addr} {fd : FuncData} {N ps : List Str} {k : Nat} {sp : Sp} (F : Fun K x qual st f fd) (S : FnScope N ps (defScope st)) (len : ∀ vs H Q E, sp vs H Q E → vs.length = ps.length)
    (hbody : ∀ (cdv : Value) (A : Around) (outer : List Env) (s : Shared) (H : Hp) (vs : List V) (Q : VK) (E : XK), Room k (A.deeper (envOfC qual (defScope st) s.heap.objs.size f cdv)) → sp vs H Q E →
      ∃ t, PSs (cxOf CX0 P w K mg base N qual (defScope st) f cdv A outer s H E).nox (defBody st) t ∧ t { nx := fun _ H' => Q .non H', rt := Q } (start N vs) H) : FnOk P w K mg base CX0 (k + 1) f fd ps sp := by
  obtain ⟨oc, od, kV, doc, pm, an, cdv, ct, osl, rfl, lk, hcd⟩ := F.ex
  refine fn_of lk hcd S len fun A outer s H vs Q E hr hsp => ?_
  obtain ⟨t, h, q⟩ := hbody cdv A outer s H vs Q E hr hsp
  exact ⟨t, h.nox, q⟩
/-- how its arguments bind (no defaults): h is «fun _ _ _ _ _ _ us hl => match us, hl with | [_, _], _ => rfl», one _ a parameter -/
theorem Fun.binds {x qual : Str} {st : Stmt} {f : Addr} {fd : FuncData} {ps : List Str} (F : Fun K x qual st f fd)
    (h : ∀ (kV doc pm : Value) (an : Option Addr) (cdv ct : Value) (us : List Value), us.length = ps.length → bindArgs (PySem.W.fnOf x qual (defArgs st) (defBody st) (defScope st) .none kV doc pm an cdv ct) ⟨us, []⟩ = pure (ps.zip us)) : Binds K fd ps [] := by
  obtain ⟨oc, od, kV, doc, pm, an, cdv, ct, osl, rfl, lk, hcd⟩ := F.ex
  exact .all (h kV doc pm an cdv ct)
theorem fun_mk {x qual : Str} {st : Stmt} {f : Addr} {oc : Value} {od an : Option Addr} {osl : Array (Option Value)} {kV doc pm cdv ct : Value} (l : K.lookup f = some ⟨oc, od, .func (PySem.W.fnOf x qual (defArgs st) (defBody st) (defScope st) .none kV doc pm an cdv ct), osl⟩)
    (c : PySem.W.codeIn K cdv qual = true) (k : PySem.W.keepIn K (.ref f) = true) : Fun K x qual st f (PySem.W.fnOf x qual (defArgs st) (defBody st) (defScope st) .none kV doc pm an cdv ct) := ⟨⟨oc, od, kV, doc, pm, an, cdv, ct, osl, rfl, l, c⟩, k⟩
end
/-! ### expressions in short: the name that stands in the i-th slot -/
/-! ### tests -/
theorem iteF {A B : Prop} (h : B) : if false = true then A else B := by
  rw [if_neg Bool.false_ne_true]
  exact h
theorem iteT {A B : Prop} (h : A) : if true = true then A else B := by
  rw [if_pos rfl]
  exact h
/-! ### heaps -/
/-- all that was tracked is as it was -/
def Same (H H' : Hp) : Prop := ∀ b o, H b = some o → H' b = some o
theorem Same.refl (H : Hp) : Same H H := fun _ _ h => h
theorem Same.trans {H H1 H2 : Hp} (a : Same H H1) (b : Same H1 H2) : Same H H2 := fun c o h => b c o (a c o h)
theorem Same.free {H H' : Hp} (e : Same H H') {l : Addr} (h : H' l = Option.none) : H l = Option.none := by
  cases q : H l with
  | none => rfl
  | some o =>
    rw [e l o q] at h
    cases h
theorem Same.seq {K : PySem.W.Frag} {H H' : Hp} {a : Addr} {xs : List V} (e : Same H H') (h : SqL K H a xs) : SqL K H' a xs := by
  rcases h with (h | ⟨o, h⟩) | h
  · exact .inl (.inl (e _ _ h))
  · exact .inl (.inr ⟨o, e _ _ h⟩)
  · exact .inr h
end L2
set_option Elab.async false
set_option linter.all false
/-! closures and the environment of a comprehension's block (with cells of its own) -/
namespace CT
open PySem
/-- the closure of a comprehension's scope: the cells of its free names -/
def clOf (env : Env) : List (Str × NameKind) → List (Str × Addr) → List (Str × Addr)
  | [], acc => acc
  | (n, k) :: r, acc => if k == .free then clOf env r ((n, (env.cells.lookup n).getD 0) :: acc) else clOf env r acc
theorem clFor {env : Env} (f : Str × NameKind → List (Str × Addr) → Sem (ForInStep (List (Str × Addr))))
    (hf : ∀ n k acc, f (n, k) acc = if k == .free then (do let c ← cellOf env n; pure (.yield ((n, c) :: acc))) else pure (.yield acc)) :
    ∀ (names : List (Str × NameKind)) (acc : List (Str × Addr)), (∀ x ∈ names, x.2 = .free → ∃ c, env.cells.lookup x.1 = some c) → forIn names acc f = pure (clOf env names acc)
  | [], acc, _ => by rw [List.forIn_nil]; rfl
  | (n, k) :: r, acc, h => by
    have hr : ∀ x ∈ r, x.2 = .free → ∃ c, env.cells.lookup x.1 = some c := fun x hx => h x (List.mem_cons_of_mem _ hx)
    rw [List.forIn_cons, hf]
    unfold clOf
    by_cases hk : (k == NameKind.free) = true
    · rw [if_pos hk, if_pos hk]
      obtain ⟨c, hc⟩ := h (n, k) List.mem_cons_self (beq_iff_eq.mp hk)
      have hc' : env.cells.lookup n = some c := hc
      rw [hc']
      simp only [cellOf, hc', pure_bind, Option.getD_some]
      exact clFor f hf r _ hr
    · rw [if_neg hk, if_neg hk]
      simp only [pure_bind]
      exact clFor f hf r _ hr
theorem closureFor_eq {scope : Scope} {env : Env} (h : ∀ x ∈ scope.names, x.2 = .free → ∃ c, env.cells.lookup x.1 = some c) : closureFor scope env = pure (clOf env scope.names []) := by
  simp only [closureFor]
  rw [clFor (env := env) _ (fun n k acc => by cases hk : k == NameKind.free <;> simp [hk]) _ _ h]
  rfl
theorem lookup_of_mem {α : Type} {x : Str} {v : α} : ∀ {l : List (Str × α)}, (l.map (·.1)).Nodup → (x, v) ∈ l → l.lookup x = some v
  | (k, u) :: r, hn, hm => by
    rw [List.map_cons, List.nodup_cons] at hn
    rw [List.lookup_cons]
    rcases List.mem_cons.mp hm with e | hm
    · cases e; simp
    · have : x ≠ k := fun e => hn.1 (e ▸ List.mem_map.mpr ⟨(x, v), hm, rfl⟩)
      rw [beq_false_of_ne this]
      exact lookup_of_mem hn.2 hm
theorem some_of_mem {α : Type} {x : Str} {v : α} : ∀ {l : List (Str × α)}, (x, v) ∈ l → ∃ u, l.lookup x = some u
  | (k, u) :: r, hm => by
    rw [List.lookup_cons]
    rcases List.mem_cons.mp hm with e | hm
    · cases e; exact ⟨v, by simp⟩
    · cases x == k with
      | true => exact ⟨u, rfl⟩
      | false => exact some_of_mem hm
theorem clOf_acc {env : Env} {p : Str × Addr} : ∀ {names : List (Str × NameKind)} {acc : List (Str × Addr)}, p ∈ acc → p ∈ clOf env names acc
  | [], _, h => h
  | (n, k) :: r, acc, h => by
    unfold clOf
    split
    · exact clOf_acc (List.mem_cons_of_mem _ h)
    · exact clOf_acc h
theorem clOf_mem {env : Env} {n : Str} {c : Addr} : ∀ {names : List (Str × NameKind)} {acc : List (Str × Addr)}, (∀ x ∈ names, x.2 = .free → ∃ c, env.cells.lookup x.1 = some c) → (n, c) ∈ clOf env names acc →
    (n, c) ∈ acc ∨ (env.cells.lookup n = some c ∧ (n, NameKind.free) ∈ names)
  | [], _, _, h => .inl h
  | (m, k) :: r, acc, hf, h => by
    have hr : ∀ x ∈ r, x.2 = .free → ∃ c, env.cells.lookup x.1 = some c := fun x hx => hf x (List.mem_cons_of_mem _ hx)
    unfold clOf at h
    split at h
    · rename_i hk
      have hk' : k = .free := beq_iff_eq.mp hk
      obtain ⟨c', hc⟩ := hf (m, k) List.mem_cons_self hk'
      have hc' : env.cells.lookup m = some c' := hc
      rcases clOf_mem hr h with h | ⟨h1, h2⟩
      · rcases List.mem_cons.mp h with e | h
        · rw [hc'] at e; cases e
          exact .inr ⟨hc', by rw [hk']; exact List.mem_cons_self⟩
        · exact .inl h
      · exact .inr ⟨h1, List.mem_cons_of_mem _ h2⟩
    · rcases clOf_mem hr h with h | ⟨h1, h2⟩
      · exact .inl h
      · exact .inr ⟨h1, List.mem_cons_of_mem _ h2⟩
theorem clOf_has {env : Env} {n : Str} {c : Addr} (hc : env.cells.lookup n = some c) : ∀ {names : List (Str × NameKind)} {acc : List (Str × Addr)}, (n, NameKind.free) ∈ names → (n, c) ∈ clOf env names acc
  | (m, k) :: r, acc, h => by
    unfold clOf
    rcases List.mem_cons.mp h with e | h
    · cases e
      rw [if_pos (by decide), hc]
      exact clOf_acc List.mem_cons_self
    · split <;> exact clOf_has hc h
theorem cellsFrom_app : ∀ (names : List (Str × NameKind)) (n : Nat) (acc : List (Str × Addr)), cellsFrom n names acc = cellsFrom n names [] ++ acc
  | [], _, _ => rfl
  | (m, k) :: r, n, acc => by
    unfold cellsFrom
    split
    · rw [cellsFrom_app r (n + 1) ((m, n) :: acc), cellsFrom_app r (n + 1) [(m, n)], List.append_assoc]; rfl
    · exact cellsFrom_app r n acc
theorem cellsFrom_mem {x : Str} {c : Addr} : ∀ {names : List (Str × NameKind)} {n : Nat} {acc : List (Str × Addr)}, (x, c) ∈ cellsFrom n names acc → (x, c) ∈ acc ∨ (x, NameKind.cell) ∈ names
  | [], _, _, h => .inl h
  | (m, k) :: r, n, acc, h => by
    unfold cellsFrom at h
    split at h
    · rename_i hk
      have hk' : k = .cell := beq_iff_eq.mp hk
      rcases cellsFrom_mem h with h | h
      · rcases List.mem_cons.mp h with e | h
        · cases e; exact .inr (by rw [hk']; exact List.mem_cons_self)
        · exact .inl h
      · exact .inr (List.mem_cons_of_mem _ h)
    · rcases cellsFrom_mem h with h | h
      · exact .inl h
      · exact .inr (List.mem_cons_of_mem _ h)
theorem cellsFrom_has {x : Str} : ∀ {names : List (Str × NameKind)} {n : Nat} {acc : List (Str × Addr)}, (x, NameKind.cell) ∈ names → ∃ c, (x, c) ∈ cellsFrom n names acc
  | (m, k) :: r, n, acc, h => by
    unfold cellsFrom
    rcases List.mem_cons.mp h with e | h
    · cases e
      rw [if_pos (by decide), cellsFrom_app]
      exact ⟨n, List.mem_append_right _ List.mem_cons_self⟩
    · split
      · exact cellsFrom_has h
      · exact cellsFrom_has h
theorem lookup_map2 {α β : Type} {f : Str → α → β} {x : Str} : ∀ {l : List (Str × α)}, (l.map fun p => (p.1, f p.1 p.2)).lookup x = (l.lookup x).map (f x)
  | [] => rfl
  | (n, k) :: r => by
    rw [List.map_cons, List.lookup_cons, List.lookup_cons]
    by_cases hx : x = n
    · subst hx; simp
    · rw [beq_false_of_ne hx]; exact lookup_map2
/-- a name's kind in the block -/
def kin (env : Env) (x : Str) (k : NameKind) : NameKind := if (k == NameKind.free && env.scope.kind == .function && env.kindOf x == some .cell) = true then .cell else k
theorem relabel_lookup {env : Env} {x : Str} {names : List (Str × NameKind)} :
    (names.map fun (n, k) => if (k == NameKind.free && env.scope.kind == .function && env.kindOf n == some .cell) then (n, NameKind.cell) else (n, k)).lookup x = (names.lookup x).map (kin env x) := by
  rw [← lookup_map2 (f := kin env)]
  congr 1
  refine List.map_congr_left fun p _ => ?_
  obtain ⟨n, k⟩ := p
  show (if _ then _ else _) = (n, if _ then _ else _)
  split <;> rfl
theorem wpAny_compEnv {M : Model} {A : Around} {E : Value → Shared → Prop} {s : Shared} {scope : Scope} {globals : Addr} {cl : List (Str × Addr)} {qual : Str} {env : Env} {Q : Env → Shared → Prop}
    (h : Q { scope := scope, locals := s.heap.objs.size, globals := globals, cells := cellsFrom (s.heap.objs.size + 1) scope.names cl, qual := qual, func := none, code := env.code, frame := env.frame, builtins := env.builtins }
      { s with heap := pushCells (s.heap.push { cls := .type "dict", data := .dict #[] }) scope.names }) :
    wpAny M A (newFunctionEnv scope globals cl [] qual none .none (some env)) Q E s := by
  simp only [newFunctionEnv, Option.isSome_some, if_true]
  refine wpAny_bind (wpAny_alloc ?_)
  refine wpAny_bind (wpAny_layCells _ (fun name kind cells => by cases hkc : kind == NameKind.cell <;> simp [hkc]) _ _ _ _ ?_)
  rw [show ({ s with heap := s.heap.push { cls := .type "dict", data := .dict #[] } } : Shared).heap.objs.size = s.heap.objs.size + 1 from Heap.size_push ..]
  simp only [List.forIn_nil, pure_bind]
  exact wpAny_pure h
/-- what is done in a turn of clause d behind the tests -/
def insideOf (elt : Expr) (gens : List Comprehension) (scope : Scope) (pos : Pos) (d : Nat) (acc : Value) (env : Env) : Sem Unit :=
  match gens[d + 1]? with
  | some g' => do
    let x ← eval g'.iter env
    standAt g'.iter.pos
    let x ← if g'.is_async != 0 then foldedIterable g'.iter x else foldedSetIterable g'.iter env x
    let _ ← runOwn (.compStart (.ListComp elt gens scope pos) (d + 1) (← holding [x] (if g'.is_async != 0 then asyncIter x else pyIter x)) acc env) env
  | none => do let _ ← call (.builtin "list.append") [acc, ← eval elt env]
theorem compTurn_at (elt : Expr) (gens : List Comprehension) (scope : Scope) (pos : Pos) (d : Nat) (it acc : Value) (env : Env) {tg iter : Expr} {ifs : List Expr} (hg : gens[d]? = some ⟨tg, iter, ifs, 0⟩) :
    compTurn (.ListComp elt gens scope pos) d it acc env = (standAt iter.pos >>= fun _ => pyNext it >>= fun r => match r with
      | none => pure (.done .next)
      | some v => letOwnedTupleGo tg it v >>= fun _ => assign tg env v >>= fun _ =>
        (forIn ifs true fun c r => if r = true then do let ok ← isTrue c env (eval c env); pure (ForInStep.yield ok) else pure (ForInStep.yield r)) >>= fun ok =>
          (if ok = true then insideOf elt gens scope pos d acc env else pure ()) >>= fun _ => again (.compLoop (.ListComp elt gens scope pos) d it acc env)) := by
  unfold compTurn insideOf
  simp only [hg, show ((0 : Int) != 0) = false from rfl, Bool.false_eq_true, if_false]
  congr 1
  funext _
  congr 1
  funext r
  cases r with
  | none => rfl
  | some v =>
    dsimp only
    congr 1; funext _
    congr 1; funext _
    congr 1; funext ok
    cases ok with
    | false => simp
    | true =>
      simp only [if_true]
      cases gens[d + 1]? with
      | none => rfl
      | some g' =>
        by_cases ha : (g'.is_async != 0) = true
        · simp [ha, bind_assoc]
        · simp [ha, bind_assoc]
section
variable {prog : Program} {w : World} {A : Around} {R : Result → Shared → Prop} {s : Shared}
theorem compStart_at {elt : Expr} {gens : List Comprehension} {scope : Scope} {pos : Pos} {d : Nat} {it acc : Value} {env : Env} {tg iter : Expr} {ifs : List Expr} (hg : gens[d]? = some ⟨tg, iter, ifs, 0⟩)
    (h0 : codeAny (model prog w) A (.compLoop (.ListComp elt gens scope pos) d it acc env) R s)
    (h : wpAny (model prog w) A (pyIter it) (fun it' s' => codeAny (model prog w) A (.compLoop (.ListComp elt gens scope pos) d it' acc env) R s') (notedBy (model prog w) A env fun x s' => R (.error x) s') s) :
    codeAny (model prog w) A (.compStart (.ListComp elt gens scope pos) d it acc env) R s := by
  refine codeAny_of_tree ?_
  show wpAny _ _ ((compStart (.ListComp elt gens scope pos) d it acc env).onRaise (fun x => do noteFrame x env; standAt theWindowsPlace)) _ _ s
  refine wpAny_notedAt ?_
  unfold compStart
  have e : (clausesOf (.ListComp elt gens scope pos))[d]? = some ⟨tg, iter, ifs, 0⟩ := hg
  rw [e]
  show wpAny _ _ (ask >>= _) _ _ s
  refine wpAny_bind (wpAny_askSetting (wpAny_ite ?_))
  split
  · first
      | exact wpAny_bind (wpAny_pure (wpAny_pure (And.intro rfl h0)))
      | exact wpAny_pure (And.intro rfl h0)
  · first
      | exact wpAny_bind (wpAny_rule (wpAny_bind (wpAny_standAt (wpAny_bind (wpAny_mono h (fun it' s' h' => wpAny_pure (And.intro rfl h')) fun _ _ x => x)))))
      | (refine wpAny_bind (wpAny_rule ?_); show wpAny _ _ (standAt iter.pos >>= _) _ _ s; exact wpAny_bind (wpAny_standAt (wpAny_bind (wpAny_mono h (fun it' s' h' => wpAny_pure (And.intro rfl h')) fun _ _ x => x))))
end
end CT
set_option Elab.async false
set_option linter.all false
set_option maxRecDepth 100000
set_option maxHeartbeats 4000000
namespace CT
open PySem
/-- an iterator over a list (false) or a tuple (true) -/
def Sit (h : Heap) (b : Bool) (i a : Addr) (k : Nat) : Prop := match b with | true => h.IsTupleIter i a k | false => h.IsListIter i a k
def Ssq (h : Heap) (b : Bool) (a : Addr) (xs : Array Value) : Prop := match b with | true => h.IsTuple a xs | false => h.IsList a xs
theorem Sit.at {h h' : Heap} {b : Bool} {i a : Addr} {k : Nat} (x : Sit h b i a k) (e : ∀ o, h.get? i = some o → h'.get? i = some o) : Sit h' b i a k := by
  cases b with
  | true => obtain ⟨o, ho, r⟩ := x; exact ⟨o, e o ho, r⟩
  | false => exact Heap.IsListIter.at x e
theorem Ssq.at {h h' : Heap} {b : Bool} {a : Addr} {xs : Array Value} (x : Ssq h b a xs) (e : ∀ o, h.get? a = some o → h'.get? a = some o) : Ssq h' b a xs := by
  cases b with
  | true => obtain ⟨o, ho, r⟩ := x; exact ⟨o, e o ho, r⟩
  | false => exact Heap.IsList.at x e
section
variable {prog : Program} {w : World} {A : Around} {E : Value → Shared → Prop} {s : Shared}
/-! ### zip(..) -/
def itObj (b : Bool) (a : Addr) : Obj := { cls := .type (match b with | true => "tuple_iterator" | false => "list_iterator"), data := .fields #[.ref a, .int 0 0] }
theorem pyIterS {b : Bool} {a : Addr} {xs : Array Value} {Q : Value → Shared → Prop} (h : Ssq s.heap b a xs) (hQ : Q (.ref s.heap.objs.size) { s with heap := s.heap.push (itObj b a) }) : wpAny (model prog w) A (pyIter (.ref a)) Q E s := by
  cases b with
  | true => exact wpAny_pyIter_tuple h hQ
  | false => exact wpAny_pyIter_list h hQ
theorem Sit.new {h : Heap} (b : Bool) (a : Addr) : Sit (h.push (itObj b a)) b h.objs.size a 0 := by
  cases b with
  | true => exact ⟨_, Heap.get?_push_size _ rfl, rfl, rfl⟩
  | false => exact ⟨_, Heap.get?_push_size _ rfl, rfl, rfl⟩
end
end CT
set_option Elab.async false
set_option linter.all false
set_option maxRecDepth 100000
/-! (v,) * k -/
set_option Elab.async false
set_option linter.all false
set_option maxRecDepth 100000
/-! a list comprehension in the hand layer: one clause or several, tests, own cells, captured names -/
namespace CT
open PySem PySem.Spec L2
open PyProof.Rows hiding St
/-- the block's environment; n0: the heap's size when the iterator had come -/
def cEnv (X : Cx) (scope : Scope) (n0 : Nat) : Env :=
  { scope := relabel scope X.env, locals := n0 + 1, globals := X.env.globals, cells := cellsFrom (n0 + 2) scope.names (clOf X.env scope.names []), qual := X.env.qual, func := none, code := X.env.code, frame := X.env.frame, builtins := X.env.builtins }
/-- what the scope must be. own: the block's names; cap: the captured ones with their slots outside -/
structure CS (X : Cx) (scope : Scope) (own : List Str) (cap : List (Str × Nat)) : Prop where
  kind : scope.kind = .function
  nd : (scope.names.map (·.1)).Nodup
  fr : ∀ x ∈ scope.names, x.2 = .free → X.env.kindOf x.1 = some .cell ∨ X.env.kindOf x.1 = some .free
  own_ : ∀ x ∈ own, (x, NameKind.local) ∈ scope.names ∨ (x, NameKind.cell) ∈ scope.names
  cap_ : ∀ p ∈ cap, X.N[p.2]? = some p.1 ∧ (p.1, NameKind.free) ∈ scope.names
  nN : (own ++ cap.map (·.1)).Nodup
/-- the context of the block -/
def cX (X : Cx) (scope : Scope) (own : List Str) (cap : List (Str × Nat)) (pins : List (Addr × Obj)) (s₂ : Shared) (H₂ : Hp) (fp : List Addr) : Cx :=
  { prog := X.prog, w := X.w, K := X.K, mg := X.mg, base := X.base, A := X.A, N := own ++ cap.map (·.1), s₀ := s₂, H₀ := H₂, env := cEnv X scope s₂.heap.objs.size, outer := X.stack, stack := X.stack, ex := fp,
    fn := fun x => decide (x ∈ own), calm := X.calm, pn := X.pn ++ pins, xe := fun _ _ => False }
/-- the slots at the start -/
def cS (own : List Str) (cap : List (Str × Nat)) (σ : St) : St := own.map (fun _ => none) ++ cap.map fun p => (σ[p.2]?).join
section
variable {X : Cx} {scope : Scope} {own : List Str} {cap : List (Str × Nat)} {pins : List (Addr × Obj)} {σ : St} {H : Hp} {s : Shared} {fp : List Addr}
theorem CS.lk (cs : CS X scope own cap) {x : Str} {k : NameKind} (h : (x, k) ∈ scope.names) : scope.names.lookup x = some k := lookup_of_mem cs.nd h
theorem CS.uniq (cs : CS X scope own cap) {x : Str} {k k' : NameKind} (h : (x, k) ∈ scope.names) (h' : (x, k') ∈ scope.names) : k = k' := Option.some.inj ((cs.lk h).symm.trans (cs.lk h'))
theorem cEnv_lookup {n0 : Nat} {x : Str} : (cEnv X scope n0).scope.names.lookup x = (scope.names.lookup x).map (kin X.env x) := relabel_lookup
theorem cEnv_kindOf {n0 : Nat} {x : Str} : (cEnv X scope n0).kindOf x = (scope.names.lookup x).map (kin X.env x) := relabel_lookup
theorem cellsFrom_ge {x : Str} {c : Addr} : ∀ {names : List (Str × NameKind)} {n : Nat} {acc : List (Str × Addr)}, (x, c) ∈ cellsFrom n names acc → (x, c) ∈ acc ∨ n ≤ c
  | [], _, _, h => .inl h
  | (m, k) :: r, n, acc, h => by
    unfold cellsFrom at h
    split at h
    · rcases cellsFrom_ge h with h | h
      · rcases List.mem_cons.mp h with e | h
        · cases e; exact .inr (Nat.le_refl _)
        · exact .inl h
      · exact .inr (Nat.le_of_succ_le h)
    · exact cellsFrom_ge h
theorem CS.has_ (cs : CS X scope own cap) (ok : X.Ok) : ∀ x ∈ scope.names, x.2 = .free → ∃ c, X.env.cells.lookup x.1 = some c := fun x hx e => ok.has x.1 (cs.fr x hx e)
/-- the block's cells -/
theorem CS.cell_cases (cs : CS X scope own cap) (ok : X.Ok) {n0 : Nat} {x : Str} {c : Addr} (h : (cEnv X scope n0).cells.lookup x = some c) :
    ((x, NameKind.cell) ∈ scope.names ∧ n0 + 2 ≤ c ∧ (x, c) ∈ cellsFrom (n0 + 2) scope.names []) ∨ ((x, NameKind.free) ∈ scope.names ∧ X.env.cells.lookup x = some c) := by
  have hm : (x, c) ∈ cellsFrom (n0 + 2) scope.names (clOf X.env scope.names []) := mem_of_lookup h
  rw [cellsFrom_app] at hm
  rcases List.mem_append.mp hm with hm | hm
  · refine .inl ⟨?_, ?_, hm⟩
    · rcases cellsFrom_mem hm with z | z
      · cases z
      · exact z
    · rcases cellsFrom_ge hm with z | z
      · cases z
      · exact z
  · rcases clOf_mem (cs.has_ ok) hm with z | ⟨z1, z2⟩
    · cases z
    · exact .inr ⟨z2, z1⟩
theorem CS.cap_cell (cs : CS X scope own cap) (ok : X.Ok) {n0 : Nat} {x : Str} {c : Addr} (hx : (x, NameKind.free) ∈ scope.names) (hc : X.env.cells.lookup x = some c) : (cEnv X scope n0).cells.lookup x = some c := by
  have hm : (x, c) ∈ cellsFrom (n0 + 2) scope.names (clOf X.env scope.names []) := by
    rw [cellsFrom_app]
    exact List.mem_append_right _ (clOf_has hc hx)
  obtain ⟨u, hu⟩ := some_of_mem hm
  have hu' : (cEnv X scope n0).cells.lookup x = some u := hu
  rcases cs.cell_cases ok hu' with ⟨z, _⟩ | ⟨_, z⟩
  · cases cs.uniq hx z
  · rw [hc] at z; cases z; exact hu'
theorem CS.own_cell (cs : CS X scope own cap) {n0 : Nat} {x : Str} (hx : (x, NameKind.cell) ∈ scope.names) : ∃ c, (cEnv X scope n0).cells.lookup x = some c := by
  obtain ⟨c, hc⟩ := cellsFrom_has (n := n0 + 2) (acc := clOf X.env scope.names []) hx
  exact some_of_mem hc
theorem cX_ok (I : Inv X pins σ H s) (cs : CS X scope own cap) (hf : ∀ b ∈ fp, FpOk X pins H b) (hlt : ∀ b ∈ fp, b < s.heap.objs.size) : (cX X scope own cap pins s H fp).Ok where
  mod := I.ok.mod
  kind := cs.kind
  glob := I.ok.glob
  blt := I.ok.blt
  above := Nat.le_succ _
  inj := fun x y c h1 h2 => by
    rcases cs.cell_cases I.ok h1 with ⟨a1, a2, a3⟩ | ⟨a1, a2⟩ <;> rcases cs.cell_cases I.ok h2 with ⟨b1, b2, b3⟩ | ⟨b1, b2⟩
    · have k := cellsFrom_ok scope.names ((s.heap.push { cls := .type "list", data := .seq #[] 0 }).push { cls := .type "list", data := .seq #[] 0 }) 0 [] ⟨fun _ _ hm => (nomatch hm), List.Pairwise.nil⟩ (Nat.zero_le _)
      rw [Heap.size_push, Heap.size_push] at k
      exact name_of_addr k.apart a3 b3
    · obtain ⟨v, hv⟩ := I.cell y c b2
      exact absurd (Nat.lt_of_lt_of_le hv.lt (Nat.le_trans (Nat.le_add_right _ 2) a2)) (Nat.lt_irrefl _)
    · obtain ⟨v, hv⟩ := I.cell x c a2
      exact absurd (Nat.lt_of_lt_of_le hv.lt (Nat.le_trans (Nat.le_add_right _ 2) b2)) (Nat.lt_irrefl _)
    · exact I.ok.inj x y c a2 b2
  has := fun x hx => by
    have e : (cEnv X scope s.heap.objs.size).kindOf x = (scope.names.lookup x).map (kin X.env x) := cEnv_kindOf
    have hx' : (scope.names.lookup x).map (kin X.env x) = some .cell ∨ (scope.names.lookup x).map (kin X.env x) = some .free := by rw [← e]; exact hx
    cases hk : scope.names.lookup x with
    | none => rw [hk] at hx'; rcases hx' with z | z <;> cases z
    | some k =>
      rw [hk] at hx'
      have hm := mem_of_lookup hk
      by_cases hfree : k = .free
      · subst hfree
        obtain ⟨c, hc⟩ := cs.has_ I.ok _ hm rfl
        exact ⟨c, cs.cap_cell I.ok hm hc⟩
      · have hkk : kin X.env x k = k := by
          unfold kin
          rw [if_neg]
          intro z
          have : (k == NameKind.free) = false := by simpa using hfree
          rw [this] at z; cases z
        have hk' : k = .cell := by
          rcases hx' with z | z
          · have z' : some (kin X.env x k) = some NameKind.cell := z
            rw [hkk] at z'; exact Option.some.inj z'
          · have z' : some (kin X.env x k) = some NameKind.free := z
            rw [hkk] at z'; exact absurd (Option.some.inj z') hfree
        subst hk'
        exact cs.own_cell hm
  cab := fun x c hx hc => by
    have hx' : x ∈ own := of_decide_eq_true hx
    rcases cs.cell_cases I.ok hc with ⟨_, a, _⟩ | ⟨a, _⟩
    · exact Nat.le_trans (Nat.le_add_right _ 2) a
    · rcases cs.own_ x hx' with z | z <;> cases cs.uniq a z
  hd := I.ok.hd
  frames := I.ok.frames
  stk := .inl rfl
  exf := fun b hb => ⟨Nat.ne_of_lt (Nat.lt_succ_of_lt (hlt b hb)), fun x c hc => by
    rcases cs.cell_cases I.ok hc with ⟨_, a, _⟩ | ⟨_, a⟩
    · exact Nat.ne_of_gt (Nat.lt_of_lt_of_le (hlt b hb) (Nat.le_trans (Nat.le_add_right _ 2) a))
    · exact (hf b hb).2.2.2.2.1 x c a⟩
  bs := fun b o e => I.bs b o e
  bsz := Nat.le_trans I.ok.bsz I.sz
  noex := fun b o e hb => by
    rcases (hf b hb).2.2.2.1 with z | z
    · exact I.ok.noex b o e z
    · exact absurd (Nat.lt_of_lt_of_le (Heap.lt_size e) (Nat.le_trans I.ok.bsz z)) (Nat.lt_irrefl _)
  exfs := fun b hb z => by
    rcases List.mem_cons.mp (I.stkSub b z) with z | z
    · exact (hf b hb).2.1 z
    · exact (hf b hb).2.2.1 z
  funs := I.stack
  frf := I.stkFree
theorem kin_free {env : Env} {x : Str} (h : env.kindOf x = some .cell ∨ env.kindOf x = some .free) : kin env x .free = .cell ∨ kin env x .free = .free := by
  unfold kin; split
  · exact .inl rfl
  · exact .inr rfl
/-- the block begins -/
theorem cX_start (I : Inv X pins σ H s) (cs : CS X scope own cap) (hf : ∀ b ∈ fp, FpOk X pins H b) (hlt : ∀ b ∈ fp, b < s.heap.objs.size) {o : Obj} (hof : o.isFreed = false) :
    Inv (cX X scope own cap pins s H fp) [] (cS own cap σ) H { s with heap := pushCells ((s.heap.push o).push { cls := .type "dict", data := .dict #[] }) scope.names } := by
  have kp : ∀ b u, s.heap.get? b = some u → (pushCells ((s.heap.push o).push { cls := .type "dict", data := .dict #[] }) scope.names).get? b = some u := fun b u e => pushCells_keeps _ _ b u (Heap.get?_push_of_some _ (Heap.get?_push_of_some _ e))
  have ck := cellsFrom_ok scope.names ((s.heap.push o).push { cls := .type "dict", data := .dict #[] }) 0 [] ⟨fun _ _ hm => (nomatch hm), List.Pairwise.nil⟩ (Nat.zero_le _)
  rw [Heap.size_push, Heap.size_push] at ck
  refine ⟨cX_ok I cs hf hlt, rfl, I.bare, Un.kept kp, ?_, ?_, I.hok.fresh (Nat.le_succ _), ?_, ?_, I.hok.kept kp, ?_⟩
  · refine ⟨fun _ => none, ?_, fun i x v e1 e2 e3 => ?_⟩
    · have n := Heap.Ns.new (s.heap.push o) (.type "dict")
      rw [Heap.size_push] at n
      exact n.keeps (pushCells_keeps _ _)
    · have e1' : (own ++ cap.map (·.1))[i]? = some x := e1
      have e2' : (own.map (fun _ => (none : Option V)) ++ cap.map fun p => (σ[p.2]?).join)[i]? = some (some v) := e2
      by_cases hi : i < own.length
      · rw [List.getElem?_append_left (by simpa using hi), List.getElem?_map] at e2'
        cases hq : own[i]? with
        | none => rw [hq] at e2'; cases e2'
        | some y => rw [hq] at e2'; cases e2'
      · have hi' : own.length ≤ i := Nat.le_of_not_lt hi
        rw [List.getElem?_append_right hi', List.getElem?_map] at e1'
        rw [List.getElem?_append_right (by simpa using hi'), List.getElem?_map, List.length_map] at e2'
        cases hq : cap[i - own.length]? with
        | none => rw [hq] at e1'; cases e1'
        | some p =>
          rw [hq] at e1' e2'
          have e1'' : p.1 = x := Option.some.inj e1'
          have e2'' : (σ[p.2]?).join = some v := Option.some.inj e2'
          subst e1''
          have e2s : σ[p.2]? = some (some v) := by
            cases hs : σ[p.2]? with
            | none => rw [hs] at e2''; cases e2''
            | some y => rw [hs] at e2''; rw [show y = some v from e2'']
          obtain ⟨hN, hfree⟩ := cs.cap_ p (List.mem_of_getElem? hq)
          have hkk := cs.fr _ hfree rfl
          have vis : Vis X.env.scope p.1 := hkk.elim (fun z => .inr (.inl z)) fun z => .inr (.inr z)
          obtain ⟨m, hn, hl⟩ := I.loc
          obtain ⟨u, r, l⟩ := hl p.2 p.1 v hN e2s vis
          refine ⟨u, r, .inr ⟨?_, ?_⟩⟩
          · have e : (cEnv X scope s.heap.objs.size).kindOf p.1 = (scope.names.lookup p.1).map (kin X.env p.1) := cEnv_kindOf
            rw [cs.lk hfree] at e
            rcases kin_free hkk with z | z
            · exact .inl (e.trans (congrArg some z))
            · exact .inr (e.trans (congrArg some z))
          · rcases l with ⟨lk, _⟩ | ⟨_, c, hc, hcell⟩
            · rcases hkk with z | z <;> (rw [z] at lk; cases lk)
            · exact ⟨c, cs.cap_cell I.ok hfree hc, hcell.keeps kp⟩
  · intro x c hc
    rcases cs.cell_cases I.ok hc with ⟨_, _, a⟩ | ⟨_, a⟩
    · exact ⟨_, (ck.empty x c a).1⟩
    · obtain ⟨v, hv⟩ := I.cell x c a
      exact ⟨v, hv.keeps kp⟩
  · intro x c hc
    rcases cs.cell_cases I.ok hc with ⟨_, a, _⟩ | ⟨_, a⟩
    · exact I.hok.fresh (Nat.le_trans (Nat.le_add_right _ 2) a)
    · exact I.freeC x c a
  · intro p hp
    have hp' : p ∈ X.pn ++ pins := by simpa [cX] using hp
    obtain ⟨e, n, ne, nf, d⟩ := I.pin p hp'
    refine ⟨kp _ _ e, n, Nat.ne_of_lt (Nat.lt_succ_of_lt (Heap.lt_size e)), fun z => ?_, d⟩
    rcases List.mem_cons.mp (I.stkSub p.1 z) with z | z
    · exact ne z
    · exact nf z
  · simp [cX, cS]
/-! ### what is gathered -/
/-- the list that is built: untracked, ours -/
def Acc (h : Heap) (acc : Addr) (ys : List V) : Prop := ∃ its : List Value, Vals ys its ∧ h.PlainList acc its.toArray
theorem Acc.at {h h' : Heap} {acc : Addr} {ys : List V} (x : Acc h acc ys) (k : ∀ o, h.get? acc = some o → h'.get? acc = some o) : Acc h' acc ys := let ⟨its, r, p⟩ := x; ⟨its, r, p.at k⟩
theorem Acc.obj {h : Heap} {acc : Addr} {ys : List V} (x : Acc h acc ys) : ∃ o, h.get? acc = some o ∧ ∀ v, o.data ≠ .cell v := by
  obtain ⟨its, r, n, e⟩ := x
  exact ⟨_, e, fun v z => by
    have z' : Data.seq _ _ = Data.cell v := z
    cases z'⟩
end
/-- the inside of a turn: from what was gathered to what is gathered then -/
abbrev TB := St → Hp → List V → (List V → Hp → Prop) → Prop
def PB (Y : Cx) (acc : Addr) (m : Sem Unit) (t : TB) : Prop :=
  ∀ (pins : List (Addr × Obj)) (s : Shared) (σ : St) (H : Hp) (ys : List V) (Q : List V → Hp → Prop), Inv Y pins σ H s → FpOk Y pins H acc → Acc s.heap acc ys → t σ H ys Q →
    wpAny (model Y.prog Y.w) Y.A m (fun _ s' => ∃ ys' H', Inv Y pins σ H' s' ∧ H' acc = none ∧ Acc s'.heap acc ys' ∧ Q ys' H') Y.xe s
/-- the tests of a clause -/
def PTs (Y : Cx) (ifs : List Expr) (t : TT) : Prop :=
  ∀ (pins : List (Addr × Obj)) (s : Shared) (σ : St) (H : Hp) (Q : Bool → Hp → Prop), Inv Y pins σ H s → t σ H Q →
    wpAny (model Y.prog Y.w) Y.A (forIn ifs true fun c r => if r = true then do let ok ← isTrue c Y.env (eval c Y.env); pure (ForInStep.yield ok) else pure (ForInStep.yield r)) (TP Y pins σ Q) Y.xe s
def tTrue : TT := fun _ H Q => Q true H
theorem mem1 {P : Addr → Prop} {a : Addr} (h : P a) : ∀ b ∈ [a], P b := fun b hb => by
  have e : b = a := by simpa using hb
  rw [e]; exact h
section
variable {Y : Cx} {acc : Addr}
theorem pts_nil : PTs Y [] tTrue := fun _ _ _ H _ I h => wpAny_pure ⟨H, I, h⟩
def tEmit (te : TE) : TB := fun σ H ys Q => ys.length ≤ sizeLine ∧ te σ H fun v H1 => Q (ys ++ [v]) H1
theorem pb_emit {elt : Expr} {te : TE} (he : PE Y elt te) : PB Y acc (do let _ ← call (.builtin "list.append") [.ref acc, ← eval elt Y.env]) (tEmit te) := by
  intro pins s σ H ys Q I hf ha h
  obtain ⟨hz, h⟩ := h
  have I1 := I.pinned (fp := [acc]) (mem1 hf) (mem1 ha.obj)
  refine wpAny_bind (thn (he _ s σ H _ I1 h) fun u s1 ⟨v, H1, I2, r, q⟩ => ?_)
  obtain ⟨o, eo, _⟩ := ha.obj
  have pin := I2.pin (acc, o) (List.mem_append_right _ (List.mem_append_right _ (mem_pinsAt (by simp) eo)))
  have ha1 : Acc s1.heap acc ys := ha.at fun o' e' => by rw [eo] at e'; cases e'; exact pin.1
  obtain ⟨its, rv, pl⟩ := ha1
  obtain ⟨f0, f1, f2, f3, f4, f5⟩ := hf
  refine wpAny_bind (wpAny_list_append_plain pl (fun h' pl' sb => wpAny_pure ?_) ?_)
  · have I3 : Inv Y pins σ H1 { s1 with heap := h' } := I2.unpinned.turned (t' := s1.toks) (fun b o hb e => (sb.2 b hb).trans e) pin.2.1 f1 f3 f4 f5
    exact ⟨ys ++ [v], H1, I3, pin.2.1, ⟨its ++ [u], rv.append (.cons r .nil), by simpa using pl'⟩, q⟩
  · have := rv.length
    simp only [List.size_toArray]
    omega
/-! ### the loop -/
/-- nothing known is lost -/
def Fgt (σ σ' : St) : Prop := σ.length = σ'.length ∧ ∀ (i : Nat) v, σ[i]? = some (some v) → σ'[i]? = some (some v)
theorem Fgt.refl {σ : St} : Fgt σ σ := ⟨rfl, fun _ _ e => e⟩
theorem Fgt.set {σ σ' : St} {i : Nat} {v : V} (f : Fgt σ σ') (h : σ[i]? = some none) : Fgt σ (σ'.set i (some v)) := ⟨by simpa using f.1, fun j u e => by
  by_cases hj : i = j
  · subst hj; rw [h] at e; cases e
  · rw [List.getElem?_set_ne hj]; exact f.2 j u e⟩
def tLoop (g : TG) (tt : TT) (tb : TB) (J : It) (σ : St) (H : Hp) (ys : List V) (Q : List V → Hp → Prop) : Prop :=
  ∃ W : Nat → Nat → List V → Hp → Prop, (∃ m, W 0 m ys H) ∧ ∀ i m ys H, W i m ys H →
    (J.stop i H ∧ Q ys H) ∨ (J.go i H ∧ ∀ x H', J.yld i H x H' → g x σ H' fun σ2 H2 => Fgt σ σ2 ∧ tt σ2 H2 fun b H3 =>
      if b = true then tb σ2 H3 ys fun ys' H4 => ∃ m', m' < m ∧ W (i + 1) m' ys' H4 else ∃ m', m' < m ∧ W (i + 1) m' ys H3)
/-- the loop of clause d -/
theorem comp_loop {elt : Expr} {gens : List Comprehension} {scope : Scope} {pos : Pos} {d : Nat} {tg iter : Expr} {ifs : List Expr} (hg : gens[d]? = some ⟨tg, iter, ifs, 0⟩) {g : TG} {tt : TT} {tb : TB} (hc : Y.calm = true) (hx : ∀ e s, Y.xe e s → False)
    (h1 : PG Y tg g) (h2 : PTs Y ifs tt) (h3 : PB Y acc (insideOf elt gens scope pos d (.ref acc) Y.env) tb)
    {J : It} {fp : List Addr} {it : Addr} {tn : Nat → Heap → Prop} (T : Turn Y.prog Y.w Y.K tg J fp it tn) (hac : acc ∉ fp)
    {pins : List (Addr × Obj)} {s : Shared} {σ : St} {H : Hp} {ys : List V} {Q : List V → Hp → Prop} {R : Result → Shared → Prop} (I : Inv Y pins σ H s) (st : tn 0 s.heap) (hf : ∀ b ∈ fp, FpOk Y pins H b) (ha : FpOk Y pins H acc) (ac : Acc s.heap acc ys)
    (h : tLoop g tt tb J σ H ys Q) (hR : ∀ s' ys' H', Inv Y pins σ H' s' → H' acc = none → Acc s'.heap acc ys' → Q ys' H' → R (.ok .next) s') :
    codeAny (model Y.prog Y.w) Y.A (.compLoop (.ListComp elt gens scope pos) d (.ref it) (.ref acc) Y.env) R s := by
  obtain ⟨W, ⟨m0, w0⟩, turn⟩ := h
  have stat : ∀ {H' : Hp}, (∀ b ∈ fp, H' b = none) → ∀ b ∈ fp, FpOk Y pins H' b := fun hn b hb => ⟨hn b hb, (hf b hb).2⟩
  have nox : ∀ {E : Value → Shared → Prop} {α : Type} {m : Sem α} {P : α → Shared → Prop} {s : Shared}, wpAny (model Y.prog Y.w) Y.A m P Y.xe s → wpAny (model Y.prog Y.w) Y.A m P E s := fun h => wpAny_mono h (fun _ _ q => q) fun _ _ z => (hx _ _ z).elim
  refine codeAny_loop rfl (fun n s' => ∃ i H' ys', Inv Y pins σ H' s' ∧ tn i s'.heap ∧ (∀ b ∈ fp, H' b = none) ∧ H' acc = none ∧ Acc s'.heap acc ys' ∧ W i n ys' H') ?_ m0 ⟨0, H, ys, I, st, fun b hb => (hf b hb).1, ha.1, ac, w0⟩
  rintro n s3 ⟨i, H3, ys3, I3, st3, fr3, an3, ac3, w3⟩
  show wpAny _ _ ((compTurn (.ListComp elt gens scope pos) d (.ref it) (.ref acc) Y.env).onRaise (fun x => do noteFrame x Y.env; theTreesLotGoes x)) _ _ s3
  refine wpAny_noted ?_
  rw [compTurn_at elt gens scope pos d (.ref it) (.ref acc) Y.env hg]
  refine wpAny_bind (wpAny_standAt (wpAny_bind ?_))
  -- the list that is built is pinned while the iterator turns, the target is set and the tests run
  obtain ⟨oa, ea, da⟩ := ac3.obj
  have fa3 : FpOk Y pins H3 acc := ⟨an3, ha.2⟩
  have J3 : Inv Y (pins ++ pinsAt [acc] s3.heap) σ H3 s3 := I3.pinned (fp := [acc]) (mem1 fa3) (mem1 ac3.obj)
  have inpa : (acc, oa) ∈ pinsAt [acc] s3.heap := mem_pinsAt (by simp) ea
  have stat' : ∀ {H' : Hp}, (∀ b ∈ fp, H' b = none) → ∀ b ∈ fp, FpOk Y (pins ++ pinsAt [acc] s3.heap) H' b := fun hn b hb => by
    obtain ⟨f0, f1, f2, f3, f4, f5⟩ := stat hn b hb
    refine ⟨f0, f1, f2, f3, f4, fun p hp z => ?_⟩
    rw [← List.append_assoc] at hp
    rcases List.mem_append.mp hp with hp | hp
    · exact f5 p hp z
    · have e : p.1 = acc := by simpa using (of_pinsAt hp).1
      exact hac (by rw [← e, z]; exact hb)
  rcases turn i n ys3 H3 w3 with ⟨stop, qn⟩ | ⟨go, step⟩
  · refine thn (T.done Y rfl rfl rfl hc i _ s3 σ H3 _ J3 (stat' fr3) st3 stop) fun r s4 ⟨hr, I4⟩ => ?_
    subst hr
    refine wpAny_pure ?_
    have p4 := I4.pin (acc, oa) (List.mem_append_right _ (List.mem_append_right _ inpa))
    exact hR s4 ys3 H3 I4.unpinned an3 (ac3.at fun o e => by rw [ea] at e; cases e; exact p4.1) qn
  · refine thn (T.item Y rfl rfl rfl hc i _ s3 σ H3 _ J3 (stat' fr3) st3 go) fun r s4 ⟨u, hr, h4⟩ => ?_
    subst hr
    refine wpAny_bind (thn h4 fun _ s5 ⟨x, H5, I5, r5, y5, st5, fr5⟩ => ?_)
    have I5' := I5.pinned (stat' fr5) (T.obj _ _ st5)
    refine wpAny_bind (nox (thn (h1 _ s5 σ H5 x u _ I5' r5 (step x H5 y5)) fun _ s6 ⟨σ6, H6, I6, fg, q6⟩ => ?_))
    refine wpAny_bind (nox (thn (h2 _ s6 σ6 H6 _ I6 q6) fun ok s7 ⟨H7, I7, q7⟩ => ?_))
    have p7 := I7.pin (acc, oa) (List.mem_append_right _ (List.mem_append_left _ (List.mem_append_right _ inpa)))
    have ac7 : Acc s7.heap acc ys3 := ac3.at fun o e => by rw [ea] at e; cases e; exact p7.1
    have I7' : Inv Y (pins ++ pinsAt fp s5.heap) σ6 H7 s7 := I7.pins_of fun p hp => I7.pin p (List.mem_append_right _ ((List.mem_append.mp hp).elim (fun z => List.mem_append_left _ (List.mem_append_left _ z)) fun z => List.mem_append_right _ z))
    have again' : ∀ {s8 : Shared} {H8 : Hp} {ys8 : List V}, Inv Y (pins ++ pinsAt fp s5.heap) σ6 H8 s8 → H8 acc = none → Acc s8.heap acc ys8 → (∃ m', m' < n ∧ W (i + 1) m' ys8 H8) →
        ∃ m, m < n ∧ ∃ i H' ys', Inv Y pins σ H' s8 ∧ tn i s8.heap ∧ (∀ b ∈ fp, H' b = none) ∧ H' acc = none ∧ Acc s8.heap acc ys' ∧ W i m ys' H' := fun {s8 H8 ys8} I8 an8 ac8 ⟨m', hm, w8⟩ => by
      refine ⟨m', hm, i + 1, H8, ys8, I8.unpinned.weak fg.1 fg.2, T.keep _ _ _ st5 fun b hb o e => (I8.pin (b, o) (List.mem_append_right _ (List.mem_append_right _ (mem_pinsAt hb e)))).1, fun b hb => ?_, an8, ac8, w8⟩
      obtain ⟨o, e, _⟩ := T.obj _ _ st5 b hb
      exact (I8.pin (b, o) (List.mem_append_right _ (List.mem_append_right _ (mem_pinsAt hb e)))).2.1
    cases ok with
    | false =>
      rw [if_neg Bool.false_ne_true] at q7 ⊢
      exact wpAny_bind (wpAny_pure (wpAny_pure ⟨rfl, again' I7' p7.2.1 ac7 q7⟩))
    | true =>
      rw [if_pos rfl] at q7 ⊢
      have fa7 : FpOk Y (pins ++ pinsAt fp s5.heap) H7 acc := by
        obtain ⟨_, f1, f2, f3, f4, f5⟩ := ha
        refine ⟨p7.2.1, f1, f2, f3, f4, fun p hp z => ?_⟩
        rw [← List.append_assoc] at hp
        rcases List.mem_append.mp hp with hp | hp
        · exact f5 p hp z
        · exact hac (by rw [← z]; exact (of_pinsAt hp).1)
      exact wpAny_bind (nox (thn (h3 _ s7 σ6 H7 ys3 _ I7' fa7 ac7 q7) fun _ s8 ⟨ys8, H8, I8, an8, ac8, q8⟩ => wpAny_pure ⟨rfl, again' I8 an8 ac8 q8⟩))
end
/-! ### the whole -/
section
variable {X : Cx} {scope : Scope} {own : List Str} {cap : List (Str × Nat)} {pins : List (Addr × Obj)} {σ : St} {H H' : Hp} {s s' : Shared} {fp : List Addr} {acc : Addr} {ys : List V}
/-- behind the block: the list is tracked -/
theorem comp_end {σ' : St} (I : Inv X pins σ H s) (hf : ∀ b ∈ fp, FpOk X pins H b) (I' : Inv (cX X scope own cap pins s H fp) [] σ' H' s') (hacc : s.heap.objs.size ≤ acc) (han : H' acc = none) (hac : Acc s'.heap acc ys) (hz : ys.length ≤ sizeLine) :
    Inv X pins σ (upd H' acc (.lst ys)) s' := by
  have nacc : ∀ b o, s.heap.get? b = some o → b ≠ acc := fun b o e => Nat.ne_of_lt (Nat.lt_of_lt_of_le (Heap.lt_size e) hacc)
  have u : Un (frs X.stack) fp H H' s.heap s'.heap := I'.base
  refine I.call' (ch := fp) I'.os ⟨u.keep, u.slot, fun b o e n hx => ?_, u.there, fun b xs e => ?_, fun b o v e => ?_, fun b ps e => ?_⟩ (fun b o e => ?_) I'.bare fun b hb => ?_
  · rw [upd_ne (nacc b o e)]; exact u.free b o e n hx
  · have := u.tups b xs e
    rw [upd_ne (ne_of_none this han)]; exact this
  · have := u.frzs b o v e
    rw [upd_ne (ne_of_none this han)]; exact this
  · obtain ⟨more, this⟩ := u.tbls b ps e
    exact ⟨more, by rw [upd_ne (ne_of_none this han)]; exact this⟩
  · by_cases hb : b = acc
    · subst hb
      rw [upd_same] at e; cases e
      obtain ⟨its, r, n, pl⟩ := hac
      exact ⟨hz, its, n, r, pl⟩
    · rw [upd_ne hb] at e
      exact (I'.hok b o e).stay (fun _ _ _ q => q) (fun c q => by rw [upd_ne (ne_of_none q han)]; exact q) fun c xs q => by rw [upd_ne (ne_of_none q han)]; exact q
  · obtain ⟨f0, f1, f2, f3, f4, f5⟩ := hf b hb
    exact ⟨f3, f1, f4, f5⟩
/-- the block, from the iterator on; Q: what is wanted of the list behind it -/
theorem comp_core {elt tg iter : Expr} {ifs : List Expr} {rest : List Comprehension} {pos : Pos} {g : TG} {tt : TT} {tb : TB} (cs : CS X scope own cap) (hc : X.calm = true)
    (h1 : ∀ pins s₂ H₂ fp, PG (cX X scope own cap pins s₂ H₂ fp) tg g) (h2 : ∀ pins s₂ H₂ fp, PTs (cX X scope own cap pins s₂ H₂ fp) ifs tt)
    (h3 : ∀ pins s₂ H₂ fp acc, PB (cX X scope own cap pins s₂ H₂ fp) acc (insideOf elt (⟨tg, iter, ifs, 0⟩ :: rest) scope pos 0 (.ref acc) (cEnv X scope s₂.heap.objs.size)) tb)
    {J : It} {it : Addr} {tn : Nat → Heap → Prop} (T : Turn X.prog X.w X.K tg J fp it tn) (I : Inv X pins σ H s) (st : tn 0 s.heap) (hf : ∀ b ∈ fp, FpOk X pins H b)
    {Q : VK} (h : tLoop g tt tb J (cS own cap σ) H [] fun ys H2 => ys.length ≤ sizeLine ∧ ∀ a, H2 a = none → Q (.ref a) (upd H2 a (.lst ys))) {RR : Value → Addr → Result → Shared → Prop} {E : Value → Shared → Prop}
    (hR : ∀ acc C s' H' m, s.heap.objs.size ≤ C → Inv X pins σ H' s' → H' C = none → s'.heap.Ns C m → Q (.ref acc) H' → RR (.ref acc) C (.ok .next) s') :
    wpAny (model X.prog X.w) X.A (newList []) (fun acc s₃ => wpAny (model X.prog X.w) X.A (newFunctionEnv scope X.env.globals (clOf X.env scope.names []) [] X.env.qual none .none (some X.env)) (fun cenv s₄ =>
      codeAny (model X.prog X.w) X.A (.compStart (.ListComp elt (⟨tg, iter, ifs, 0⟩ :: rest) scope pos) 0 (.ref it) acc { cenv with scope := relabel scope X.env }) (RR acc cenv.locals) s₄) E s₃) E s := by
  have hlt : ∀ b ∈ fp, b < s.heap.objs.size := fun b hb => by
    obtain ⟨o, e, _⟩ := T.obj _ _ st b hb
    exact Heap.lt_size e
  refine wpAny_newObj_type (wpAny_compEnv ?_)
  have e1 : (s.heap.push { cls := .type "list", dict := none, data := .seq ([] : List Value).toArray }).objs.size = s.heap.objs.size + 1 := Heap.size_push ..
  have I1 := cX_start I cs hf hlt (o := { cls := .type "list", dict := none, data := .seq ([] : List Value).toArray }) rfl
  have kp : ∀ b u, s.heap.get? b = some u → (pushCells ((s.heap.push { cls := .type "list", dict := none, data := .seq ([] : List Value).toArray }).push { cls := .type "dict", data := .dict #[] }) scope.names).get? b = some u :=
    fun b u e => pushCells_keeps _ _ b u (Heap.get?_push_of_some _ (Heap.get?_push_of_some _ e))
  have st1 := T.keep _ _ _ st fun b _ o e => kp b o e
  have ac1 : Acc (pushCells ((s.heap.push { cls := .type "list", dict := none, data := .seq ([] : List Value).toArray }).push { cls := .type "dict", data := .dict #[] }) scope.names) s.heap.objs.size [] :=
    ⟨[], .nil, _, pushCells_keeps _ _ _ _ (Heap.get?_push_of_some _ (Heap.get?_push_size _ rfl))⟩
  dsimp only
  rw [e1]
  have hac : s.heap.objs.size ∉ fp := fun z => Nat.lt_irrefl _ (hlt _ z)
  have fa : FpOk (cX X scope own cap pins s H fp) [] H s.heap.objs.size := by
    refine ⟨I.hok.fresh (Nat.le_refl _), Nat.ne_of_lt (Nat.lt_succ_self _), fun z => ?_, .inr (Nat.le_refl _), fun x c e z => ?_, fun p hp z => ?_⟩
    · rcases List.mem_cons.mp (I.stkSub _ z) with z | z
      · exact absurd I.lt (by rw [← z]; exact Nat.lt_irrefl _)
      · exact I.nofs (Nat.le_refl _) z
    · rcases cs.cell_cases I.ok e with ⟨_, a, _⟩ | ⟨_, a⟩
      · rw [z] at a; omega
      · obtain ⟨v, q⟩ := I.cell x c a
        exact absurd q.lt (by rw [z]; exact Nat.lt_irrefl _)
    · have hp' : p ∈ X.pn ++ pins := by simpa [cX] using hp
      exact absurd (Heap.lt_size (I.pin p hp').1) (by rw [z]; exact Nat.lt_irrefl _)
  have ff : ∀ b ∈ fp, FpOk (cX X scope own cap pins s H fp) [] H b := fun b hb => by
    obtain ⟨f0, f1, f2, f3, f4, f5⟩ := hf b hb
    refine ⟨f0, Nat.ne_of_lt (Nat.lt_succ_of_lt (hlt b hb)), fun z => ?_, .inl hb, fun x c e => ?_, fun p hp => ?_⟩
    · rcases List.mem_cons.mp (I.stkSub _ z) with z | z
      · exact f1 z
      · exact f2 z
    · rcases cs.cell_cases I.ok e with ⟨_, a, _⟩ | ⟨_, a⟩
      · exact Nat.ne_of_gt (Nat.lt_of_lt_of_le (hlt b hb) (Nat.le_trans (Nat.le_add_right _ 2) a))
      · exact f4 x c a
    · have hp' : p ∈ X.pn ++ pins := by simpa [cX] using hp
      exact f5 p hp'
  have fin : ∀ s' ys' H', Inv (cX X scope own cap pins s H fp) [] (cS own cap σ) H' s' → H' s.heap.objs.size = none → Acc s'.heap s.heap.objs.size ys' → (ys'.length ≤ sizeLine ∧ ∀ a, H' a = none → Q (.ref a) (upd H' a (.lst ys'))) →
      RR (.ref s.heap.objs.size) (s.heap.objs.size + 1) (.ok .next) s' := fun s' ys' H' I' an' ac' q' => by
    have I2 := comp_end I hf I' (Nat.le_refl _) an' ac' q'.1
    obtain ⟨m, hn, _⟩ := I'.loc
    refine hR _ _ s' _ m (Nat.le_succ _) I2 ?_ hn (q'.2 _ an')
    rw [upd_ne (Nat.ne_of_gt (Nat.lt_succ_self _))]
    exact I'.free
  have lp : ∀ s₄ : Shared, s₄ = { s with heap := pushCells ((s.heap.push { cls := .type "list", dict := none, data := .seq ([] : List Value).toArray }).push { cls := .type "dict", data := .dict #[] }) scope.names } →
      codeAny (model X.prog X.w) X.A (.compLoop (.ListComp elt (⟨tg, iter, ifs, 0⟩ :: rest) scope pos) 0 (.ref it) (.ref s.heap.objs.size) (cEnv X scope s.heap.objs.size)) (RR (.ref s.heap.objs.size) (s.heap.objs.size + 1)) s₄ := by
    rintro s₄ rfl
    exact comp_loop (Y := cX X scope own cap pins s H fp) (d := 0) rfl hc (fun _ _ z => z) (h1 pins s H fp) (h2 pins s H fp) (h3 pins s H fp s.heap.objs.size) T hac I1 st1 ff fa ac1 h fin
  exact compStart_at (d := 0) rfl (lp _ rfl) (T.self _ 0 _ _ _ st1 (lp _ rfl))
/-- a comprehension's reading -/
def tComp (own : List Str) (cap : List (Str × Nat)) (wi : TI) (g : TG) (tt : TT) (tb : TB) : TE := fun σ H Q => wi σ H fun J H1 => tLoop g tt tb J (cS own cap σ) H1 [] fun ys H2 => ys.length ≤ sizeLine ∧ ∀ a, H2 a = none → Q (.ref a) (upd H2 a (.lst ys))
variable {elt tg iter : Expr} {ifs : List Expr} {rest : List Comprehension} {pos : Pos} {wi : TI} {g : TG} {tt : TT} {tb : TB}
theorem CS.names (cs : CS X scope own cap) : ∀ x ∈ scope.names, x.2 = .local → scope.names.lookup x.1 = some .local := fun x hx e => cs.lk (by rw [← e]; exact hx)
theorem Inv.letgo {pins : List (Addr × Obj)} {σ σ' : St} {H H' : Hp} {s s' : Shared} {C : Addr} {h' : Heap} (I : Inv X pins σ H s) (I' : Inv X pins σ' H' s') (hC : s.heap.objs.size ≤ C) (hn : H' C = none) (hs : Heap.SameBut C s'.heap h') : Inv X pins σ' H' { s' with heap := h' } := by
  obtain ⟨f0, f1, f2, f3, f4, f5⟩ := I.fpOk hC hn
  exact I'.turned (t' := s'.toks) (fun b o hb e => (hs.2 b hb).trans e) f0 f1 f3 f4 f5
theorem pe_comp (cs : CS X scope own cap) (hc : X.calm = true) (hi : PI X tg iter wi) (h1 : ∀ pins s₂ H₂ fp, PG (cX X scope own cap pins s₂ H₂ fp) tg g) (h2 : ∀ pins s₂ H₂ fp, PTs (cX X scope own cap pins s₂ H₂ fp) ifs tt)
    (h3 : ∀ pins s₂ H₂ fp acc, PB (cX X scope own cap pins s₂ H₂ fp) acc (insideOf elt (⟨tg, iter, ifs, 0⟩ :: rest) scope pos 0 (.ref acc) (cEnv X scope s₂.heap.objs.size)) tb)
    (hs : ∀ x, foldedSetIterable iter X.env x = pure x := by intro _; rfl) : PE X (.ListComp elt (⟨tg, iter, ifs, 0⟩ :: rest) scope pos) (tComp own cap wi g tt tb) := by
  intro pins s σ H Q I h
  rw [eval_ListComp]
  refine wpAny_comprehension_free (use := none) rfl hs (closureFor_eq (cs.has_ I.ok)) cs.kind cs.names ?_
  refine thn (hi pins s σ H _ I h) fun x s1 h1' => thn h1' fun itv s2 h2' => ?_
  obtain ⟨it, fp, tn, J, H2, e, I2, T, st2, f2, lp⟩ := h2'
  subst e
  refine comp_core (RR := fun acc C => compPost (model X.prog X.w) X.A X.xe none (EP X pins σ Q) acc C) cs hc h1 h2 h3 T I2 st2 f2 lp ?_
  intro acc C s' H' m hC I' hn hns q
  exact ⟨m, hns, fun h' hs' => ⟨.ref acc, H', CT.Inv.letgo I2 I' hC hn hs', rfl, q⟩⟩
/-- name = [..], where the name is set ahead of the letting go -/
theorem ps_comp {i : Nat} {x : Str} {pos' spos : Pos} (cs : CS X scope own cap) (hc : X.calm = true) (hN : X.N.Nodup) (hix : X.N[i]? = some x) (hx : Loc X.env.scope x) (hi : PI X tg iter wi) (h1 : ∀ pins s₂ H₂ fp, PG (cX X scope own cap pins s₂ H₂ fp) tg g)
    (h2 : ∀ pins s₂ H₂ fp, PTs (cX X scope own cap pins s₂ H₂ fp) ifs tt)
    (h3 : ∀ pins s₂ H₂ fp acc, PB (cX X scope own cap pins s₂ H₂ fp) acc (insideOf elt (⟨tg, iter, ifs, 0⟩ :: rest) scope pos 0 (.ref acc) (cEnv X scope s₂.heap.objs.size)) tb)
    (hsw : swapsWith (.ListComp elt (⟨tg, iter, ifs, 0⟩ :: rest) scope pos) (some (.Name x pos')) spos.line X.env = pure true)
    (hs : ∀ x, foldedSetIterable iter X.env x = pure x := by intro _; rfl) (hf : X.fn x = true ∨ X.env.scope.names.lookup x = some .local := by first | exact .inl rfl | exact .inr rfl | assumption) :
    PS X (.Assign [.Name x pos'] (.ListComp elt (⟨tg, iter, ifs, 0⟩ :: rest) scope pos) spos) (tAsg (tComp own cap wi g tt tb) (gName i)) := by
  intro pins s σ H D I h
  rw [exec_Assign_Name_used _ _ _ _ hsw]
  refine wpAny_bind (wpAny_standAt (wpAny_bind ?_))
  show wpAny _ X.A (do let _ ← comprehension (.ListComp elt (⟨tg, iter, ifs, 0⟩ :: rest) scope pos) scope X.env _ (newList []) false (eval iter X.env) (some (assign (.Name x pos') X.env))) _ _ s
  refine wpAny_bind (wpAny_mono (wpAny_comprehension_free (use := some (assign (.Name x pos') X.env)) (Q := fun _ s' => SP X pins D .next s') rfl hs (closureFor_eq (cs.has_ I.ok)) cs.kind cs.names ?_) (fun _ s' hq => wpAny_pure (wpAny_pure hq)) fun _ _ e => e)
  refine thn (hi pins s σ H _ I h) fun xv s1 h1' => thn h1' fun itv s2 h2' => ?_
  obtain ⟨it, fp, tn, J, H2, e, I2, T, st2, f2, lp⟩ := h2'
  subst e
  refine comp_core (Q := fun x H1 => gName i x σ H1 D.nx) (RR := fun acc C => compPost (model X.prog X.w) X.A X.xe (some (assign (.Name x pos') X.env)) (fun _ s' => SP X pins D .next s') acc C) cs hc h1 h2 h3 T I2 st2 f2 lp ?_
  intro acc C s' H' m hC I' hn hns q
  show wpAny _ X.A (assign (.Name x pos') X.env (.ref acc)) _ _ _
  refine wpAny_assign_Name (store_ok2 I' hN hix hx (v := .ref acc) rfl (fun s'' I'' ⟨a, sb, ha⟩ => ?_) hf)
  have hne : C ≠ a := by
    rcases ha with z | z
    · rw [z]; exact Nat.ne_of_gt (Nat.lt_of_lt_of_le I2.lt hC)
    · obtain ⟨v, hv⟩ := I2.cell x a z
      exact Nat.ne_of_gt (Nat.lt_of_lt_of_le hv.lt hC)
  exact ⟨m, hns.sameBut sb hne, fun h' hs' => ⟨_, H', CT.Inv.letgo I2 I'' hC hn hs', q⟩⟩
/-! ### names in the block -/
theorem CS.vis (cs : CS X scope own cap) {n0 : Nat} {i : Nat} {x : Str} (h : (own ++ cap.map (·.1))[i]? = some x) : Vis (cEnv X scope n0).scope x := by
  have e : (cEnv X scope n0).scope.names.lookup x = (scope.names.lookup x).map (kin X.env x) := cEnv_lookup
  rcases List.mem_append.mp (List.mem_of_getElem? h) with hm | hm
  · rcases cs.own_ x hm with z | z
    · rw [cs.lk z] at e; exact .inl e
    · rw [cs.lk z] at e; exact .inr (.inl e)
  · obtain ⟨p, hp, rfl⟩ := List.mem_map.mp hm
    have z := (cs.cap_ p hp).2
    rw [cs.lk z] at e
    rcases kin_free (cs.fr _ z rfl) with q | q
    · exact .inr (.inl (e.trans (congrArg some q)))
    · exact .inr (.inr (e.trans (congrArg some q)))
theorem CS.loc (cs : CS X scope own cap) {n0 : Nat} {x : Str} (h : x ∈ own) : Loc (cEnv X scope n0).scope x := by
  have e : (cEnv X scope n0).scope.names.lookup x = (scope.names.lookup x).map (kin X.env x) := cEnv_lookup
  rcases cs.own_ x h with z | z
  · rw [cs.lk z] at e; exact .inl e
  · rw [cs.lk z] at e; exact .inr e
variable {s₂ : Shared} {H₂ : Hp}
theorem CS.gl (cs : CS X scope own cap) {x : Str} (h : (x, NameKind.globalImplicit) ∈ scope.names) : Gl (cX X scope own cap pins s₂ H₂ fp) x := by
  have e : (cEnv X scope s₂.heap.objs.size).kindOf x = (scope.names.lookup x).map (kin X.env x) := cEnv_kindOf
  rw [cs.lk h] at e
  exact e
/-- a name of the block -/
theorem cv (cs : CS X scope own cap) {i : Nat} {x : Str} {pos : Pos} (h : (own ++ cap.map (·.1))[i]? = some x) (hd : (x == ("__debug__" : Str)) = false := by decide) (hcd : (x == ("__classdict__" : Str)) = false := by decide) :
    PE (cX X scope own cap pins s₂ H₂ fp) (.Name x pos) (tVar i) := pe_var h (cs.vis h) hd hcd
/-- a target of the block -/
theorem cg (cs : CS X scope own cap) {i : Nat} {x : Str} {pos : Pos} (h : own[i]? = some x) : PG (cX X scope own cap pins s₂ H₂ fp) (.Name x pos) (gName i) :=
  pg_name cs.nN (by
    have hi := (List.getElem?_eq_some_iff.mp h).1
    show (own ++ cap.map (·.1))[i]? = some x
    rw [List.getElem?_append_left hi]; exact h) (cs.loc (List.mem_of_getElem? h)) (.inl (decide_eq_true (List.mem_of_getElem? h)))
end
end CT
set_option Elab.async false
set_option linter.all false
set_option maxRecDepth 100000
/-! zip of two and three lists or tuples as what a loop or a comprehension walks -/
namespace CT
open PySem PySem.Spec L2
open PyProof.Rows hiding St
def SqB (K : PySem.W.Frag) (H : Hp) (b : Bool) (a : Addr) (xs : List V) : Prop := match b with | true => SqT K H a xs | false => SqL K H a xs
section
variable {X : Cx} {pins : List (Addr × Obj)} {σ : St} {H : Hp} {s : Shared} {a : Addr} {xs ys : List V} {b : Bool}
theorem Inv.sqb (I : Inv X pins σ H s) (h : SqB X.K H b a xs) : ∃ its : List Value, Vals xs its ∧ Ssq s.heap b a its.toArray ∧ xs.length ≤ sizeLine := by
  cases b with
  | true => obtain ⟨its, r, p, z⟩ := I.tuple h; exact ⟨its, r, p, z⟩
  | false => obtain ⟨its, r, p, z⟩ := I.list h; exact ⟨its, r, p.isList, z⟩
end
end CT
set_option Elab.async false
set_option linter.all false
set_option maxRecDepth 100000
set_option maxHeartbeats 400000
/-! OWN EXCEPTIONS: their attributes read and set, made with an __init__ of their own -/
namespace CT
open PySem PySem.Spec PySem.W L2
open Builtin Builtin.ObjectAttr
abbrev bmV : List Value := [.type "ValueError", .type "Exception", .type "BaseException", .type "object"]
/-- refs, then the built-in tail -/
def overV : List Value → Bool
  | [] => false
  | v :: r => (v :: r) == bmV || (match v with | .ref _ => overV r | _ => false)
theorem overV_has {x : Value} (hx : bmV.contains x = true) : ∀ {l : List Value}, overV l = true → l.contains x = true
  | [], e => nomatch e
  | v :: r, e => by
    unfold overV at e
    rcases Bool.or_eq_true_iff.mp e with q | q
    · rw [beq_iff_eq.mp q]; exact hx
    · cases v with
      | ref c => rw [List.contains_cons, overV_has hx q, Bool.or_true]
      | _ => cases q
/-- what a class of exceptions must have, in the text K -/
structure XCls (K : Frag) (C : Addr) : Prop where
  hd : hasDictIn K C = true
  ov : (clsIn K C).any (fun cd => overV cd.mro) = true
  ga : findIn K (.ref C) "__getattribute__" = some (some (.builtin "BaseException.__getattribute__"))
  gn : findIn K (.ref C) "__getattr__" = some none
  sa : findIn K (.ref C) "__setattr__" = some (some (.builtin "object.__setattr__"))
theorem XCls.mro {K : Frag} {C : Addr} (c : XCls K C) {x : Value} (hx : bmV.contains x = true) : mroIn K C x = some true := by
  obtain ⟨cd, hc, ho⟩ := any_some c.ov
  have h := overV_has hx ho
  unfold mroIn
  rw [hc, Option.bind_some, if_neg (fun q => by cases hl : cd.mro with | nil => rw [hl] at h; cases h | cons _ _ => rw [hl] at q; cases q), h]
section
variable {prog : Program} {w : World} {A : Around} {E : Value → Shared → Prop} {s : Shared} {K : Frag} {x C : Addr} {ox : Obj} {od : Option Obj} {name : Str}
theorem ga_run {tk : Tok} {f : Found} {Q : Fin → Shared → Prop} (X : K.In s.heap) (I : InstAt s.heap x ox C od) (hf : findObj K C od name = some f)
    (h : wpAny (model prog w) A (match f with | .value v => ret v | .bind g a => bindTo g a (.ref x) (.ref C) | .missing => unsupported "x") Q E s) (hm : f ≠ .missing) :
    wpAny (model prog w) A (Builtin.«object.__getattribute__» ⟨[.ref x, .str name tk], []⟩) Q E s := by
  have L0 := I.type (M := model prog w)
  have L1 := looks_find (M := model prog w) X I hf
  unfold Builtin.«object.__getattribute__»
  refine wpAny_bind (wpAny_pure (wpAny_bind (wpAny_pure (wpAny_bind (L0.here (wpAny_bind (L1.here ?_)))))))
  cases f with
  | missing => exact absurd rfl hm
  | value v => exact h
  | bind g a => exact h
theorem ga_call {tk : Tok} {f : Found} {R : Result → Shared → Prop} (X : K.In s.heap) (I : InstAt s.heap x ox C od) (c : XCls K C) (hf : findObj K C od name = some f) (hm : f ≠ .missing)
    (h : wpAny (model prog w) A.in1 (match f with | .value v => ret v | .bind g a => bindTo g a (.ref x) (.ref C) | .missing => unsupported "x")
      (fun fin s' => match fin with | .done f => R (.ok f) s' | .again c' => c'.quiet = true ∧ codeAny (model prog w) A c' R s') (fun e s' => R (.error e) s') s) :
    codeAny (model prog w) A (.call (.builtin "BaseException.__getattribute__") ⟨[.ref x, .str name tk], []⟩) R s := by
  have S := PySem.F.attr_ValueError.ga
  have L0 : Looks (model prog w) s.heap (isInstance (.ref x) (.type "BaseException")) true := I.type.andThen (looks_mroIn X (c.mro (by decide)))
  refine codeAny_call_builtin S.plain F.entry_bexc_ga (@check_slot (model prog w) _ _ s "BaseException.__getattribute__" "BaseException" "__getattribute__" (.ref x) [.str name tk] [] _ (by decide +kernel) (by decide +kernel) L0 (F.args_bexc_ga (.ref x) (.str name tk)) ?_)
  exact ga_run X I hf h hm
/-- o.name by BaseException's way -/
theorem xget_by {tk : Tok} {fill expr : Bool} {f : Found} {Q : Value → Shared → Prop} (X : K.In s.heap) (I : InstAt s.heap x ox C od) (c : XCls K C) (hf : findObj K C od name = some f) (hm : f ≠ .missing)
    (h : wpAny (model prog w) A.in1 (match f with | .value v => ret v | .bind g a => bindTo g a (.ref x) (.ref C) | .missing => unsupported "x")
      (fun fin s' => match fin with | .done (.ret v) => wpAny (model prog w) A (handedOut v) Q E s' | _ => False) (fun e s' => False) s) :
    wpAny (model prog w) A (getAttrBy (.ref x) (.str name tk) fill expr) Q E s := by
  have L0 := I.type (M := model prog w)
  have L1 := looks_findIn (M := model prog w) X c.ga
  have L2 := looks_findIn (M := model prog w) X c.gn
  have S := PySem.F.attr_ValueError.ga
  unfold getAttrBy
  refine wpAny_holding (wpAny_bind (L0.here (wpAny_bind (L1.here ?_))))
  show wpAny _ _ (getAttrByItsOwn _ _ _ _ _ _) _ _ _
  unfold getAttrByItsOwn
  refine wpAny_bind (L2.here ?_)
  refine wpAny_bind (wpAny_attempt (wpAny_holding ?_))
  have ec : callGetattribute (.ref x) (.str name tk) (.builtin "BaseException.__getattribute__") expr = boundAndCalled (.builtin "BaseException.__getattribute__") (.ref x) (.str name tk) := by cases expr <;> rfl
  rw [ec]
  unfold boundAndCalled
  rw [S.bind]
  refine wpAny_bind (wpAny_pure (wpAny_call (ga_call X I c hf hm (wpAny_mono h (fun fin s' z => ?_) fun e s' z => z.elim))))
  rcases fin with (_ | _ | _ | _) | _ <;> first | exact z | exact z.elim
/-- x.__class__ -/
theorem xget_cls {Q : Option Value → Shared → Prop} (X : K.In s.heap) (I : InstAt s.heap x ox C od) (c : XCls K C) (hf : findObj K C od "__class__" = some (.bind (.builtin "getset_descriptor.__get__") (.builtin "object.__class__")))
    (h : Q (some (.ref C)) { s with toks := s.toks + 1 }) : wpAny (model prog w) A (getAttr? (.ref x) "__class__") Q E s := by
  unfold getAttr? getAttrBy?
  refine wpAny_bind (wpAny_mkText (wpAny_bind (wpAny_attempt (xget_by (s := { s with toks := s.toks + 1 }) X I c hf (fun z => nomatch z) ?_))))
  refine wpAny_bind (wpAny_holding (wpAny_call (class_get (s := { s with toks := s.toks + 1 }) X I (c.mro (by decide)) ?_)))
  exact wpAny_pure (wpAny_pure (wpAny_pure h))
theorem kitx_exc (c : XCls K C) (hf : findObj K C od "__class__" = some (.bind (.builtin "getset_descriptor.__get__") (.builtin "object.__class__"))) : KitX K (.ref x) (.ref C) (fun h => InstAt h x ox C od) where
  ty := fun _ _ _ I => I.type
  it := fun M h X _ => by
    obtain ⟨cd, hc, _⟩ := any_some c.ov
    unfold clsIn at hc
    split at hc
    · rename_i ho
      intro A' Q' E' s' k q
      unfold isType loadHead
      exact wpAny_bind (wpAny_loadPart (k _ _ (X _ _ ho)) (wpAny_pure q))
    · cases hc
  ne := fun h tp dd its n sl X htp => by
    obtain ⟨cd, hc, _⟩ := any_some c.ov
    cases hb : (Value.ref C == Value.ref tp) with
    | false => rfl
    | true =>
      have e := Value.ref.inj (beq_iff_eq.mp hb)
      rw [← e] at htp
      unfold clsIn at hc
      split at hc
      · rename_i ho
        have z := htp.symm.trans (X _ _ ho)
        cases z
      · cases hc
  ca := fun X I k => xget_cls X I c hf k
end
end CT
set_option Elab.async false
set_option linter.all false
set_option maxRecDepth 100000
set_option maxHeartbeats 400000
/-! OWN EXCEPTIONS: made -/
namespace CT
open PySem PySem.Spec PySem.W L2
/-- a class of exceptions that is made by ValueError's way -/
def xmkIn (K : Frag) (C : Addr) : Bool := match K.lookup C with
  | some ⟨.type "type", _, .cls cd, sl⟩ => (match sl.toList with | [_, _, _, _, some (.builtin n), _] => n == "ValueError.__new__" | _ => false) && cd.mro.head? == some (.ref C) && tailIn K bmV cd.mro.tail && !cd.hasDel
  | _ => false
end CT
set_option Elab.async false
set_option linter.all false
set_option maxRecDepth 100000
set_option maxHeartbeats 400000
/-! OWN EXCEPTIONS: rules of the layer -/
namespace CT
open PySem PySem.Spec PySem.W L2
/-- an exception; fr: it has not been raised yet -/
def ExcIs (fr : Bool) (x C : Addr) (dx : Option Addr) : HO := .ext fun h => ∃ vs, h.get? x = some ⟨.ref C, dx, .fields vs, #[]⟩ ∧ vs.size = 6 ∧ (fr = true → vs[1]? = some .none)
def NsIs (d : Addr) (fs : List (Str × V)) : HO := .ext fun h => ∃ mA, h.Ns1 d mA ∧ (∀ f, RelO (fs.lookup f) (mA f)) ∧ Within mA (fs.map (·.1))
section
variable {P : Program} {w : World} {H : Hp} {h : Heap} {x C d : Addr} {dx : Option Addr} {fs : List (Str × V)} {fr : Bool}
theorem exc_at (o : ObjOk P w H h x (ExcIs fr x C dx)) : ∃ vs, h.get? x = some ⟨.ref C, dx, .fields vs, #[]⟩ ∧ vs.size = 6 ∧ (fr = true → vs[1]? = some .none) := o.1
theorem exc_ok {vs : Array Value} (e : h.get? x = some ⟨.ref C, dx, .fields vs, #[]⟩) (hz : vs.size = 6) (hf : fr = true → vs[1]? = some .none) : ObjOk P w H h x (ExcIs fr x C dx) := ⟨⟨vs, e, hz, hf⟩, ⟨_, e⟩, fun _ _ ⟨us, q, z⟩ k => ⟨us, k _ q, z⟩⟩
theorem ns_at (o : ObjOk P w H h d (NsIs d fs)) : ∃ mA, h.Ns1 d mA ∧ (∀ f, RelO (fs.lookup f) (mA f)) ∧ Within mA (fs.map (·.1)) := o.1
end
section
variable {X : Cx} {pins : List (Addr × Obj)} {σ : St} {H : Hp} {s : Shared} {a C dx : Addr} {fs : List (Str × V)} {f : Str} {v : V} {A : Around} {E : Value → Shared → Prop} {fr : Bool}
theorem xinst (I : Inv X pins σ H s) (e : H a = some (ExcIs fr a C (some dx))) (n : H dx = some (NsIs dx fs)) : ∃ vs mA odd, s.heap.get? a = some ⟨.ref C, some dx, .fields vs, #[]⟩ ∧ s.heap.Ns1 dx mA ∧ (∀ f, RelO (fs.lookup f) (mA f)) ∧ Within mA (fs.map (·.1)) ∧
    InstAt s.heap a ⟨.ref C, some dx, .fields vs, #[]⟩ C (some odd) ∧ ∀ name, lookIn name odd = some (mA name) := by
  obtain ⟨vs, h1, _⟩ := exc_at (I.hok a _ e)
  obtain ⟨mA, h2, r, q⟩ := ns_at (I.hok dx _ n)
  obtain ⟨odd, h3, h4⟩ := lookIn_ns h2
  exact ⟨vs, mA, odd, h1, h2, r, q, ⟨h1, rfl, rfl, h3⟩, h4⟩
end
end CT
set_option Elab.async false
set_option linter.all false
set_option maxRecDepth 100000
set_option maxHeartbeats 400000
/-! OWN EXCEPTIONS: made, by rules of the layer -/
namespace CT
open PySem PySem.Spec PySem.W L2
section
variable {X : Cx} {pins : List (Addr × Obj)} {σ : St} {H : Hp} {s : Shared} {h' : Heap}
theorem HOk.noAt {P : Program} {w : World} {h : Heap} {a : Addr} (x : HOk P w H h) (e : h.get? a = none) : H a = none := by
  cases q : H a with
  | none => rfl
  | some o =>
    have hx := x a o q
    have : ∃ u, h.get? a = some u := by
      cases o with
      | lst xs => obtain ⟨_, _, _, _, z⟩ := hx; exact ⟨_, z⟩
      | tup xs => obtain ⟨_, _, _, o, z, _⟩ := hx; exact ⟨_, z⟩
      | dK kvs => obtain ⟨_, _, _, _, o, _, _, z, _⟩ := hx; exact ⟨_, z⟩
      | dT kvs => obtain ⟨_, _, _, _, o, _, _, z, _⟩ := hx; exact ⟨_, z⟩
      | set S n => obtain ⟨o, _, _, _, z, _⟩ := hx; exact ⟨_, z⟩
      | ins C dx fs => obtain ⟨_, _, _, z, _⟩ := hx; exact ⟨_, z⟩
      | own y => exact hx
      | xd fs => obtain ⟨_, ⟨_, _, _, z, _⟩, _⟩ := hx; exact ⟨_, z⟩
      | rng lo hi => obtain ⟨_, _, _, z⟩ := hx; exact ⟨_, z⟩
      | frz ob u => obtain ⟨z, _⟩ := hx; exact ⟨_, z⟩
      | tbl ps => exact ⟨_, hx⟩
      | met f y => exact ⟨_, hx⟩
      | ext φ => exact hx.2.1
    obtain ⟨u, z⟩ := this
    rw [e] at z; cases z
theorem Inv.laidN {a : Addr} {o : HO} {t' : Nat} (I : Inv X pins σ H s) (k : ∀ b u, s.heap.get? b = some u → h'.get? b = some u) (hp : s.heap.get? a = none) (new : ObjOk X.prog X.w (upd H a o) h' a o) :
    Inv X pins σ (upd H a o) { s with heap := h', toks := t' } := by
  have hn := HOk.noAt I.hok hp
  refine I.un (Un.mk (fun b u q _ _ _ => k b u q) (fun b u q _ _ _ => ⟨u.slots, k b u q⟩) (fun b u q n _ => ?_) (fun b u q _ => ⟨u, k b u q⟩) (fun b xs q => ?_) (fun b u xs q => ?_) fun b ps q => ⟨#[], ?_⟩) fun b u q => ?_
  · rw [upd_ne (fun z => by rw [z, hp] at q; cases q)]; exact n
  · rw [upd_ne (ne_of_none q hn)]; exact q
  · rw [upd_ne (ne_of_none q hn)]; exact q
  · rw [upd_ne (ne_of_none q hn), q]; simp
  · by_cases hb : b = a
    · subst hb; rw [upd_same] at q; cases q; exact new
    · rw [upd_ne hb] at q
      exact (I.hok b u q).stay (fun c v _ z => k c v z) (fun c z => by rw [upd_ne (ne_of_none z hn)]; exact z) fun c xs z => by rw [upd_ne (ne_of_none z hn)]; exact z
end
section
variable {X : Cx} {pins : List (Addr × Obj)} {σ : St} {H : Hp} {s : Shared} {C f : Addr} {k : Nat} {CX : CXT} {fd : FuncData} {ps : List Str} {sp : Sp} {E : XK} {x : Str} {p pos : Pos} {e : Expr} {es : List Expr} {t : TA}
/-- a class of exceptions without an __init__ of its own: excIn of the library -/
theorem run_x0 {us : List Value} {Q : VK} (I : Inv X pins σ H s) (hm : excIn X.K C bmV "ValueError.__new__" = true) (hl : us.length ≤ sizeLine) (h : ∀ a, H a = none → Q (.ref a) (upd H a (ExcIs true a C none))) :
    wpAny (model X.prog X.w) X.A (call (.ref C) us) (EP X pins σ Q) X.xe s := by
  have K := I.kIn
  unfold excIn at hm
  split at hm
  · rename_i dd cd sl ho
    split at hm
    · rename_i C' bm k0 k1 k2 k3 n k5 e1 e2
      simp only [Bool.and_eq_true, beq_iff_eq, Bool.not_eq_true'] at hm
      obtain ⟨⟨⟨⟨⟨rfl, rfl⟩, hdel⟩, ht⟩, hok⟩, hni⟩ := hm
      obtain ⟨nm, bs, mro, ns, qn, hd, sn, sub, ab, col, del⟩ := cd
      dsimp only at e1 hdel hok hni
      subst e1 hdel
      have hsl : sl = #[k0, k1, k2, k3, some (.builtin "ValueError.__new__"), k5] := by
        obtain ⟨l⟩ := sl
        exact congrArg Array.mk e2
      subst hsl
      obtain ⟨hh, g, d, tk, os⟩ := s
      refine wpAny_call_exc_subT PySem.F.excBase_ValueError (tail_of_in K ht) (K _ _ ho) (.of_isNs (isNs_of_in K hok)) (nsMap_none_of_in K hok hni) (fun h' a made => ?_) hl
      obtain ⟨tt, h1, _, _⟩ := made.there
      exact ⟨.ref a, _, CT.Inv.laidN (t' := tk) I made.keeps made.new (exc_ok h1 rfl fun _ => rfl), rfl, h a (HOk.noAt I.hok made.new)⟩
    · cases hm
  · cases hm
def tX0 (C : Addr) : TE := fun _ H Q => ∀ a, H a = none → Q (.ref a) (upd H a (ExcIs true a C none))
theorem pe_x0 (hm : excIn X.K C bmV "ValueError.__new__" = true) (hk : keepIn X.K (.ref C) = true) (hg : Gl X x) (hx : X.mg x = some (.ref C)) (hdb : (x == ("__debug__" : Str)) = false := by decide) : PE X (.Call (.Name x p) [] [] pos) (tX0 C) := by
  intro pins s σ H Q I h
  refine wpAny_Call_Name_kw (ld_glob I hg hx ?_ hdb)
  exact callWith_K0 I.kIn hk (run_x0 (us := []) I hm (Nat.zero_le _) h)
/-- .. with one -/
structure XMk (K : Frag) (C f : Addr) : Prop where
  makes : xmkIn K C = true
  init : findIn K (.ref C) "__init__" = some (some (.ref f))
  fn : isFn K (.ref f) = true
  kp : keepIn K (.ref C) = true
end
end CT
set_option Elab.async false
set_option linter.all false
set_option maxRecDepth 100000
/-! THE DATA LAYER: pure code by the data that it comes to -/
namespace CT
open PySem PySem.Spec L2
open PyProof.Rows hiding St
/-- data, and instances that are never changed once made -/
inductive D where
  | non | bl (b : Bool) | int (i : Int) | str (x : Str) | tup (xs : List D) | lst (xs : List D) | ins (C : Addr) (fs : List (Str × D)) | exc (C : Addr) (fs : List (Str × D))
  /-- a built-in type; a class or function of the module -/
  | ty (n : String) | cl (C : Addr)
  /-- a dict that is not changed -/
  | dct (kvs : List (D × D))
def keyD : Key → D
  | .inl i => .int i
  | .inr x => .str x
/-- the lists that may still be changed -/
abbrev Ad := Addr → Prop
/-- a list of the module -/
def SqK (K : PySem.W.Frag) (a : Addr) (xs : List V) : Prop :=
  ∃ (o : Obj) (its : Array Value) (n : Nat), K.lookup a = some o ∧ o.cls = .type "list" ∧ o.dict = none ∧ o.data = .seq its n ∧ its.size ≤ sizeLine ∧ Vals xs its.toList
mutual
/-- v reads as d in the heap H, without the addresses S -/
inductive Rds (K : PySem.W.Frag) (H : Hp) (S : Ad) : D → V → Prop
  | non : Rds K H S .non .non
  | bl (b : Bool) : Rds K H S (.bl b) (.bl b)
  | int (i : Int) : Rds K H S (.int i) (.int i)
  | str (x : Str) : Rds K H S (.str x) (.str x)
  | ty (n : String) : Rds K H S (.ty n) (.ty n)
  | cl (C : Addr) : Rds K H S (.cl C) (.ref C)
  | tup {a : Addr} {vs : List V} {xs : List D} : H a = some (.tup vs) → ¬ S a → RdsL K H S xs vs → Rds K H S (.tup xs) (.ref a)
  | lst {a : Addr} {vs : List V} {xs : List D} : Rd H a (.lst vs) → ¬ S a → RdsL K H S xs vs → Rds K H S (.lst xs) (.ref a)
  | lstK {a : Addr} {vs : List V} {xs : List D} : SqK K a vs → RdsL K H S xs vs → Rds K H S (.lst xs) (.ref a)
  | ins {a C dx : Addr} {fs : List (Str × D)} {gs : List (Str × V)} : H a = some (.ins C dx gs) → ¬ S a → RdsF K H S fs gs → Rds K H S (.ins C fs) (.ref a)
  | exc0 {fr : Bool} {a C : Addr} : H a = some (ExcIs fr a C none) → ¬ S a → Rds K H S (.exc C []) (.ref a)
  | exc {fr : Bool} {a C dx : Addr} {fs : List (Str × D)} {gs : List (Str × V)} : H a = some (ExcIs fr a C (some dx)) → H dx = some (NsIs dx gs) → ¬ S a → ¬ S dx → RdsF K H S fs gs → Rds K H S (.exc C fs) (.ref a)
  | dK {a : Addr} {kvs : List (Key × V)} {es : List (D × D)} : H a = some (.dK kvs) → ¬ S a → es.map (·.1) = kvs.map (fun p => keyD p.1) → RdsL K H S (es.map (·.2)) (kvs.map (·.2)) → Rds K H S (.dct es) (.ref a)
inductive RdsL (K : PySem.W.Frag) (H : Hp) (S : Ad) : List D → List V → Prop
  | nil : RdsL K H S [] []
  | cons {d : D} {v : V} {ds : List D} {vs : List V} : Rds K H S d v → RdsL K H S ds vs → RdsL K H S (d :: ds) (v :: vs)
inductive RdsF (K : PySem.W.Frag) (H : Hp) (S : Ad) : List (Str × D) → List (Str × V) → Prop
  | nil : RdsF K H S [] []
  | cons {n : Str} {d : D} {v : V} {ds : List (Str × D)} {vs : List (Str × V)} : Rds K H S d v → RdsF K H S ds vs → RdsF K H S ((n, d) :: ds) ((n, v) :: vs)
end
/-- all but S is as it was -/
def Ext (S : Ad) (H H' : Hp) : Prop := ∀ a o, ¬ S a → H a = some o → H' a = some o
abbrev no : Ad := fun _ => False
abbrev Ext0 (H H' : Hp) : Prop := Ext no H H'
theorem Ext.refl {S : Ad} {H : Hp} : Ext S H H := fun _ _ _ e => e
theorem Ext.trans {S : Ad} {H H1 H2 : Hp} (a : Ext S H H1) (b : Ext S H1 H2) : Ext S H H2 := fun c o n e => b c o n (a c o n e)
theorem Ext.to {H H' : Hp} (e : Ext0 H H') (S : Ad) : Ext S H H' := fun a o _ h => e a o (fun z => z) h
theorem Ext.new {H : Hp} {p : Addr} {o : HO} (hp : H p = none) : Ext0 H (upd H p o) := fun a u _ e => by rw [upd_ne (ne_of_none e hp)]; exact e
theorem Ext.set {H : Hp} {S : Ad} {p : Addr} {o : HO} (hp : S p) : Ext S H (upd H p o) := fun a u n e => by rw [upd_ne (fun z : a = p => n (by rw [z]; exact hp))]; exact e
theorem Ext.ne {H H' : Hp} (e : Ext0 H H') {a : Addr} (h : H a ≠ none) : H' a ≠ none := by
  cases q : H a with
  | none => exact absurd q h
  | some o => rw [e a o (fun z => z) q]; intro z; cases z
theorem Rd.ext {S : Ad} {H H' : Hp} {a : Addr} {u : HO} (e : Ext S H H') (n : ¬ S a) (r : Rd H a u) : Rd H' a u := r.elim (fun z => .inl (e _ _ n z)) fun ⟨o, z⟩ => .inr ⟨o, e _ _ n z⟩
section
variable {K : PySem.W.Frag} {H H' : Hp} {S S' : Ad}
mutual
theorem Rds.ext (e : Ext S H H') : ∀ {d : D} {v : V}, Rds K H S d v → Rds K H' S d v
  | _, _, .non => .non
  | _, _, .bl b => .bl b
  | _, _, .int i => .int i
  | _, _, .str x => .str x
  | _, _, .ty n => .ty n
  | _, _, .cl C => .cl C
  | _, _, .tup h n r => .tup (e _ _ n h) n (RdsL.ext e r)
  | _, _, .lst h n r => .lst (CT.Rd.ext e n h) n (RdsL.ext e r)
  | _, _, .lstK h r => .lstK h (RdsL.ext e r)
  | _, _, .ins h n r => .ins (e _ _ n h) n (RdsF.ext e r)
  | _, _, .exc0 h n => .exc0 (e _ _ n h) n
  | _, _, .exc h h2 n n2 r => .exc (e _ _ n h) (e _ _ n2 h2) n n2 (RdsF.ext e r)
  | _, _, .dK h n k r => .dK (e _ _ n h) n k (RdsL.ext e r)
theorem RdsL.ext (e : Ext S H H') : ∀ {ds : List D} {vs : List V}, RdsL K H S ds vs → RdsL K H' S ds vs
  | _, _, .nil => .nil
  | _, _, .cons r t => .cons (Rds.ext e r) (RdsL.ext e t)
theorem RdsF.ext (e : Ext S H H') : ∀ {ds : List (Str × D)} {vs : List (Str × V)}, RdsF K H S ds vs → RdsF K H' S ds vs
  | _, _, .nil => .nil
  | _, _, .cons r t => .cons (Rds.ext e r) (RdsF.ext e t)
end
mutual
/-- other addresses are left out: they were left out, or nothing stands there -/
theorem Rds.av (e : ∀ a, S' a → S a ∨ H a = none) : ∀ {d : D} {v : V}, Rds K H S d v → Rds K H S' d v
  | _, _, .non => .non
  | _, _, .bl b => .bl b
  | _, _, .int i => .int i
  | _, _, .str x => .str x
  | _, _, .ty n => .ty n
  | _, _, .cl C => .cl C
  | _, _, .tup h n r => .tup h (fun z => (e _ z).elim n fun q => by rw [h] at q; cases q) (RdsL.av e r)
  | _, _, .lst h n r => .lst h (fun z => (e _ z).elim n fun q => by rcases h with h | ⟨_, h⟩ <;> (rw [h] at q; cases q)) (RdsL.av e r)
  | _, _, .lstK h r => .lstK h (RdsL.av e r)
  | _, _, .ins h n r => .ins h (fun z => (e _ z).elim n fun q => by rw [h] at q; cases q) (RdsF.av e r)
  | _, _, .exc0 h n => .exc0 h (fun z => (e _ z).elim n fun q => by rw [h] at q; cases q)
  | _, _, .exc h h2 n n2 r => .exc h h2 (fun z => (e _ z).elim n fun q => by rw [h] at q; cases q) (fun z => (e _ z).elim n2 fun q => by rw [h2] at q; cases q) (RdsF.av e r)
  | _, _, .dK h n k r => .dK h (fun z => (e _ z).elim n fun q => by rw [h] at q; cases q) k (RdsL.av e r)
theorem RdsL.av (e : ∀ a, S' a → S a ∨ H a = none) : ∀ {ds : List D} {vs : List V}, RdsL K H S ds vs → RdsL K H S' ds vs
  | _, _, .nil => .nil
  | _, _, .cons r t => .cons (Rds.av e r) (RdsL.av e t)
theorem RdsF.av (e : ∀ a, S' a → S a ∨ H a = none) : ∀ {ds : List (Str × D)} {vs : List (Str × V)}, RdsF K H S ds vs → RdsF K H S' ds vs
  | _, _, .nil => .nil
  | _, _, .cons r t => .cons (Rds.av e r) (RdsF.av e t)
end
theorem RdsL.length : ∀ {ds : List D} {vs : List V}, RdsL K H S ds vs → ds.length = vs.length
  | _, _, .nil => rfl
  | _, _, .cons _ t => by rw [List.length_cons, List.length_cons, RdsL.length t]
theorem RdsL.get : ∀ {ds : List D} {vs : List V} {i : Nat} {d : D}, RdsL K H S ds vs → ds[i]? = some d → ∃ v, vs[i]? = some v ∧ Rds K H S d v
  | _, _, 0, _, .cons r _, e => by simp at e; subst e; exact ⟨_, rfl, r⟩
  | _, _, i + 1, _, .cons _ t, e => by
    obtain ⟨v, h1, h2⟩ := RdsL.get (i := i) t (by simpa using e)
    exact ⟨v, by simpa using h1, h2⟩
theorem RdsL.app : ∀ {ds es : List D} {vs us : List V}, RdsL K H S ds vs → RdsL K H S es us → RdsL K H S (ds ++ es) (vs ++ us)
  | _, _, _, _, .nil, s => s
  | _, _, _, _, .cons r t, s => .cons r (RdsL.app t s)
theorem RdsL.rep {d : D} {v : V} (r : Rds K H S d v) : ∀ n : Nat, RdsL K H S (List.replicate n d) (List.replicate n v)
  | 0 => .nil
  | n + 1 => .cons r (RdsL.rep r n)
theorem RdsF.look {f : Str} : ∀ {ds : List (Str × D)} {vs : List (Str × V)} {d : D}, RdsF K H S ds vs → ds.lookup f = some d → ∃ v, vs.lookup f = some v ∧ Rds K H S d v
  | (n, x) :: r, _, d, .cons q t, e => by
    rw [List.lookup_cons] at e ⊢
    cases hb : f == n with
    | true => rw [hb] at e; cases e; exact ⟨_, rfl, q⟩
    | false => rw [hb] at e; exact RdsF.look t e
theorem RdsF.none {f : Str} : ∀ {ds : List (Str × D)} {vs : List (Str × V)}, RdsF K H S ds vs → ds.lookup f = none → vs.lookup f = none
  | [], _, .nil, _ => rfl
  | (n, x) :: r, _, .cons q t, e => by
    rw [List.lookup_cons] at e ⊢
    cases hb : f == n with
    | true => rw [hb] at e; cases e
    | false => rw [hb] at e; exact RdsF.none t e
theorem Rds.intV {i : Int} {v : V} (r : Rds K H S (.int i) v) : v = .int i := by cases r; rfl
theorem Rds.blV {b : Bool} {v : V} (r : Rds K H S (.bl b) v) : v = .bl b := by cases r; rfl
theorem Rds.tupV {xs : List D} {v : V} (r : Rds K H S (.tup xs) v) : ∃ a vs, v = .ref a ∧ H a = some (.tup vs) ∧ RdsL K H S xs vs := by cases r with | tup h n r => exact ⟨_, _, rfl, h, r⟩
theorem Rds.lstV {xs : List D} {v : V} (r : Rds K H S (.lst xs) v) : ∃ a vs, v = .ref a ∧ SqL K H a vs ∧ RdsL K H S xs vs := by
  cases r with
  | lst h n r => exact ⟨_, _, rfl, .inl h, r⟩
  | lstK h r => exact ⟨_, _, rfl, .inr h, r⟩
theorem Rds.insV {C : Addr} {fs : List (Str × D)} {v : V} (r : Rds K H S (.ins C fs) v) : ∃ a dx gs, v = .ref a ∧ H a = some (.ins C dx gs) ∧ RdsF K H S fs gs := by cases r with | ins h n r => exact ⟨_, _, _, rfl, h, r⟩
theorem RdsL.one {d : D} {vs : List V} (r : RdsL K H S [d] vs) : ∃ v, vs = [v] ∧ Rds K H S d v := by cases r with | cons r t => cases t; exact ⟨_, rfl, r⟩
theorem RdsL.two {d e : D} {vs : List V} (r : RdsL K H S [d, e] vs) : ∃ v u, vs = [v, u] ∧ Rds K H S d v ∧ Rds K H S e u := by
  cases r with | cons r t => obtain ⟨u, rfl, q⟩ := t.one; exact ⟨_, _, rfl, r, q⟩
/-- a new tuple, a new list -/
def Dom (H : Hp) (S : Ad) : Prop := ∀ a, S a → H a ≠ none
theorem Dom.ext {H H' : Hp} {S : Ad} (d : Dom H S) (e : Ext0 H H') : Dom H' S := fun a h => e.ne (d a h)
theorem Dom.not {H : Hp} {S : Ad} (d : Dom H S) {p : Addr} (hp : H p = Option.none) : ¬ S p := fun z => d p z hp
theorem Rds.newTup {p : Addr} {vs : List V} {xs : List D} (dm : Dom H S) (hp : H p = Option.none) (r : RdsL K H S xs vs) : Rds K (upd H p (.tup vs)) S (.tup xs) (.ref p) := .tup upd_same (dm.not hp) (r.ext ((Ext.new hp).to S))
theorem Rds.newLst {p : Addr} {vs : List V} {xs : List D} (dm : Dom H S) (hp : H p = Option.none) (r : RdsL K H S xs vs) : Rds K (upd H p (.lst vs)) S (.lst xs) (.ref p) := .lst (.inl upd_same) (dm.not hp) (r.ext ((Ext.new hp).to S))
end
/-! ### slots -/
/-- a name: not set; unknown; data; a list of one's own that may still be changed -/
inductive Sl where
  | nil | any | val (d : D) | own (xs : List D) | new (C x dx : Addr) (fs : List (Str × D))
abbrev Rho := List Sl
def Sl.owns : Sl → Prop
  | .own _ => True | .new _ _ _ _ => True | _ => False
def RO (K : PySem.W.Frag) (H : Hp) (S : Ad) : Sl → Option V → Prop
  | .nil, v => v = none
  | .any, _ => True
  | .val d, v => ∃ u, v = some u ∧ Rds K H S d u
  | .own xs, v => ∃ a vs, v = some (.ref a) ∧ S a ∧ H a = some (.lst vs) ∧ RdsL K H S xs vs
  | .new C x dx fs, v => ∃ gs, v = some (.ref x) ∧ S x ∧ H x = some (.ins C dx gs) ∧ RdsF K H S fs gs
theorem RO.ext {K : PySem.W.Frag} {H H' : Hp} {S : Ad} (e : Ext0 H H') : ∀ {x : Sl} {v : Option V}, RO K H S x v → RO K H' S x v
  | .nil, _, h => h
  | .any, _, _ => trivial
  | .val _, _, ⟨u, h, r⟩ => ⟨u, h, r.ext (e.to S)⟩
  | .own _, _, ⟨a, vs, h, s, o, r⟩ => ⟨a, vs, h, s, e _ _ (fun z => z) o, r.ext (e.to S)⟩
  | .new _ _ _ _, _, ⟨gs, h, s, o, r⟩ => ⟨gs, h, s, e _ _ (fun z => z) o, r.ext (e.to S)⟩
structure VE (K : PySem.W.Frag) (H : Hp) (S : Ad) (ρ : Rho) (σ : St) : Prop where
  len : ρ.length = σ.length
  rel : ∀ (i : Nat) (x : Sl), ρ[i]? = some x → ∃ v, σ[i]? = some v ∧ RO K H S x v
  dist : ∀ (i j : Nat) (x y : Sl) (a : Addr), i ≠ j → ρ[i]? = some x → ρ[j]? = some y → x.owns → y.owns → σ[i]? = some (some (.ref a)) → σ[j]? ≠ some (some (.ref a))
  dom : Dom H S
section
variable {K : PySem.W.Frag} {H H' : Hp} {S : Ad} {ρ : Rho} {σ : St} {i : Nat}
theorem VE.ext (v : VE K H S ρ σ) (e : Ext0 H H') : VE K H' S ρ σ := ⟨v.len, fun i x h => let ⟨u, h1, h2⟩ := v.rel i x h; ⟨u, h1, h2.ext e⟩, v.dist, v.dom.ext e⟩
theorem VE.get {d : D} (v : VE K H S ρ σ) (h : ρ[i]? = some (.val d)) : ∃ u, σ[i]? = some (some u) ∧ Rds K H S d u := by
  obtain ⟨w, h1, u, rfl, r⟩ := v.rel i _ h
  exact ⟨u, h1, r⟩
theorem VE.set {d : D} {u : V} (v : VE K H S ρ σ) (r : Rds K H S d u) : VE K H S (ρ.set i (.val d)) (σ.set i (some u)) := by
  refine ⟨by simpa using v.len, fun j x h => ?_, fun j k x y a hjk h1 h2 o1 o2 h3 => ?_, v.dom⟩
  · by_cases hj : i = j
    · subst hj
      have hi : i < ρ.length := by
        have := (List.getElem?_eq_some_iff.mp h).1
        simpa using this
      rw [List.getElem?_set_self hi] at h
      cases h
      exact ⟨some u, List.getElem?_set_self (v.len ▸ hi), u, rfl, r⟩
    · rw [List.getElem?_set_ne hj] at h ⊢
      exact v.rel j x h
  · have n1 : i ≠ j := fun z => by
      subst z
      have hi := (List.getElem?_eq_some_iff.mp h1).1
      rw [List.getElem?_set_self (by simpa using hi)] at h1; cases h1; exact o1
    have n2 : i ≠ k := fun z => by
      subst z
      have hi := (List.getElem?_eq_some_iff.mp h2).1
      rw [List.getElem?_set_self (by simpa using hi)] at h2; cases h2; exact o2
    rw [List.getElem?_set_ne n1] at h1 h3
    rw [List.getElem?_set_ne n2] at h2 ⊢
    exact v.dist j k x y a hjk h1 h2 o1 o2 h3
theorem VE.unset (v : VE K H S ρ σ) (h : ρ[i]? = some .nil) : σ[i]? = some none := by
  obtain ⟨w, h1, rfl⟩ := v.rel i _ h
  exact h1
end
/-! ### the judgements -/
/-- e comes to d, nothing is changed -/
def tD (K : PySem.W.Frag) (ρ : Rho) (d : D) : TE := fun σ H Q => ∃ S, VE K H S ρ σ ∧ ∀ v H', Ext0 H H' → Rds K H' S d v → Q v H'
def tDT (K : PySem.W.Frag) (ρ : Rho) (b : Bool) : TT := fun σ H Q => ∃ S, VE K H S ρ σ ∧ ∀ H', Ext0 H H' → Q b H'
def tDA (K : PySem.W.Frag) (ρ : Rho) (ds : List D) : TA := fun σ H Q => ∃ S, VE K H S ρ σ ∧ ∀ vs H', Ext0 H H' → RdsL K H' S ds vs → Q vs H'
def DE (X : Cx) (ρ : Rho) (e : Expr) (d : D) : Prop := PE X e (tD X.K ρ d)
def DT (X : Cx) (ρ : Rho) (e : Expr) (b : Bool) : Prop := PT X e (tDT X.K ρ b)
def DW (X : Cx) (ρ : Rho) (e : Expr) (b : Bool) : Prop := PW X e (tDT X.K ρ b)
def DA (X : Cx) (ρ : Rho) (es : List Expr) (ds : List D) : Prop := PA X es (tDA X.K ρ ds)
section
variable {X : Cx}
theorem PE.weak {e : Expr} {t t' : TE} (h : PE X e t) (w : ∀ σ H Q, t' σ H Q → t σ H Q) : PE X e t' := fun pins s σ H Q I q => h pins s σ H Q I (w σ H Q q)
theorem PT.weak {e : Expr} {t t' : TT} (h : PT X e t) (w : ∀ σ H Q, t' σ H Q → t σ H Q) : PT X e t' := fun pins s σ H Q I q => h pins s σ H Q I (w σ H Q q)
theorem PW.weak {e : Expr} {t t' : TT} (h : PW X e t) (w : ∀ σ H Q, t' σ H Q → t σ H Q) : PW X e t' := fun wh pins s σ H Q I q => h wh pins s σ H Q I (w σ H Q q)
theorem PA.weak {es : List Expr} {t t' : TA} (h : PA X es t) (w : ∀ σ H Q, t' σ H Q → t σ H Q) : PA X es t' := fun pos pins s σ H Q I q => h pos pins s σ H Q I (w σ H Q q)
theorem PS.weak {st : Stmt} {t t' : TS} (h : PS X st t) (w : ∀ D σ H, t' D σ H → t D σ H) : PS X st t' := fun pins s σ H D I q => h pins s σ H D I (w D σ H q)
theorem PSs.weak {st : List Stmt} {t t' : TS} (h : PSs X st t) (w : ∀ D σ H, t' D σ H → t D σ H) : PSs X st t' := fun pins s σ H D I q => h pins s σ H D I (w D σ H q)
variable {ρ : Rho} {a b c e : Expr} {pos : Pos} {d da db dc : D}
/-! ### names, constants -/
theorem de_var {i : Nat} {x : Str} (hN : X.N[i]? = some x) (hv : Vis X.env.scope x) (hr : ρ[i]? = some (.val d)) (hd : (x == ("__debug__" : Str)) = false := by decide) (hcd : (x == ("__classdict__" : Str)) = false := by decide) : DE X ρ (.Name x pos) d :=
  PE.weak (pe_var hN hv hd hcd) fun σ H Q ⟨S, ve, k⟩ => let ⟨u, h1, r⟩ := ve.get hr; ⟨u, h1, k u H Ext.refl r⟩
theorem de_int {i : Int} {j} : DE X ρ (.Constant (.int i) j pos) (.int i) := PE.weak pe_int fun σ H Q ⟨S, ve, k⟩ => k _ H Ext.refl (.int i)
theorem de_bl {q : Bool} {j} : DE X ρ (.Constant (.bool q) j pos) (.bl q) := PE.weak pe_bl fun σ H Q ⟨S, ve, k⟩ => k _ H Ext.refl (.bl q)
theorem de_non {j} : DE X ρ (.Constant .none j pos) .non := PE.weak pe_non fun σ H Q ⟨S, ve, k⟩ => k _ H Ext.refl .non
theorem de_str {x : Str} {j} : DE X ρ (.Constant (.str x) j pos) (.str x) := PE.weak pe_str fun σ H Q ⟨S, ve, k⟩ => k _ H Ext.refl (.str x)
theorem de_ty {x : Str} {n : String} (hg : Gl X x) (hm : X.mg x = none) (hv : bootBuiltins x = some (.type n)) (hn : x ≠ "__name__" := by decide) (hd : (x == ("__debug__" : Str)) = false := by decide) : DE X ρ (.Name x pos) (.ty n) :=
  PE.weak (pe_bltn hg hm hv (v := .ty n) rfl hn hd) fun σ H Q ⟨S, ve, k⟩ => k _ H Ext.refl (.ty n)
theorem de_cl {x : Str} {C : Addr} (hg : Gl X x) (hm : X.mg x = some (.ref C)) (hd : (x == ("__debug__" : Str)) = false := by decide) : DE X ρ (.Name x pos) (.cl C) :=
  PE.weak (pe_glob hg hm (v := .ref C) rfl hd) fun σ H Q ⟨S, ve, k⟩ => k _ H Ext.refl (.cl C)
theorem de_globI {x : Str} {i : Int} {t : Tok} (hg : Gl X x) (hm : X.mg x = some (.int i t)) (hd : (x == ("__debug__" : Str)) = false := by decide) : DE X ρ (.Name x pos) (.int i) :=
  PE.weak (pe_glob hg hm (v := .int i) ⟨t, rfl⟩ hd) fun σ H Q ⟨S, ve, k⟩ => k _ H Ext.refl (.int i)
/-! ### operations -/
/-- the operation r takes da and db to d -/
def R2D (K : PySem.W.Frag) (r : R2) (da db d : D) : Prop := ∀ (x y : V) (H : Hp) (S : Ad) (Q : VK), Rds K H S da x → Rds K H S db y → Dom H S → (∀ v H', Ext0 H H' → Rds K H' S d v → Q v H') → r x y H Q
theorem op_D {r : R2} (h : R2D X.K r da db d) (σ : St) (H : Hp) (Q : VK) (q : tD X.K ρ d σ H Q) : tOp r (tD X.K ρ da) (tD X.K ρ db) σ H Q := by
  obtain ⟨S, ve, k⟩ := q
  exact ⟨S, ve, fun x H1 e1 r1 => ⟨S, ve.ext e1, fun y H2 e2 r2 => h x y H2 S Q (r1.ext (e2.to S)) r2 ((ve.ext e1).ext e2).dom fun v H' e3 r3 => k v H' (e1.trans (e2.trans e3)) r3⟩⟩
theorem de_op {op : Operator} {r : R2} (ho : OpR X (binaryOp op) r) (h : R2D X.K r da db d) (ha : DE X ρ a da) (hb : DE X ρ b db) : DE X ρ (.BinOp a op b pos) d := PE.weak (pe_op ho ha hb) (op_D h)
theorem de_cmp {op : CmpOp} {r : R2} (ho : OpR X (compareOp op) r) (h : R2D X.K r da db d) (ha : DE X ρ a da) (hb : DE X ρ b db) (hm : behindInMarks op b = false) : DE X ρ (.Compare a [op] [b] pos) d := PE.weak (pe_cmpR ho ha hb hm) (op_D h)
theorem tD_test {te : TE} {q : Bool} (h : ∀ σ H Q, tD X.K ρ (.bl q) σ H Q → te σ H Q) (σ : St) (H : Hp) (Q : Bool → Hp → Prop) (w : tDT X.K ρ q σ H Q) : tB te σ H Q := by
  obtain ⟨S, ve, k⟩ := w
  exact h σ H _ ⟨S, ve, fun v H' e r => ⟨q, r.blV, k H' e⟩⟩
theorem dt_cmp {op : CmpOp} {r : R2} {q : Bool} (ho : OpR X (compareOp op) r) (h : R2D X.K r da db (.bl q)) (ha : DE X ρ a da) (hb : DE X ρ b db) (hm : behindInMarks op b = false) : DT X ρ (.Compare a [op] [b] pos) q := by
  refine PT.weak (pt_cmpR ho ha hb hm) fun σ H Q w => ?_
  obtain ⟨S, ve, k⟩ := w
  exact op_D h σ H _ ⟨S, ve, fun v H' e r => by rw [r.blV]; exact ⟨q, rfl, k H' e⟩⟩
/-- a value that is a truth, as a test -/
theorem dt_val {q : Bool} (h : DE X ρ e (.bl q)) (he : ∀ whole, isTrue e X.env whole = (do let v ← whole; standAt e.pos; holding [v] (truthy v)) := by intro _; rfl) : DT X ρ e q := PT.weak (pt_val h he) (tD_test fun _ _ _ w => w)
theorem r2_add {i j : Int} {K : PySem.W.Frag} : R2D K (rI0 fun i j => .int (i + j)) (.int i) (.int j) (.int (i + j)) := fun x y H S Q rx ry dm k => ⟨i, j, rx.intV, ry.intV, k _ H Ext.refl (.int _)⟩
theorem r2_sub {i j : Int} {K : PySem.W.Frag} : R2D K (rI0 fun i j => .int (i - j)) (.int i) (.int j) (.int (i - j)) := fun x y H S Q rx ry dm k => ⟨i, j, rx.intV, ry.intV, k _ H Ext.refl (.int _)⟩
theorem r2_mul {i j : Int} {K : PySem.W.Frag} (h : CMul i j) : R2D K (rI CMul fun i j => .int (i * j)) (.int i) (.int j) (.int (i * j)) := fun x y H S Q rx ry dm k => ⟨i, j, rx.intV, ry.intV, h, k _ H Ext.refl (.int _)⟩
theorem r2_mod {i j : Int} {K : PySem.W.Frag} (h : 0 < j) : R2D K (rI (fun _ j => 0 < j) fun i j => .int (i % j)) (.int i) (.int j) (.int (i % j)) := fun x y H S Q rx ry dm k => ⟨i, j, rx.intV, ry.intV, h, k _ H Ext.refl (.int _)⟩
theorem r2_fdiv {i j : Int} {K : PySem.W.Frag} (h : CDiv i j) : R2D K (rI CDiv fun i j => .int (i / j)) (.int i) (.int j) (.int (i / j)) := fun x y H S Q rx ry dm k => ⟨i, j, rx.intV, ry.intV, h, k _ H Ext.refl (.int _)⟩
theorem r2_cmp {i j : Int} {K : PySem.W.Frag} {g : Int → Int → Bool} : R2D K (rI0 fun i j => .bl (g i j)) (.int i) (.int j) (.bl (g i j)) := fun x y H S Q rx ry dm k => ⟨i, j, rx.intV, ry.intV, k _ H Ext.refl (.bl _)⟩
theorem de_add {i j : Int} (ha : DE X ρ a (.int i)) (hb : DE X ρ b (.int j)) : DE X ρ (.BinOp a .Add b pos) (.int (i + j)) := de_op op_add r2_add ha hb
theorem de_sub {i j : Int} (ha : DE X ρ a (.int i)) (hb : DE X ρ b (.int j)) : DE X ρ (.BinOp a .Sub b pos) (.int (i - j)) := de_op op_sub r2_sub ha hb
theorem de_mul {i j : Int} (h : CMul i j) (ha : DE X ρ a (.int i)) (hb : DE X ρ b (.int j)) : DE X ρ (.BinOp a .Mult b pos) (.int (i * j)) := de_op op_mul (r2_mul h) ha hb
theorem de_mod {i j : Int} (h : 0 < j) (ha : DE X ρ a (.int i)) (hb : DE X ρ b (.int j)) : DE X ρ (.BinOp a .Mod b pos) (.int (i % j)) := de_op op_mod (r2_mod h) ha hb
theorem de_fdiv {i j : Int} (h : CDiv i j) (ha : DE X ρ a (.int i)) (hb : DE X ρ b (.int j)) : DE X ρ (.BinOp a .FloorDiv b pos) (.int (i / j)) := de_op op_fdiv (r2_fdiv h) ha hb
theorem de_lt {i j : Int} (ha : DE X ρ a (.int i)) (hb : DE X ρ b (.int j)) : DE X ρ (.Compare a [.Lt] [b] pos) (.bl (decide (i < j))) := de_cmp op_lt r2_cmp ha hb (nomark _)
theorem de_le {i j : Int} (ha : DE X ρ a (.int i)) (hb : DE X ρ b (.int j)) : DE X ρ (.Compare a [.LtE] [b] pos) (.bl (decide (i ≤ j))) := de_cmp op_le r2_cmp ha hb (nomark _)
theorem de_ge {i j : Int} (ha : DE X ρ a (.int i)) (hb : DE X ρ b (.int j)) : DE X ρ (.Compare a [.GtE] [b] pos) (.bl (decide (j ≤ i))) := de_cmp op_ge r2_cmp ha hb (nomark _)
theorem dt_lt {i j : Int} (ha : DE X ρ a (.int i)) (hb : DE X ρ b (.int j)) : DT X ρ (.Compare a [.Lt] [b] pos) (decide (i < j)) := dt_cmp op_lt r2_cmp ha hb (nomark _)
theorem dt_gt {i j : Int} (ha : DE X ρ a (.int i)) (hb : DE X ρ b (.int j)) : DT X ρ (.Compare a [.Gt] [b] pos) (decide (j < i)) := dt_cmp op_gt r2_cmp ha hb (nomark _)
/-- scalars: == and != -/
def flat : D → Option V
  | .non => some .non | .bl b => some (.bl b) | .int i => some (.int i) | .str x => some (.str x)
  | _ => none
theorem flat_v {K : PySem.W.Frag} {H : Hp} {S : Ad} {d : D} {u v : V} (h : flat d = some u) (r : Rds K H S d v) : v = u := by
  cases r <;> (simp only [flat] at h; first | (cases h; rfl) | cases h)
theorem r2_eq {K : PySem.W.Frag} {u v : V} (ha : flat da = some u) (hb : flat db = some v) (hs : scal u v = true) : R2D K rEq da db (.bl (decide (u = v))) := fun x y H S Q rx ry dm k => by
  rw [flat_v ha rx, flat_v hb ry]
  exact ⟨hs, k _ H Ext.refl (.bl _)⟩
theorem r2_ne {K : PySem.W.Frag} {u v : V} (ha : flat da = some u) (hb : flat db = some v) (hs : scal u v = true) : R2D K rNe da db (.bl (!decide (u = v))) := fun x y H S Q rx ry dm k => by
  rw [flat_v ha rx, flat_v hb ry]
  exact ⟨hs, k _ H Ext.refl (.bl _)⟩
theorem dt_eqI {i j : Int} (ha : DE X ρ a (.int i)) (hb : DE X ρ b (.int j)) : DT X ρ (.Compare a [.Eq] [b] pos) (decide (i = j)) := by
  have := dt_cmp (pos := pos) op_eq (r2_eq (K := X.K) (da := .int i) (db := .int j) rfl rfl rfl) ha hb (nomark _)
  simpa using this
theorem dt_neI {i j : Int} (ha : DE X ρ a (.int i)) (hb : DE X ρ b (.int j)) : DT X ρ (.Compare a [.NotEq] [b] pos) (!decide (i = j)) := by
  have := dt_cmp (pos := pos) op_ne (r2_ne (K := X.K) (da := .int i) (db := .int j) rfl rfl rfl) ha hb (nomark _)
  simpa using this
theorem de_neg {i : Int} (ha : DE X ρ a (.int i)) : DE X ρ (.UnaryOp .USub a pos) (.int (-i)) :=
  PE.weak (pe_un un_neg ha) fun σ H Q ⟨S, ve, k⟩ => ⟨S, ve, fun v H' e r => ⟨i, r.intV, k _ H' e (.int _)⟩⟩
/-! ### and, or, not, if -/
theorem de_one {op} (h : DE X ρ a d) : DE X ρ (.BoolOp op [a] pos) d := pe_one h
theorem de_and {p q : Bool} {rest : List Expr} (ha : DE X ρ a (.bl p)) (hb : p = true → DE X ρ (.BoolOp .And (b :: rest) pos) (.bl q)) : DE X ρ (.BoolOp .And (a :: b :: rest) pos) (.bl (p && q)) := by
  cases p with
  | true => exact PE.weak (pe_and ha (hb rfl)) fun σ H Q ⟨S, ve, k⟩ => ⟨S, ve, fun v H' e r => ⟨true, r.blV, by refine iteT ?_; exact ⟨S, ve.ext e, fun v' H'' e' r' => k v' H'' (e.trans e') r'⟩⟩⟩
  | false =>
    have hn : PE X (.BoolOp .And (b :: rest) pos) (fun _ _ _ => False) := fun _ _ _ _ _ _ z => z.elim
    exact PE.weak (pe_and ha hn) fun σ H Q ⟨S, ve, k⟩ => ⟨S, ve, fun v H' e r => ⟨false, r.blV, by refine iteF ?_; exact k _ H' e (.bl _)⟩⟩
theorem de_not {p : Bool} (ha : DE X ρ a (.bl p)) : DE X ρ (.UnaryOp .Not a pos) (.bl (!p)) := PE.weak (pe_not ha) fun σ H Q ⟨S, ve, k⟩ => ⟨S, ve, fun v H' e r => ⟨p, r.blV, k _ H' e (.bl _)⟩⟩
theorem dt_not {p : Bool} (ha : DT X ρ a p) : DT X ρ (.UnaryOp .Not a pos) (!p) := PT.weak (pt_not ha) fun σ H Q ⟨S, ve, k⟩ => ⟨S, ve, fun H' e => k H' e⟩
theorem DW.dt {p : Bool} (h : DW X ρ e p) : DT X ρ e p := PW.pt h
theorem dw_and1 {p : Bool} (ha : DT X ρ a p) : DW X ρ (.BoolOp .And [a] pos) p := pw_and1 ha
theorem dw_or1 {p : Bool} (ha : DT X ρ a p) : DW X ρ (.BoolOp .Or [a] pos) p := pw_or1 ha
theorem dw_and {p q : Bool} {rest : List Expr} (ha : DT X ρ a p) (hb : p = true → DW X ρ (.BoolOp .And (b :: rest) pos) q) : DW X ρ (.BoolOp .And (a :: b :: rest) pos) (p && q) := by
  cases p with
  | true => exact PW.weak (pw_and ha (hb rfl)) fun σ H Q ⟨S, ve, k⟩ => ⟨S, ve, fun H' e => by refine iteT ?_; exact ⟨S, ve.ext e, fun H'' e' => k H'' (e.trans e')⟩⟩
  | false =>
    have hn : PW X (.BoolOp .And (b :: rest) pos) (fun _ _ _ => False) := fun _ _ _ _ _ _ _ z => z.elim
    exact PW.weak (pw_and ha hn) fun σ H Q ⟨S, ve, k⟩ => ⟨S, ve, fun H' e => by refine iteF ?_; exact k H' e⟩
theorem dw_or {p q : Bool} {rest : List Expr} (ha : DT X ρ a p) (hb : p = false → DW X ρ (.BoolOp .Or (b :: rest) pos) q) : DW X ρ (.BoolOp .Or (a :: b :: rest) pos) (p || q) := by
  cases p with
  | false => exact PW.weak (pw_or ha (hb rfl)) fun σ H Q ⟨S, ve, k⟩ => ⟨S, ve, fun H' e => by refine iteF ?_; exact ⟨S, ve.ext e, fun H'' e' => k H'' (e.trans e')⟩⟩
  | true =>
    have hn : PW X (.BoolOp .Or (b :: rest) pos) (fun _ _ _ => False) := fun _ _ _ _ _ _ _ z => z.elim
    exact PW.weak (pw_or ha hn) fun σ H Q ⟨S, ve, k⟩ => ⟨S, ve, fun H' e => by refine iteT ?_; exact k H' e⟩
/-! ### argument lists, displays, calls of built-ins, items -/
variable {es : List Expr} {ds : List D}
theorem da_nil : DA X ρ [] [] := PA.weak pa_nil fun σ H Q ⟨S, ve, k⟩ => k [] H Ext.refl .nil
theorem da_cons (ha : DE X ρ e d) (hr : DA X ρ es ds) (hs : starEach (e :: es) X.env = (false, eval e X.env) :: starEach es X.env := by rfl) : DA X ρ (e :: es) (d :: ds) :=
  PA.weak (pa_cons ha hr hs) fun σ H Q ⟨S, ve, k⟩ => ⟨S, ve, fun v H' e r => ⟨S, ve.ext e, fun vs H'' e' rs => k (v :: vs) H'' (e.trans e') (.cons (r.ext (e'.to S)) rs)⟩⟩
theorem de_tup {j} (h : DA X ρ es ds) (hl : ds.length ≤ sizeLine) : DE X ρ (.Tuple es j pos) (.tup ds) :=
  PE.weak (pe_tup h) fun σ H Q ⟨S, ve, k⟩ => ⟨S, ve, fun vs H' e rs => ⟨by rw [← rs.length]; exact hl, fun p hp => k _ _ (e.trans (Ext.new hp)) (Rds.newTup (ve.ext e).dom hp rs)⟩⟩
theorem de_lst (h : DA X ρ es ds) (hl : ds.length ≤ sizeLine) : DE X ρ (.List es pos) (.lst ds) :=
  PE.weak (pe_lst h) fun σ H Q ⟨S, ve, k⟩ => ⟨S, ve, fun vs H' e rs => ⟨by rw [← rs.length]; exact hl, fun p hp => k _ _ (e.trans (Ext.new hp)) (Rds.newLst (ve.ext e).dom hp rs)⟩⟩
/-- the call's rule r takes ds to d -/
def CD (K : PySem.W.Frag) (r : List V → Hp → VK → Prop) (ds : List D) (d : D) : Prop := ∀ (xs : List V) (H : Hp) (S : Ad) (Q : VK), RdsL K H S ds xs → Dom H S → (∀ v H', Ext0 H H' → Rds K H' S d v → Q v H') → r xs H Q
theorem call_D {r : List V → Hp → VK → Prop} (h : CD X.K r ds d) (σ : St) (H : Hp) (Q : VK) (q : tD X.K ρ d σ H Q) : tCB r (tDA X.K ρ ds) σ H Q := by
  obtain ⟨S, ve, k⟩ := q
  exact ⟨S, ve, fun vs H1 e1 rs => h vs H1 S Q rs (ve.ext e1).dom fun v H' e3 r3 => k v H' (e1.trans e3) r3⟩
end
end CT
set_option Elab.async false
set_option linter.all false
set_option maxRecDepth 100000
/-! THE DATA LAYER: what is walked, comprehensions, statements, defs -/
namespace CT
open PySem PySem.Spec L2
open PyProof.Rows hiding St
/-! ### what is walked -/
/-- J gives the items, in every later heap -/
def ItD (K : PySem.W.Frag) (S : Ad) (J : It) (its : List D) (H : Hp) : Prop :=
  ∀ (H' : Hp) (S' : Ad), Ext S H H' → (∀ a, S' a → S a ∨ H a = none) → Dom H' S' → ∀ i : Nat, (∀ d, its[i]? = some d → J.go i H' ∧ ∀ x H'', J.yld i H' x H'' → Ext0 H' H'' ∧ Rds K H'' S' d x) ∧ (its.length ≤ i → J.stop i H')
def tDI (K : PySem.W.Frag) (ρ : Rho) (its : List D) : TI := fun σ H R => ∃ S, VE K H S ρ σ ∧ ∀ J H', Ext0 H H' → ItD K S J its H' → R J H'
def DI (X : Cx) (tg : Expr) (ρ : Rho) (iter : Expr) (its : List D) : Prop := PI X tg iter (tDI X.K ρ its)
/-- .. in every later heap in which nothing is changed (a comprehension changes nothing) -/
def ItD0 (K : PySem.W.Frag) (S : Ad) (J : It) (its : List D) (H : Hp) : Prop :=
  ∀ H', Ext0 H H' → Dom H' S → ∀ i : Nat, (∀ d, its[i]? = some d → J.go i H' ∧ ∀ x H'', J.yld i H' x H'' → Ext0 H' H'' ∧ Rds K H'' S d x) ∧ (its.length ≤ i → J.stop i H')
def tDI0 (K : PySem.W.Frag) (ρ : Rho) (its : List D) : TI := fun σ H R => ∃ S, VE K H S ρ σ ∧ ∀ J H', Ext0 H H' → ItD0 K S J its H' → R J H'
def DI0 (X : Cx) (tg : Expr) (ρ : Rho) (iter : Expr) (its : List D) : Prop := PI X tg iter (tDI0 X.K ρ its)
section
variable {X : Cx} {tg e : Expr} {ρ : Rho} {pos : Pos}
theorem PI.weak {wi wi' : TI} (h : PI X tg e wi) (w : ∀ σ H R, wi' σ H R → wi σ H R) : PI X tg e wi' := fun pins s σ H R I q => h pins s σ H R I (w σ H R q)
theorem DI.dI0 {its : List D} (h : DI X tg ρ e its) : DI0 X tg ρ e its := PI.weak h fun σ H R ⟨S, ve, k⟩ => ⟨S, ve, fun J H' ex hJ => k J H' ex fun H'' ex' dm i => hJ H'' S (ex'.to S) (fun a h => .inl h) dm i⟩
theorem RdsL.later {K : PySem.W.Frag} {S S' : Ad} {H H' : Hp} {xs : List D} {vs : List V} (r : RdsL K H S xs vs) (e : Ext S H H') (h : ∀ a, S' a → S a ∨ H a = none) : RdsL K H' S' xs vs :=
  ((r.av (S' := fun a => S a ∨ S' a) fun a z => z.elim .inl (h a)).ext fun a o n q => e a o (fun z => n (.inl z)) q).av fun a z => .inl (.inr z)
theorem Rds.later_lst {K : PySem.W.Frag} {S : Ad} {H : Hp} {xs : List D} {v : V} (r : Rds K H S (.lst xs) v) : ∃ a vs, v = .ref a ∧ ∀ (H' : Hp) (S' : Ad), Ext S H H' → (∀ a, S' a → S a ∨ H a = none) → SqL K H' a vs ∧ RdsL K H' S' xs vs := by
  cases r with
  | lst h n r => exact ⟨_, _, rfl, fun H' S' e z => ⟨.inl (CT.Rd.ext e n h), r.later e z⟩⟩
  | lstK h r => exact ⟨_, _, rfl, fun H' S' e z => ⟨.inr h, r.later e z⟩⟩
theorem Rds.later_tup {K : PySem.W.Frag} {S : Ad} {H : Hp} {xs : List D} {v : V} (r : Rds K H S (.tup xs) v) : ∃ a vs, v = .ref a ∧ ∀ (H' : Hp) (S' : Ad), Ext S H H' → (∀ a, S' a → S a ∨ H a = none) → SqT K H' a vs ∧ RdsL K H' S' xs vs := by
  cases r with
  | tup h n r => exact ⟨_, _, rfl, fun H' S' e z => ⟨.inl (.inl (e _ _ n h)), r.later e z⟩⟩
theorem itd_lst {K : PySem.W.Frag} {S : Ad} {H : Hp} {xs : List D} {a : Addr} {vs : List V} (h : ∀ (H' : Hp) (S' : Ad), Ext S H H' → (∀ a, S' a → S a ∨ H a = none) → SqL K H' a vs ∧ RdsL K H' S' xs vs) : ItD K S (Itl K a) xs H := by
  intro H' S' e z dm i
  obtain ⟨sq, rl⟩ := h H' S' e z
  refine ⟨fun d hd => ?_, fun hi => ⟨vs, sq, by rw [← rl.length]; exact hi⟩⟩
  obtain ⟨v, hv, r⟩ := rl.get hd
  refine ⟨⟨vs, v, sq, hv⟩, fun x H'' y => ?_⟩
  obtain ⟨e2, y⟩ := y
  subst e2
  have hx := y vs sq
  rw [hv] at hx; cases hx
  exact ⟨Ext.refl, r⟩
theorem itd_tup {K : PySem.W.Frag} {S : Ad} {H : Hp} {xs : List D} {a : Addr} {vs : List V} (h : ∀ (H' : Hp) (S' : Ad), Ext S H H' → (∀ a, S' a → S a ∨ H a = none) → SqT K H' a vs ∧ RdsL K H' S' xs vs) : ItD K S (Itt K a) xs H := by
  intro H' S' e z dm i
  obtain ⟨sq, rl⟩ := h H' S' e z
  refine ⟨fun d hd => ?_, fun hi => ⟨vs, sq, by rw [← rl.length]; exact hi⟩⟩
  obtain ⟨v, hv, r⟩ := rl.get hd
  refine ⟨⟨vs, v, sq, hv⟩, fun x H'' y => ?_⟩
  obtain ⟨e2, y⟩ := y
  subst e2
  have hx := y vs sq
  rw [hv] at hx; cases hx
  exact ⟨Ext.refl, r⟩
theorem di_lst {xs : List D} (h : DE X ρ e (.lst xs)) : DI X tg ρ e xs := PI.weak (pi_list h) fun σ H R ⟨S, ve, k⟩ => ⟨S, ve, fun v H' ex r => by
  obtain ⟨a, vs, rfl, l⟩ := r.later_lst
  exact ⟨a, rfl, ⟨vs, (l H' S Ext.refl fun a h => .inl h).1⟩, k _ H' ex (itd_lst l)⟩⟩
theorem di_tup {xs : List D} (h : DE X ρ e (.tup xs)) : DI X tg ρ e xs := PI.weak (pi_tup h) fun σ H R ⟨S, ve, k⟩ => ⟨S, ve, fun v H' ex r => by
  obtain ⟨a, vs, rfl, l⟩ := r.later_tup
  exact ⟨a, rfl, ⟨vs, (l H' S Ext.refl fun a h => .inl h).1⟩, k _ H' ex (itd_tup l)⟩⟩
/-- 0, 1, .. -/
def upto (n : Nat) : List D := (List.range n).map fun k : Nat => D.int (k : Int)
theorem itd_rng {K : PySem.W.Frag} {S : Ad} {H : Hp} {n : Nat} : ItD K S (Itr 0 n) (upto n) H := by
  intro H' S' e z dm i
  refine ⟨fun d hd => ?_, fun hi => show n ≤ i by simpa [upto] using hi⟩
  have hi : i < n := by
    have := (List.getElem?_eq_some_iff.mp hd).1
    simpa [upto] using this
  refine ⟨hi, fun x H'' y => ?_⟩
  obtain ⟨e2, e3⟩ := y
  subst e2 e3
  have hd' : d = .int (i : Int) := by
    rw [upto, List.getElem?_map, List.getElem?_range hi] at hd
    exact (Option.some.inj hd).symm
  subst hd'
  rw [Int.zero_add]
  exact ⟨Ext.refl, .int _⟩
theorem di_range {a : Expr} {j : Int} {p : Pos} (hg : Gl X "range") (hm : X.mg "range" = none) (ha : DA X ρ [a] [.int j]) (h1 : -(2 ^ 62) ≤ j) (h2 : j < 2 ^ 62) (hs : starEach [a] X.env = [(false, eval a X.env)] := by rfl) : DI X tg ρ (.Call (.Name "range" p) [a] [] pos) (upto j.toNat) :=
  PI.weak (pi_range1 hg hm ha hs) fun σ H R ⟨S, ve, k⟩ => ⟨S, ve, fun vs H' ex rs => by
    obtain ⟨v, rfl, r⟩ := rs.one
    rw [r.intV]
    exact ⟨j, rfl, h1, h2, k _ H' ex itd_rng⟩⟩
/-- a sequence: a list or a tuple -/
inductive Sq : D → List D → Prop
  | lst (xs : List D) : Sq (.lst xs) xs
  | tup (xs : List D) : Sq (.tup xs) xs
theorem Sq.later {K : PySem.W.Frag} {S : Ad} {H : Hp} {d : D} {xs : List D} {v : V} (q : Sq d xs) (r : Rds K H S d v) : ∃ b a vs, v = .ref a ∧ ∀ (H' : Hp) (S' : Ad), Ext S H H' → (∀ a, S' a → S a ∨ H a = none) → SqB K H' b a vs ∧ RdsL K H' S' xs vs := by
  cases q with
  | lst => obtain ⟨a, vs, e, l⟩ := r.later_lst; exact ⟨false, a, vs, e, l⟩
  | tup => obtain ⟨a, vs, e, l⟩ := r.later_tup; exact ⟨true, a, vs, e, l⟩
theorem di_sq {d : D} {xs : List D} (q : Sq d xs) (h : DE X ρ e d) : DI X tg ρ e xs := by
  cases q with
  | lst => exact di_lst h
  | tup => exact di_tup h
end
/-! ### targets -/
def Chg (ks : List Nat) (σ σ' : St) : Prop := σ'.length = σ.length ∧ ∀ i : Nat, i ∉ ks → σ'[i]? = σ[i]?
theorem Chg.fgt {ks : List Nat} {σ σ' : St} (c : Chg ks σ σ') (h : ∀ k ∈ ks, σ[k]? = some none) : Fgt σ σ' := ⟨c.1.symm, fun i v e => by
  by_cases hi : i ∈ ks
  · rw [h i hi] at e; cases e
  · rw [c.2 i hi]; exact e⟩
theorem Chg.trans {ks ls : List Nat} {σ σ' σ'' : St} (a : Chg ks σ σ') (b : Chg ls σ' σ'') : Chg (ks ++ ls) σ σ'' := ⟨b.1.trans a.1, fun i hi => by
  rw [List.mem_append, not_or] at hi
  exact (b.2 i hi.2).trans (a.2 i hi.1)⟩
def tDG (K : PySem.W.Frag) (ρ : Rho) (d : D) (ρ' : Rho) (ks : List Nat) : TG := fun v σ H Q => ∃ S, VE K H S ρ σ ∧ Rds K H S d v ∧ ∀ σ', VE K H S ρ' σ' → Chg ks σ σ' → Q σ' H
def DG (X : Cx) (tg : Expr) (ρ : Rho) (d : D) (ρ' : Rho) (ks : List Nat) : Prop := PG X tg (tDG X.K ρ d ρ' ks)
section
variable {X : Cx} {ρ ρ' ρ'' : Rho} {d : D} {ds : List D} {ks ls : List Nat} {pos : Pos} {tg : Expr} {tgs : List Expr}
theorem PG.weak {g g' : TG} (h : PG X tg g) (w : ∀ v σ H Q, g' v σ H Q → g v σ H Q) : PG X tg g' := fun pins s σ H v u Q I r q => h pins s σ H v u Q I r (w v σ H Q q)
theorem PGs.weak {g g' : TGs} (h : PGs X tgs g) (w : ∀ v σ H Q, g' v σ H Q → g v σ H Q) : PGs X tgs g' := fun pins s σ H v u Q I r q => h pins s σ H v u Q I r (w v σ H Q q)
theorem dg_name {k : Nat} {x : Str} (hN : X.N.Nodup) (hi : X.N[k]? = some x) (hx : Loc X.env.scope x) (hf : X.fn x = true ∨ X.env.scope.names.lookup x = some .local := by first | exact .inl rfl | exact .inr rfl | assumption) : DG X (.Name x pos) ρ d (ρ.set k (.val d)) [k] :=
  PG.weak (pg_name hN hi hx hf) fun v σ H Q ⟨S, ve, r, q⟩ => q _ (ve.set r) ⟨by simp, fun i hi => by
    rw [List.getElem?_set_ne]
    intro z; exact hi (by simp [z])⟩
end
/-! ### comprehensions -/
def tDB (K : PySem.W.Frag) (ρ : Rho) (out : List D) : TB := fun σ H ys Q => ∃ S, VE K H S ρ σ ∧ ys.length + out.length ≤ sizeLine ∧ ∀ vs H', Ext0 H H' → RdsL K H' S out vs → Q (ys ++ vs) H'
def DB (Y : Cx) (acc : Addr) (m : Sem Unit) (ρ : Rho) (out : List D) : Prop := PB Y acc m (tDB Y.K ρ out)
def DTs (Y : Cx) (ρ : Rho) (ifs : List Expr) (b : Bool) : Prop := PTs Y ifs (tDT Y.K ρ b)
theorem PB.weak {Y : Cx} {acc : Addr} {m : Sem Unit} {t t' : TB} (h : PB Y acc m t) (w : ∀ σ H ys Q, t' σ H ys Q → t σ H ys Q) : PB Y acc m t' := fun pins s σ H ys Q I f a q => h pins s σ H ys Q I f a (w σ H ys Q q)
theorem PTs.weak {Y : Cx} {ifs : List Expr} {t t' : TT} (h : PTs Y ifs t) (w : ∀ σ H Q, t' σ H Q → t σ H Q) : PTs Y ifs t' := fun pins s σ H Q I q => h pins s σ H Q I (w σ H Q q)
section
variable {Y : Cx} {acc : Addr} {ρ : Rho} {d : D}
theorem dts_nil : DTs Y ρ [] true := PTs.weak pts_nil fun σ H Q ⟨S, ve, k⟩ => k H Ext.refl
theorem db_emit {elt : Expr} (he : DE Y ρ elt d) : DB Y acc (do let _ ← call (.builtin "list.append") [.ref acc, ← eval elt Y.env]) ρ [d] :=
  PB.weak (pb_emit he) fun σ H ys Q ⟨S, ve, hl, k⟩ => ⟨Nat.le_trans (Nat.le_add_right _ _) hl, S, ve, fun v H' e r => k [v] H' e (.cons r .nil)⟩
/-- one turn: the target is set, the tests are b, out comes -/
def TurnD (G : Rho → D → Rho → List Nat → Prop) (T : Rho → Bool → Prop) (B : Rho → List D → Prop) (ρ : Rho) (ks : List Nat) (d : D) (out : List D) : Prop :=
  ∃ ρ' b, G ρ d ρ' ks ∧ T ρ' b ∧ (b = true → B ρ' out) ∧ (b = false → out = [])
/-- the readings of a loop whose turns are known -/
def gA (K : PySem.W.Frag) (G : Rho → D → Rho → List Nat → Prop) : TG := fun v σ H Q => ∃ ρ d ρ' ks, G ρ d ρ' ks ∧ tDG K ρ d ρ' ks v σ H Q
def ttA (K : PySem.W.Frag) (T : Rho → Bool → Prop) : TT := fun σ H Q => ∃ ρ b, T ρ b ∧ tDT K ρ b σ H Q
def tbA (K : PySem.W.Frag) (B : Rho → List D → Prop) : TB := fun σ H ys Q => ∃ ρ out, B ρ out ∧ tDB K ρ out σ H ys Q
theorem pg_A {tg : Expr} {G : Rho → D → Rho → List Nat → Prop} (h : ∀ ρ d ρ' ks, G ρ d ρ' ks → DG Y tg ρ d ρ' ks) : PG Y tg (gA Y.K G) := fun pins s σ H v u Q I r ⟨_, _, _, _, g, q⟩ => h _ _ _ _ g pins s σ H v u Q I r q
theorem pts_A {ifs : List Expr} {T : Rho → Bool → Prop} (h : ∀ ρ b, T ρ b → DTs Y ρ ifs b) : PTs Y ifs (ttA Y.K T) := fun pins s σ H Q I ⟨_, _, g, q⟩ => h _ _ g pins s σ H Q I q
theorem pb_A {m : Sem Unit} {B : Rho → List D → Prop} (h : ∀ ρ out, B ρ out → DB Y acc m ρ out) : PB Y acc m (tbA Y.K B) := fun pins s σ H ys Q I f a ⟨_, _, g, q⟩ => h _ _ g pins s σ H ys Q I f a q
theorem flatten_step {outs : List (List D)} {i : Nat} (h : i < outs.length) : (outs.take (i + 1)).flatten = (outs.take i).flatten ++ outs[i] := by
  rw [List.take_succ_eq_append_getElem h, List.flatten_append]
  simp
theorem loop_D {K : PySem.W.Frag} {G : Rho → D → Rho → List Nat → Prop} {T : Rho → Bool → Prop} {B : Rho → List D → Prop} {ks : List Nat} {J : It} {its : List D} {outs : List (List D)} (hks : ∀ k ∈ ks, ρ[k]? = some .nil) (hl : its.length = outs.length)
    (ht : ∀ (i : Nat) d out, its[i]? = some d → outs[i]? = some out → TurnD G T B ρ ks d out) {σ : St} {H : Hp} {S : Ad} {ys : List V} {Q : List V → Hp → Prop} (ve : VE K H S ρ σ) (hJ : ItD0 K S J its H) (hz : ys.length + outs.flatten.length ≤ sizeLine)
    (q : ∀ vs H', Ext0 H H' → RdsL K H' S outs.flatten vs → Q (ys ++ vs) H') : tLoop (gA K G) (ttA K T) (tbA K B) J σ H ys Q := by
  refine ⟨fun i n ys' H' => n = its.length - i ∧ i ≤ its.length ∧ Ext0 H H' ∧ ∃ vs, ys' = ys ++ vs ∧ RdsL K H' S (outs.take i).flatten vs, ⟨its.length, by simp, Nat.zero_le _, Ext.refl, [], by simp, by simpa using RdsL.nil⟩, ?_⟩
  rintro i n ys' H' ⟨rfl, hi, ex, vs, rfl, rv⟩
  have dm := (ve.ext ex).dom
  obtain ⟨J1, J2⟩ := hJ H' ex dm i
  by_cases hlt : i < its.length
  · have hlo : i < outs.length := hl ▸ hlt
    have hd : its[i]? = some its[i] := by simp [hlt]
    have ho : outs[i]? = some outs[i] := by simp [hlo]
    obtain ⟨go, yld⟩ := J1 _ hd
    obtain ⟨ρ', b, hg, hts, hb1, hb2⟩ := ht i _ _ hd ho
    have step := flatten_step hlo
    have lenO : (outs.take i).flatten.length + outs[i].length ≤ outs.flatten.length := by
      have e : outs.flatten = (outs.take (i + 1)).flatten ++ (outs.drop (i + 1)).flatten := by rw [← List.flatten_append, List.take_append_drop]
      rw [e, step, List.length_append, List.length_append]
      omega
    refine .inr ⟨go, fun x H1 y => ?_⟩
    obtain ⟨e1, r1⟩ := yld x H1 y
    have ve1 := (ve.ext ex).ext e1
    refine ⟨ρ, its[i], ρ', ks, hg, S, ve1, r1, fun σ2 ve2 c => ⟨c.fgt fun k hk => ve.unset (hks k hk), ρ', b, hts, S, ve2, fun H2 e2 => ?_⟩⟩
    cases b with
    | true =>
      refine iteT ⟨ρ', _, hb1 rfl, S, ve2.ext e2, ?_, fun us H3 e3 ru => ⟨its.length - (i + 1), by omega, rfl, hlt, ex.trans (e1.trans (e2.trans e3)), vs ++ us, by rw [List.append_assoc], ?_⟩⟩
      · rw [List.length_append, ← rv.length]
        omega
      · rw [step]
        exact RdsL.app (rv.ext ((e1.trans (e2.trans e3)).to S)) ru
    | false =>
      refine iteF ⟨its.length - (i + 1), by omega, rfl, hlt, ex.trans (e1.trans e2), vs, rfl, ?_⟩
      rw [step, hb2 rfl, List.append_nil]
      exact rv.ext ((e1.trans e2).to S)
  · have e : i = its.length := by omega
    subst e
    refine .inl ⟨J2 (Nat.le_refl _), q vs H' ex ?_⟩
    rw [hl, List.take_length] at rv
    exact rv
end
/-- the block's slots -/
def capS : Option Sl → Sl
  | some (.val d) => .val d
  | some .nil => .nil
  | _ => .any
def cR (own : List Str) (cap : List (Str × Nat)) (ρ : Rho) : Rho := own.map (fun _ => .nil) ++ cap.map fun p => capS ρ[p.2]?
theorem capS_own {o : Option Sl} : ¬ (capS o).owns := by
  unfold capS
  split <;> exact fun h => h
theorem VE.cap {K : PySem.W.Frag} {H : Hp} {S : Ad} {ρ : Rho} {σ : St} {own : List Str} {cap : List (Str × Nat)} (ve : VE K H S ρ σ) : VE K H S (cR own cap ρ) (cS own cap σ) := by
  have nown : ∀ (i : Nat) (x : Sl), (cR own cap ρ)[i]? = some x → ¬ x.owns := fun i x h o => by
    have hm := List.mem_of_getElem? h
    unfold cR at hm
    rcases List.mem_append.mp hm with hm | hm
    · obtain ⟨y, _, e⟩ := List.mem_map.mp hm; rw [← e] at o; exact o
    · obtain ⟨p, _, e⟩ := List.mem_map.mp hm; rw [← e] at o; exact capS_own o
  refine ⟨by simp [cR, cS], fun i x h => ?_, fun i j x y a _ h _ o => absurd o (nown i x h), ve.dom⟩
  unfold cR at h
  unfold cS
  by_cases hi : i < own.length
  · rw [List.getElem?_append_left (by simpa using hi), List.getElem?_map] at h
    rw [List.getElem?_append_left (by simpa using hi), List.getElem?_map]
    cases hq : own[i]? with
    | none => rw [hq] at h; cases h
    | some y => rw [hq] at h; cases h; exact ⟨none, rfl, rfl⟩
  · have hi' : own.length ≤ i := Nat.le_of_not_lt hi
    rw [List.getElem?_append_right (by simpa using hi'), List.getElem?_map, List.length_map] at h
    rw [List.getElem?_append_right (by simpa using hi'), List.getElem?_map, List.length_map]
    cases hq : cap[i - own.length]? with
    | none => rw [hq] at h; cases h
    | some p =>
      rw [hq] at h
      have e : capS ρ[p.2]? = x := Option.some.inj h
      refine ⟨_, rfl, ?_⟩
      subst e
      cases hr : ρ[p.2]? with
      | none => trivial
      | some y =>
        cases y with
        | nil => show (σ[p.2]?).join = none; rw [ve.unset hr]; rfl
        | any => trivial
        | own xs => trivial
        | new C x dx fs => trivial
        | val d =>
          obtain ⟨u, hu, r⟩ := ve.get hr
          exact ⟨u, by show (σ[p.2]?).join = some u; rw [hu]; rfl, r⟩
section
variable {X : Cx} {scope : Scope} {own : List Str} {cap : List (Str × Nat)} {ρ : Rho} {elt tg iter : Expr} {ifs : List Expr} {rest : List Comprehension} {pos : Pos} {ks : List Nat} {its : List D} {outs : List (List D)}
/-- a comprehension that comes to ds, as a value and where a name is set to it -/
structure DC (X : Cx) (ρ : Rho) (e : Expr) (ds : List D) : Prop where
  /-- the list is new -/
  pe : PE X e (fun σ H Q => ∃ S, VE X.K H S ρ σ ∧ ∀ a vs H', Ext0 H H' → H' a = none → RdsL X.K H' S ds vs → Q (.ref a) (upd H' a (.lst vs)))
  ps : ∀ (i : Nat) (x : Str) (pos' spos : Pos), X.N.Nodup → X.N[i]? = some x → Loc X.env.scope x → (X.fn x = true ∨ X.env.scope.names.lookup x = some .local) → swapsWith e (some (.Name x pos')) spos.line X.env = pure true →
    PS X (.Assign [.Name x pos'] e spos) (tAsg (fun σ H Q => ∃ S, VE X.K H S ρ σ ∧ ∀ a vs H', Ext0 H H' → H' a = none → RdsL X.K H' S ds vs → Q (.ref a) (upd H' a (.lst vs))) (gName i))
theorem dc_comp (cs : CS X scope own cap) (hc : X.calm = true) (hi : DI0 X tg ρ iter its) (hks : ∀ k ∈ ks, (cR own cap ρ)[k]? = some .nil) (hl : its.length = outs.length) (hz : outs.flatten.length ≤ sizeLine)
    (ht : ∀ (i : Nat) d out, its[i]? = some d → outs[i]? = some out → TurnD (fun ρ d ρ' ks => ∀ p s h f, DG (cX X scope own cap p s h f) tg ρ d ρ' ks) (fun ρ b => ∀ p s h f, DTs (cX X scope own cap p s h f) ρ ifs b)
      (fun ρ out => ∀ p s h f acc, DB (cX X scope own cap p s h f) acc (insideOf elt (⟨tg, iter, ifs, 0⟩ :: rest) scope pos 0 (.ref acc) (cEnv X scope s.heap.objs.size)) ρ out) (cR own cap ρ) ks d out)
    (hs : ∀ x, foldedSetIterable iter X.env x = pure x := by intro _; rfl) : DC X ρ (.ListComp elt (⟨tg, iter, ifs, 0⟩ :: rest) scope pos) outs.flatten := by
  have rd : ∀ (σ : St) (H : Hp) (Q : VK), (∃ S, VE X.K H S ρ σ ∧ ∀ a vs H', Ext0 H H' → H' a = none → RdsL X.K H' S outs.flatten vs → Q (.ref a) (upd H' a (.lst vs))) →
      tComp own cap (tDI0 X.K ρ its) (gA X.K _) (ttA X.K _) (tbA X.K _) σ H Q := fun σ H Q ⟨S, ve, k⟩ => ⟨S, ve, fun J H1 e1 hJ => loop_D hks hl ht (ve.ext e1).cap hJ (by simpa using hz) fun vs H2 e2 r => ⟨by rw [List.nil_append, ← r.length]; exact hz, fun a ha => by
    rw [List.nil_append]; exact k a vs H2 (e1.trans e2) ha r⟩⟩
  have g1 : ∀ p s h f, PG (cX X scope own cap p s h f) tg (gA X.K (fun ρ d ρ' ks => ∀ p s h f, DG (cX X scope own cap p s h f) tg ρ d ρ' ks)) := fun p s h f => pg_A (Y := cX X scope own cap p s h f) fun _ _ _ _ g => g p s h f
  have g2 : ∀ p s h f, PTs (cX X scope own cap p s h f) ifs (ttA X.K (fun ρ b => ∀ p s h f, DTs (cX X scope own cap p s h f) ρ ifs b)) := fun p s h f => pts_A (Y := cX X scope own cap p s h f) fun _ _ g => g p s h f
  have g3 : ∀ p s h f acc, PB (cX X scope own cap p s h f) acc (insideOf elt (⟨tg, iter, ifs, 0⟩ :: rest) scope pos 0 (.ref acc) (cEnv X scope s.heap.objs.size)) (tbA X.K (fun ρ out => ∀ p s h f acc, DB (cX X scope own cap p s h f) acc (insideOf elt (⟨tg, iter, ifs, 0⟩ :: rest) scope pos 0 (.ref acc) (cEnv X scope s.heap.objs.size)) ρ out)) :=
    fun p s h f acc => pb_A (Y := cX X scope own cap p s h f) fun _ _ g => g p s h f acc
  refine ⟨PE.weak (pe_comp cs hc hi g1 g2 g3 hs) rd, fun i x pos' spos hN hix hx hf hsw => PS.weak (ps_comp cs hc hN hix hx hi g1 g2 g3 hsw hs hf) fun D σ H q => rd σ H _ q⟩
theorem DC.de {e : Expr} {ds : List D} (h : DC X ρ e ds) : DE X ρ e (.lst ds) := PE.weak h.pe fun σ H Q ⟨S, ve, k⟩ => ⟨S, ve, fun a vs H' e hp r => k _ _ (e.trans (Ext.new hp)) (Rds.newLst (ve.ext e).dom hp r)⟩
theorem getmap {α β : Type} {l : List α} {g : α → β} {i : Nat} {b : β} (h : (l.map g)[i]? = some b) : ∃ a, l[i]? = some a ∧ g a = b := by
  rw [List.getElem?_map] at h
  cases e : l[i]? with
  | none => rw [e] at h; cases h
  | some a => rw [e] at h; exact ⟨a, rfl, Option.some.inj h⟩
theorem flat_single {α : Type} {l : List α} {f : α → D} : (l.map fun a => [f a]).flatten = l.map f := by
  induction l with
  | nil => rfl
  | cons a l ih => simp only [List.map_cons, List.flatten_cons, ih]; rfl
variable {α : Type} {l : List α} {f g : α → D} {x : Str} {k : Nat} {px : Pos}
/-- [elt for x in iter] -/
theorem dc_map (cs : CS X scope own cap) (hc : X.calm = true) (hk : own[k]? = some x) (hi : DI0 X (.Name x px) ρ iter (l.map g)) (hz : l.length ≤ sizeLine)
    (he : ∀ a ∈ l, ∀ p s h fp, DE (cX X scope own cap p s h fp) ((cR own cap ρ).set k (.val (g a))) elt (f a))
    (hs : ∀ x, foldedSetIterable iter X.env x = pure x := by intro _; rfl) : DC X ρ (.ListComp elt [⟨.Name x px, iter, [], 0⟩] scope pos) (l.map f) := by
  have hown := (List.getElem?_eq_some_iff.mp hk).1
  rw [← flat_single]
  refine dc_comp (ks := [k]) (outs := l.map fun a => [f a]) cs hc hi (fun j hj => ?_) (by simp) (by rw [flat_single, List.length_map]; exact hz) (fun i d out h1 h2 => ?_) hs
  · have e : j = k := by simpa using hj
    subst e
    unfold cR
    rw [List.getElem?_append_left (by simpa using hown), List.getElem?_map, hk]; rfl
  · obtain ⟨a, ea, rfl⟩ := getmap h1
    obtain ⟨a', ea', rfl⟩ := getmap h2
    rw [ea] at ea'; cases ea'
    refine ⟨_, true, fun p s h fp => PG.weak (cg cs hk) ?_, fun p s h fp => dts_nil, fun _ p s h fp acc => db_emit (Y := cX X scope own cap p s h fp) (he a (List.mem_of_getElem? ea) p s h fp), fun z => nomatch z⟩
    intro v σ H Q ⟨S, ve, r, q⟩
    exact q _ (ve.set r) ⟨by simp, fun i hi => by
      rw [List.getElem?_set_ne]
      intro z; exact hi (by simp [z])⟩
end
end CT
set_option Elab.async false
set_option linter.all false
set_option maxRecDepth 100000
/-! THE DATA LAYER: statements, defs, calls -/
namespace CT
open PySem PySem.Spec L2
open PyProof.Rows hiding St
/-- how a statement ends: onward with the slots ρ; with the value d; with a new list -/
inductive Out where
  | nx (ρ : Rho) | rt (d : D) | rf (xs : List D)
abbrev Ad.and (S : Ad) (a : Addr) : Ad := fun b => S b ∨ b = a
/-- the frame: H₀, S₀ at the def's entry, H, S now -/
structure Fm (K : PySem.W.Frag) (H₀ : Hp) (S₀ : Ad) (H : Hp) (S : Ad) (ρ : Rho) (σ : St) : Prop where
  ve : VE K H S ρ σ
  ext : Ext0 H₀ H
  sub : ∀ a, S₀ a → S a
  new : ∀ a, S a → S₀ a ∨ H₀ a = none
  dm : Dom H₀ S₀
  own : ∀ (i : Nat) (x : Sl) (a : Addr), ρ[i]? = some x → x.owns → σ[i]? = some (some (.ref a)) → H₀ a = none
def OutK (K : PySem.W.Frag) (H₀ : Hp) (S₀ : Ad) (E : Ends) : Out → Prop
  | .nx ρ' => ∀ σ' H' S', Fm K H₀ S₀ H' S' ρ' σ' → E.nx σ' H'
  | .rt d => ∀ v H', Ext0 H₀ H' → Rds K H' S₀ d v → E.rt v H'
  | .rf xs => ∀ a vs H', Ext0 H₀ H' → H₀ a = none → H' a = some (.lst vs) → RdsL K H' (S₀.and a) xs vs → E.rt (.ref a) H'
def tDS (K : PySem.W.Frag) (ρ : Rho) (o : Out) : TS := fun E σ H => ∃ H₀ S₀ S, Fm K H₀ S₀ H S ρ σ ∧ OutK K H₀ S₀ E o
def DS (X : Cx) (ρ : Rho) (st : Stmt) (o : Out) : Prop := PS X st (tDS X.K ρ o)
def DSs (X : Cx) (ρ : Rho) (sts : List Stmt) (o : Out) : Prop := PSs X sts (tDS X.K ρ o)
/-- e comes to a new list -/
def tDF (K : PySem.W.Frag) (ρ : Rho) (xs : List D) : TE := fun σ H Q => ∃ S, VE K H S ρ σ ∧ ∀ a vs H', Ext0 H H' → H a = none → H' a = some (.lst vs) → RdsL K H' (S.and a) xs vs → Q (.ref a) H'
def DF (X : Cx) (ρ : Rho) (e : Expr) (xs : List D) : Prop := PE X e (tDF X.K ρ xs)
section
variable {K : PySem.W.Frag} {H₀ H H' : Hp} {S₀ S : Ad} {ρ : Rho} {σ : St}
theorem Ext.back {a : Addr} (e : Ext0 H H') (h : H' a = none) : H a = none := by
  cases q : H a with
  | none => rfl
  | some o => rw [e a o (fun z => z) q] at h; cases h
theorem Fm.grow (f : Fm K H₀ S₀ H S ρ σ) (e : Ext0 H H') : Fm K H₀ S₀ H' S ρ σ := ⟨f.ve.ext e, f.ext.trans e, f.sub, f.new, f.dm, f.own⟩
theorem Fm.set {i : Nat} {d : D} {u : V} (f : Fm K H₀ S₀ H S ρ σ) (r : Rds K H S d u) : Fm K H₀ S₀ H S (ρ.set i (.val d)) (σ.set i (some u)) := ⟨f.ve.set r, f.ext, f.sub, f.new, f.dm, fun j x a h o h2 => by
  by_cases hj : i = j
  · subst hj
    have hi := (List.getElem?_eq_some_iff.mp h).1
    rw [List.getElem?_set_self (by simpa using hi)] at h; cases h; exact o.elim
  · rw [List.getElem?_set_ne hj] at h h2
    exact f.own j x a h o h2⟩
theorem Fm.out (f : Fm K H₀ S₀ H S ρ σ) {d : D} {v : V} (r : Rds K H S d v) : Rds K H S₀ d v := r.av fun a h => .inl (f.sub a h)
theorem RO.av {S' : Ad} {x : Sl} {v : Option V} (e : ∀ a, S' a → S a ∨ H a = none) (up : ∀ a, v = some (.ref a) → S a → S' a) (r : RO K H S x v) : RO K H S' x v := by
  cases x with
  | nil => exact r
  | any => trivial
  | val d => obtain ⟨u, h, r⟩ := r; exact ⟨u, h, r.av e⟩
  | own xs => obtain ⟨a, vs, h, s, o, r⟩ := r; exact ⟨a, vs, h, up a h s, o, r.av e⟩
  | new C x dx fs => obtain ⟨gs, h, s, o, r⟩ := r; exact ⟨gs, h, up _ h s, o, r.av e⟩
/-- fields -/
def putD (f : Str) (d : D) : List (Str × D) → List (Str × D)
  | [] => [(f, d)]
  | (g, x) :: r => if g = f then (g, d) :: r else (g, x) :: putD f d r
theorem RdsF.put {f : Str} {d : D} {v : V} (q : Rds K H S d v) : ∀ {ds : List (Str × D)} {vs : List (Str × V)}, RdsF K H S ds vs → RdsF K H S (putD f d ds) (putF f v vs)
  | [], _, .nil => .cons q .nil
  | (n, x) :: r, _, .cons q' t => by
    unfold putD putF
    split
    · exact .cons q t
    · exact .cons q' (RdsF.put q t)
theorem RdsF.len : ∀ {ds : List (Str × D)} {vs : List (Str × V)}, RdsF K H S ds vs → ds.length = vs.length
  | [], _, .nil => rfl
  | _ :: _, _, .cons _ t => by rw [List.length_cons, List.length_cons, RdsF.len t]
/-- the instance that is made gets a field -/
theorem Fm.putNew {i : Nat} {C a dx : Addr} {fs hs : List (Str × D)} {us : List (Str × V)} (f : Fm K H₀ S₀ H S ρ σ) (hr : ρ[i]? = some (.new C a dx fs)) (r : RdsF K H S hs us) : Fm K H₀ S₀ (upd H a (.ins C dx us)) S (ρ.set i (.new C a dx hs)) σ := by
  have hi := (List.getElem?_eq_some_iff.mp hr).1
  obtain ⟨v, hs', gs, z, sa, ha, _⟩ := f.ve.rel i _ hr
  subst z
  have e : Ext S H (upd H a (.ins C dx us)) := Ext.set sa
  refine ⟨⟨by simpa using f.ve.len, fun j x h => ?_, fun j k x y b hjk h1 h2 o1 o2 h3 => ?_, fun b h z => ?_⟩, fun b o n h => ?_, f.sub, f.new, f.dm, fun j x b h o h2 => ?_⟩
  · by_cases hj : i = j
    · subst hj
      rw [List.getElem?_set_self hi] at h
      cases h
      exact ⟨_, hs', us, rfl, sa, upd_same, r.ext e⟩
    · rw [List.getElem?_set_ne hj] at h
      obtain ⟨v, h1, h2⟩ := f.ve.rel j x h
      refine ⟨v, h1, ?_⟩
      cases x with
      | nil => exact h2
      | any => trivial
      | val d => obtain ⟨u, p, r⟩ := h2; exact ⟨u, p, r.ext e⟩
      | own zs =>
        obtain ⟨b, ws, p, s, o, r⟩ := h2
        subst p
        have nb : b ≠ a := fun z => f.ve.dist i j _ _ a hj hr h trivial trivial hs' (by rw [h1, z])
        exact ⟨b, ws, rfl, s, by rw [upd_ne nb]; exact o, r.ext e⟩
      | new C b dx fs =>
        obtain ⟨gs, p, s, o, r⟩ := h2
        subst p
        have nb : b ≠ a := fun z => f.ve.dist i j _ _ a hj hr h trivial trivial hs' (by rw [h1, z])
        exact ⟨gs, rfl, s, by rw [upd_ne nb]; exact o, r.ext e⟩
  · by_cases hj : i = j
    · subst hj
      rw [List.getElem?_set_ne hjk] at h2
      exact f.ve.dist i k _ y b hjk hr h2 trivial o2 h3
    · rw [List.getElem?_set_ne hj] at h1
      by_cases hk : i = k
      · subst hk
        exact f.ve.dist j i x _ b hjk h1 hr o1 trivial h3
      · rw [List.getElem?_set_ne hk] at h2
        exact f.ve.dist j k x y b hjk h1 h2 o1 o2 h3
  · by_cases hb : b = a
    · rw [hb, upd_same] at z; cases z
    · rw [upd_ne hb] at z; exact f.ve.dom b h z
  · have nb : b ≠ a := fun z => by
      have := f.own i _ a hr trivial hs'
      rw [← z, h] at this; cases this
    rw [upd_ne nb]; exact f.ext b o n h
  · by_cases hj : i = j
    · subst hj
      exact f.own i _ b hr trivial h2
    · rw [List.getElem?_set_ne hj] at h
      exact f.own j x b h o h2
end
section
variable {X : Cx} {ρ ρ' : Rho} {e : Expr} {d : D} {st : Stmt} {sts : List Stmt} {o : Out} {pos : Pos} {xs : List D}
theorem DF.de (h : DF X ρ e xs) : DE X ρ e (.lst xs) := PE.weak h fun σ H Q ⟨S, ve, k⟩ => ⟨S, ve, fun a vs H' ex hn ha r => k _ H' ex (.lst (.inl ha) (ve.dom.not hn) (r.av fun b h => .inl (.inl h)))⟩
theorem df_lst {es : List Expr} (h : DA X ρ es xs) (hl : xs.length ≤ sizeLine) : DF X ρ (.List es pos) xs :=
  PE.weak (pe_lst h) fun σ H Q ⟨S, ve, k⟩ => ⟨S, ve, fun vs H' ex rs => ⟨by rw [← rs.length]; exact hl, fun p hp => k p vs _ (ex.trans (Ext.new hp)) (ex.back hp) upd_same ((rs.av (S' := S.and p) fun b h => h.imp_right fun z => by rw [z]; exact hp).ext ((Ext.new hp).to _))⟩⟩
/-! ### blocks -/
theorem dss_nil : DSs X ρ [] (.nx ρ) := PSs.weak pss_nil fun E σ H ⟨H₀, S₀, S, f, k⟩ => k σ H S f
theorem dss_cons (h1 : DS X ρ st (.nx ρ')) (h2 : DSs X ρ' sts o) : DSs X ρ (st :: sts) o := PSs.weak (pss_cons h1 h2) fun E σ H ⟨H₀, S₀, S, f, k⟩ => ⟨H₀, S₀, S, f, fun σ' H' S' f' => ⟨H₀, S₀, S', f', k⟩⟩
/-- nothing behind a return is reached -/
def Out.ends : Out → Prop
  | .nx _ => False
  | _ => True
theorem dss_end (h1 : DS X ρ st o) (ho : o.ends) : DSs X ρ (st :: sts) o := PSs.weak (pss_cons h1 (pss_never (sts := sts))) fun E σ H ⟨H₀, S₀, S, f, k⟩ => ⟨H₀, S₀, S, f, by
  cases o with
  | nx _ => exact ho.elim
  | rt d => exact k
  | rf xs => exact k⟩
theorem ds_ret (h : DE X ρ e d) : DS X ρ (.Return (some e) pos) (.rt d) := PS.weak (ps_ret h) fun E σ H ⟨H₀, S₀, S, f, k⟩ => ⟨S, f.ve, fun v H' ex r => k v H' (f.ext.trans ex) ((f.grow ex).out r)⟩
/-! ### assignments -/
variable {i : Nat} {x : Str} {pos' : Pos}
theorem ds_set (hN : X.N.Nodup) (hi : X.N[i]? = some x) (hx : Loc X.env.scope x) (he : DE X ρ e d) (hs : swapsWith e (some (.Name x pos')) pos.line X.env = pure false := by rfl) (hf : X.fn x = true ∨ X.env.scope.names.lookup x = some .local := by first | exact .inl rfl | exact .inr rfl | assumption) :
    DS X ρ (.Assign [.Name x pos'] e pos) (.nx (ρ.set i (.val d))) := PS.weak (ps_set hN hi hx he hs hf) fun E σ H ⟨H₀, S₀, S, f, k⟩ => ⟨S, f.ve, fun v H' ex r => k _ H' S ((f.grow ex).set r)⟩
theorem ds_setC (hN : X.N.Nodup) (hi : X.N[i]? = some x) (hx : Loc X.env.scope x) (he : DC X ρ e xs) (hsw : swapsWith e (some (.Name x pos')) pos.line X.env = pure true) (hf : X.fn x = true ∨ X.env.scope.names.lookup x = some .local := by first | exact .inl rfl | exact .inr rfl | assumption) :
    DS X ρ (.Assign [.Name x pos'] e pos) (.nx (ρ.set i (.val (.lst xs)))) := PS.weak (he.ps i x pos' pos hN hi hx hf hsw) fun E σ H ⟨H₀, S₀, S, f, k⟩ => ⟨S, f.ve, fun a vs H' ex hp r => k _ _ S ((f.grow (ex.trans (Ext.new hp))).set (Rds.newLst (f.ve.ext ex).dom hp r))⟩
/-- self.f = e, where the instance is made -/
theorem ds_fld {C a dx : Addr} {fs : List (Str × D)} {fl : Str} {p : Pos} (hN : X.N[i]? = some x) (hv : Vis X.env.scope x) (hr : ρ[i]? = some (.new C a dx fs)) (c : Cls X.K C) (na : NoAttr X.K C fl) (hl : fs.length < 1000) (he : DE X ρ e d)
    (hs : swapsWith e (some (.Attribute (.Name x p) fl pos')) pos.line X.env = pure false := by rfl) (hd : (x == ("__debug__" : Str)) = false := by decide) (hcd : (x == ("__classdict__" : Str)) = false := by decide) :
    DS X ρ (.Assign [.Attribute (.Name x p) fl pos'] e pos) (.nx (ρ.set i (.new C a dx (putD fl d fs)))) :=
  PS.weak (ps_fld (pe_var hN hv hd hcd) he hs) fun E σ H ⟨H₀, S₀, S, f, k⟩ => ⟨S, f.ve, fun v H' ex r => by
    have f' := f.grow ex
    obtain ⟨w, h1, gs, rfl, sa, ha, rf⟩ := f'.ve.rel i _ hr
    exact ⟨_, h1, a, C, dx, gs, rfl, ha, c, na, by rw [← rf.len]; exact hl, k _ _ S (f'.putNew hr (rf.put r))⟩⟩
/-! ### if -/
theorem pss_any {sts : List Stmt} : PSs X sts (fun E σ H => ∃ ρ o, DSs X ρ sts o ∧ tDS X.K ρ o E σ H) := fun pins s σ H D I ⟨_, _, h, q⟩ => h pins s σ H D I q
theorem ds_if {c : Expr} {a b : List Stmt} {q : Bool} (hc : DT X ρ c q) (ha : q = true → DSs X ρ a o) (hb : q = false → DSs X ρ b o) : DS X ρ (.If c a b pos) o :=
  PS.weak (ps_if hc (pss_any (sts := a)) (pss_any (sts := b))) fun E σ H ⟨H₀, S₀, S, f, k⟩ => ⟨S, f.ve, fun H' ex => by
    cases q with
    | true => exact iteT ⟨ρ, o, ha rfl, H₀, S₀, S, f.grow ex, k⟩
    | false => exact iteF ⟨ρ, o, hb rfl, H₀, S₀, S, f.grow ex, k⟩⟩
end
end CT
set_option Elab.async false
set_option linter.all false
set_option maxRecDepth 100000
/-! THE DATA LAYER: loops, what is given up, defs and calls -/
namespace CT
open PySem PySem.Spec L2
open PyProof.Rows hiding St
section
variable {X : Cx} {ρ ρ' : Rho} {e : Expr} {d : D} {o : Out} {pos : Pos} {xs : List D} {i : Nat}
/-! ### for -/
/-- a target sets slots to data -/
def TgOk (ρ ρ1 : Rho) (ks : List Nat) : Prop := ∀ (i : Nat) (x : Sl), ρ1[i]? = some x → x.owns → i ∉ ks ∧ ρ[i]? = some x
theorem tg_set {k : Nat} : TgOk ρ (ρ.set k (.val d)) [k] := fun i x h o => by
  by_cases hj : k = i
  · subst hj
    have hi := (List.getElem?_eq_some_iff.mp h).1
    rw [List.getElem?_set_self (by simpa using hi)] at h; cases h; exact o.elim
  · rw [List.getElem?_set_ne hj] at h
    exact ⟨by simp [Ne.symm hj], h⟩
theorem TgOk.trans {ρ1 ρ2 : Rho} {ks ls : List Nat} (a : TgOk ρ ρ1 ks) (b : TgOk ρ1 ρ2 ls) : TgOk ρ ρ2 (ks ++ ls) := fun i x h o => by
  obtain ⟨n1, h1⟩ := b i x h o
  obtain ⟨n2, h2⟩ := a i x h1 o
  exact ⟨by simp [n1, n2], h2⟩
/-- the turns over the items, from the slots ρ -/
inductive ForO (X : Cx) (tg : Expr) (body : List Stmt) : List D → Rho → Out → Prop
  | nil (ρ : Rho) : ForO X tg body [] ρ (.nx ρ)
  | cons {d : D} {ds : List D} {ρ ρ1 ρ2 : Rho} {ks : List Nat} {o : Out} : DG X tg ρ d ρ1 ks → TgOk ρ ρ1 ks → DSs X ρ1 body (.nx ρ2) → ForO X tg body ds ρ2 o → ForO X tg body (d :: ds) ρ o
  | ret {d : D} {ds : List D} {ρ ρ1 : Rho} {ks : List Nat} {o : Out} : DG X tg ρ d ρ1 ks → TgOk ρ ρ1 ks → DSs X ρ1 body o → o.ends → ForO X tg body (d :: ds) ρ o
theorem Fm.tgt {K : PySem.W.Frag} {H₀ H : Hp} {S₀ S : Ad} {ρ ρ1 : Rho} {σ σ' : St} {ks : List Nat} (f : Fm K H₀ S₀ H S ρ σ) (ve : VE K H S ρ1 σ') (c : Chg ks σ σ') (h : TgOk ρ ρ1 ks) : Fm K H₀ S₀ H S ρ1 σ' :=
  ⟨ve, f.ext, f.sub, f.new, f.dm, fun i x a h1 o h2 => by
    obtain ⟨n, h3⟩ := h i x h1 o
    exact f.own i x a h3 o (by rw [← c.2 i n]; exact h2)⟩
theorem Fm.mono {K : PySem.W.Frag} {H₀ H1 H : Hp} {S₀ S : Ad} {σ : St} (f : Fm K H1 S₀ H S ρ σ) (e : Ext0 H₀ H1) (dm : Dom H₀ S₀) : Fm K H₀ S₀ H S ρ σ :=
  ⟨f.ve, e.trans f.ext, f.sub, fun a h => (f.new a h).imp_right e.back, dm, fun i x a h o h2 => e.back (f.own i x a h o h2)⟩
theorem OutK.mono {K : PySem.W.Frag} {H₀ H1 : Hp} {S₀ : Ad} {E : Ends} (e : Ext0 H₀ H1) (dm : Dom H₀ S₀) (k : OutK K H₀ S₀ E o) : OutK K H1 S₀ E o := by
  cases o with
  | nx ρ' => exact fun σ' H' S' f => k σ' H' S' (f.mono e dm)
  | rt d => exact fun v H' ex r => k v H' (e.trans ex) r
  | rf xs => exact fun a vs H' ex hn ha r => k a vs H' (e.trans ex) (e.back hn) ha r
/-- the heap without one's own lists, as a frame -/
def cut (H : Hp) (S S₀ : Ad) (H1 : Hp) : Prop := ∀ a o, H1 a = some o ↔ (H a = some o ∧ (S a → S₀ a))
open Classical in
noncomputable def cutH (H : Hp) (S S₀ : Ad) : Hp := fun a => if S a ∧ ¬ S₀ a then none else H a
theorem cutH_some {H : Hp} {S S₀ : Ad} {a : Addr} {u : HO} (h : H a = some u) (n : S a → S₀ a) : cutH H S S₀ a = some u := by
  unfold cutH; rw [if_neg fun z => z.2 (n z.1)]; exact h
theorem cutH_none {H : Hp} {S S₀ : Ad} {a : Addr} (h : S a) (n : ¬ S₀ a) : cutH H S S₀ a = none := by
  unfold cutH; rw [if_pos ⟨h, n⟩]
theorem cutH_of {H : Hp} {S S₀ : Ad} {a : Addr} {u : HO} (h : cutH H S S₀ a = some u) : H a = some u ∧ (S a → S₀ a) := by
  unfold cutH at h
  split at h
  · cases h
  · rename_i n
    exact ⟨h, fun s => Classical.byContradiction fun z => n ⟨s, z⟩⟩
theorem Fm.cut {K : PySem.W.Frag} {H₀ H : Hp} {S₀ S : Ad} {σ : St} (f : Fm K H₀ S₀ H S ρ σ) : Ext0 H₀ (cutH H S S₀) ∧ Fm K (cutH H S S₀) S₀ H S ρ σ := by
  refine ⟨fun a u n h => cutH_some (f.ext a u n h) fun s => (f.new a s).elim (fun z => z) fun z => (by rw [h] at z; cases z), ⟨f.ve, fun a u n h => (cutH_of h).1, f.sub, fun a s => ?_, fun a s z => ?_, fun i x a h o h2 => ?_⟩⟩
  · by_cases q : S₀ a
    · exact .inl q
    · exact .inr (cutH_none s q)
  · cases q : H a with
    | none => exact f.ve.dom a (f.sub a s) q
    | some u => rw [cutH_some q fun _ => s] at z; cases z
  · have hn := f.own i x a h o h2
    have ns : ¬ S₀ a := fun z => f.dm a z hn
    obtain ⟨v, q1, q2⟩ := f.ve.rel i x h
    rw [h2] at q1; cases q1
    cases x with
    | own xs => obtain ⟨b, _, z, s, _⟩ := q2; cases z; exact cutH_none s ns
    | new C y dx fs => obtain ⟨_, z, s, _⟩ := q2; cases z; exact cutH_none s ns
    | nil => exact o.elim
    | any => exact o.elim
    | val d => exact o.elim
theorem ds_for {tg iter : Expr} {body : List Stmt} {its : List D} (hp : PassesOwn (model X.prog X.w) X.A X.env X.xe) (hc : X.calm = true) (hi : DI X tg ρ iter its) (hb : ForO X tg body its ρ o)
    (hs : ∀ x, foldedSetIterable iter X.env x = pure x := by intro _; rfl) : DS X ρ (.For tg iter body [] pos) o := by
  refine PS.weak (ps_for hp hc hi (pg_A (G := DG X tg) fun _ _ _ _ h => h) (pss_any (sts := body)) hs) ?_
  rintro E σ H ⟨H₀, S₀, S, f, k⟩
  refine ⟨S, f.ve, fun J H1 ex hJ => ?_⟩
  have f1 := f.grow ex
  obtain ⟨e0, fc⟩ := f1.cut
  have k1 := k.mono e0 f.dm
  refine ⟨fun i m σ' H' => ∃ S' ρ', Fm X.K (cutH H1 S S₀) S₀ H' S' ρ' σ' ∧ ForO X tg body (its.drop i) ρ' o ∧ i ≤ its.length ∧ m = its.length - i, ⟨its.length, S, ρ, fc, by simpa using hb, Nat.zero_le _, by simp⟩, ?_⟩
  rintro i m σ' H' ⟨S', ρ', f', hf, hi', rfl⟩
  have ext1 : Ext S H1 H' := fun a u n h => f'.ext a u (fun z => z) (cutH_some h fun s => (n s).elim)
  have new1 : ∀ a, S' a → S a ∨ H1 a = none := fun a s => by
    rcases f'.new a s with z | z
    · exact .inl (f.sub a z)
    · by_cases q : S a
      · exact .inl q
      · cases h : H1 a with
        | none => exact .inr rfl
        | some u => rw [cutH_some h fun s => (q s).elim] at z; cases z
  obtain ⟨J1, J2⟩ := hJ H' S' ext1 new1 f'.ve.dom i
  by_cases hlt : i < its.length
  · have hd : its[i]? = some its[i] := by simp [hlt]
    obtain ⟨go, yld⟩ := J1 _ hd
    rw [List.drop_eq_getElem_cons hlt] at hf
    have rep : ∀ {ρ1 : Rho} {ks : List Nat} {x : V} {H2 : Hp}, J.yld i H' x H2 → DG X tg ρ' its[i] ρ1 ks → TgOk ρ' ρ1 ks → ∀ (R : St → Hp → Prop), (∀ σ2, Fm X.K (cutH H1 S S₀) S₀ H2 S' ρ1 σ2 → R σ2 H2) → gA X.K (DG X tg) x σ' H2 R := fun {ρ1 ks x H2} y hg htg R hR => by
      obtain ⟨e1, r1⟩ := yld x H2 y
      exact ⟨ρ', its[i], ρ1, ks, hg, S', (f'.grow e1).ve, r1, fun σ2 ve2 c => hR σ2 ((f'.grow e1).tgt ve2 c htg)⟩
    cases hf with
    | cons hg htg hbd hrest =>
      rename_i ρ1 ρ2 ks
      refine .inr ⟨go, fun σ2 H2 => ∃ S2, Fm X.K (cutH H1 S S₀) S₀ H2 S2 ρ2 σ2, fun σ2 H2 ⟨S2, f2⟩ => ⟨its.length - (i + 1), by omega, S2, ρ2, f2, hrest, hlt, rfl⟩, fun x H2 y => ?_⟩
      exact rep y hg htg _ fun σ2 f2 => ⟨ρ1, _, hbd, _, _, S', f2, fun σ3 H3 S3 f3 => ⟨S3, f3⟩⟩
    | ret hg htg hbd hend =>
      rename_i ρ1 ks
      refine .inr ⟨go, fun _ _ => False, fun _ _ z => z.elim, fun x H2 y => ?_⟩
      refine rep y hg htg _ fun σ2 f2 => ⟨ρ1, o, hbd, _, _, S', f2, ?_⟩
      cases o with
      | nx _ => exact hend.elim
      | rt d => exact k1
      | rf xs => exact k1
  · have e : i = its.length := by omega
    subst e
    rw [List.drop_length] at hf
    cases hf
    exact .inl ⟨J2 (Nat.le_refl _), k1 σ' H' S' f'⟩
end
end CT
set_option Elab.async false
set_option linter.all false
set_option maxRecDepth 100000
/-! THE DATA LAYER: defs, calls, methods, fields, instances, while -/
namespace CT
open PySem PySem.Spec L2
open PyProof.Rows hiding St
/-- a promise by data: P takes the arguments' data to the value's -/
def spD (K : PySem.W.Frag) (P : List D → D → Prop) : Sp := fun vs H Q _ => ∃ S ds d, Dom H S ∧ RdsL K H S ds vs ∧ P ds d ∧ ∀ v H', Ext0 H H' → Rds K H' S d v → Q v H'
/-- .. a new list comes -/
def spF (K : PySem.W.Frag) (P : List D → List D → Prop) : Sp := fun vs H Q _ => ∃ S ds xs, Dom H S ∧ RdsL K H S ds vs ∧ P ds xs ∧ ∀ a us H', Ext0 H H' → H a = none → H' a = some (.lst us) → RdsL K H' (S.and a) xs us → Q (.ref a) H'
/-- __init__: the instance's fields -/
def spI (K : PySem.W.Frag) (C : Addr) (P : List D → List (Str × D) → Prop) : Sp := fun vs H Q _ => ∃ S x dx us ds fs, vs = .ref x :: us ∧ H x = some (.ins C dx []) ∧ Dom H S ∧ S x ∧ RdsL K H S ds us ∧ P ds fs ∧
  ∀ H' gs, (∀ a o, a ≠ x → H a = some o → H' a = some o) → H' x = some (.ins C dx gs) → RdsF K H' S fs gs → Q .non H'
def startR (N : List Str) (ds : List D) : Rho := ds.map .val ++ List.replicate (N.length - ds.length) .nil
theorem start_ve {K : PySem.W.Frag} {H : Hp} {S : Ad} {N : List Str} {ds : List D} {vs : List V} (dm : Dom H S) (r : RdsL K H S ds vs) : VE K H S (startR N ds) (start N vs) := by
  have hl := r.length
  have nown : ∀ (i : Nat) (x : Sl), (startR N ds)[i]? = some x → ¬ x.owns := fun i x h o => by
    have hm := List.mem_of_getElem? h
    unfold startR at hm
    rcases List.mem_append.mp hm with hm | hm
    · obtain ⟨y, _, e⟩ := List.mem_map.mp hm; rw [← e] at o; exact o
    · rw [(List.mem_replicate.mp hm).2] at o; exact o
  refine ⟨by simp [startR, L2.start, hl], fun i x h => ?_, fun i j x y a _ h _ o => absurd o (nown i x h), dm⟩
  unfold startR at h
  unfold L2.start
  by_cases hi : i < ds.length
  · rw [List.getElem?_append_left (by simpa using hi), List.getElem?_map] at h
    rw [List.getElem?_append_left (by simpa [← hl] using hi), List.getElem?_map]
    cases hq : ds[i]? with
    | none => rw [hq] at h; cases h
    | some d =>
      rw [hq] at h; cases h
      obtain ⟨v, hv, rv⟩ := r.get hq
      exact ⟨some v, by rw [hv]; rfl, v, rfl, rv⟩
  · have hi' : ds.length ≤ i := Nat.le_of_not_lt hi
    rw [List.getElem?_append_right (by simpa using hi'), List.length_map, List.getElem?_replicate] at h
    rw [List.getElem?_append_right (by simpa [← hl] using hi'), List.length_map, List.getElem?_replicate]
    rw [← hl]
    split at h
    · rename_i z
      rw [if_pos z]
      cases h
      exact ⟨none, rfl, rfl⟩
    · cases h
theorem start_fm {K : PySem.W.Frag} {H : Hp} {S : Ad} {N : List Str} {ds : List D} {vs : List V} (dm : Dom H S) (r : RdsL K H S ds vs) : Fm K H S H S (startR N ds) (start N vs) :=
  ⟨start_ve dm r, Ext.refl, fun a h => h, fun a h => .inl h, dm, fun i x a h o _ => by
    have hm := List.mem_of_getElem? h
    unfold startR at hm
    rcases List.mem_append.mp hm with hm | hm
    · obtain ⟨y, _, e⟩ := List.mem_map.mp hm; rw [← e] at o; exact o.elim
    · rw [(List.mem_replicate.mp hm).2] at o; exact o.elim⟩
/-- a body's end and the value -/
def OutV : Out → D → Prop
  | .rt d, d' => d = d'
  | .nx _, d' => d' = .non
  | .rf xs, d' => d' = .lst xs
section
variable {P : Program} {w : World} {K : PySem.W.Frag} {mg : Str → Option Value} {base : Heap} {x qual : Str} {st : Stmt} {f : Addr} {fd : FuncData} {N ps : List Str} {k : Nat}
theorem fn_D {Pr : List D → D → Prop} (F : Fun K x qual st f fd) (S : FnScope N ps (defScope st)) (len : ∀ ds d, Pr ds d → ds.length = ps.length)
    (hb : ∀ (cdv : Value) (A : Around) (outer : List Env) (s : Shared) (H : Hp) (E : XK) (ds : List D) (d : D), Room k (A.deeper (envOfC qual (defScope st) s.heap.objs.size f cdv)) → Pr ds d →
      ∃ o, OutV o d ∧ DSs (cxOf CX0 P w K mg base N qual (defScope st) f cdv A outer s H E).nox (startR N ds) (defBody st) o) : FnOk P w K mg base CX0 (k + 1) f fd ps (spD K Pr) := by
  refine F.ok S (fun vs H Q E ⟨S, ds, d, dm, r, p, kk⟩ => by rw [← r.length]; exact len ds d p) fun cdv A outer s H vs Q E hr ⟨S', ds, d, dm, r, p, kk⟩ => ?_
  obtain ⟨o, ov, h⟩ := hb cdv A outer s H E ds d hr p
  refine ⟨_, h, H, S', S', start_fm dm r, ?_⟩
  cases o with
  | rt d' => cases ov; exact kk
  | nx ρ' => cases ov; exact fun σ' H' S'' f => kk .non H' f.ext .non
  | rf xs => cases ov; exact fun a vs H' ex hn ha r' => kk _ H' ex (.lst (.inl ha) (dm.not hn) (r'.av fun b h => .inl (.inl h)))
theorem FnOk.pure {Pr : List D → List D → Prop} (F : FnOk P w K mg base CX0 k f fd ps (spF K Pr)) : FnOk P w K mg base CX0 k f fd ps (spD K fun ds d => ∃ xs, Pr ds xs ∧ d = .lst xs) :=
  F.imp fun vs H Q E ⟨S, ds, d, dm, r, ⟨xs, p, e⟩, kk⟩ => ⟨S, ds, xs, dm, r, p, fun a us H' ex hn ha r' => by subst e; exact kk _ H' ex (.lst (.inl ha) (dm.not hn) (r'.av fun b h => .inl (.inl h)))⟩
end
section
variable {X : Cx} {ρ : Rho} {k : Nat} {f C : Addr} {fd : FuncData} {ps : List Str} {x m : Str} {p pos apos : Pos} {e o : Expr} {es : List Expr} {ds : List D} {d : D}
theorem app_nil {K : PySem.W.Frag} {H : Hp} {S : Ad} {ds : List D} {vs : List V} (r : RdsL K H S ds vs) : RdsL K H S ds (vs ++ []) := by rw [List.append_nil]; exact r
theorem de_call {Pr : List D → D → Prop} (F : FnOk X.prog X.w X.K X.mg X.base CX0 k f fd ps (spD X.K Pr)) (hr : Room k X.A) (hg : Gl X x) (hm : X.mg x = some (.ref f)) (hk : PySem.W.keepIn X.K (.ref f) = true) (hb : Binds X.K fd ps [])
    (ha : DA X ρ (e :: es) ds) (hp : Pr ds d) (hdb : (x == ("__debug__" : Str)) = false := by decide) (he : starEach (e :: es) X.env = (false, eval e X.env) :: starEach es X.env := by rfl) (hpl : (backTo pos (starEach es X.env)).any (·.1) = false := by rfl) :
    DE X ρ (.Call (.Name x p) (e :: es) [] pos) d := PE.weak (pe_call F hr hg hm hk hb .nil pass0 ha hdb he hpl) fun σ H Q ⟨S, ve, kk⟩ => ⟨S, ve, fun vs H' ex r => ⟨S, ds, d, (ve.ext ex).dom, app_nil r, hp, fun v H'' ex' r' => kk v H'' (ex.trans ex') r'⟩⟩
/-- o.f -/
theorem de_fld {fs : List (Str × D)} {fl : Str} (ho : DE X ρ o (.ins C fs)) (c : Cls X.K C) (n : NoAttr X.K C fl) (l : fs.lookup fl = some d) (hb : attributeBase o fl X.env (eval o X.env) = eval o X.env := by rfl) : DE X ρ (.Attribute o fl pos) d :=
  PE.weak (pe_fld ho hb) fun σ H Q ⟨S, ve, kk⟩ => ⟨S, ve, fun v H1 ex1 r1 => by
    obtain ⟨a, dx, gs, rfl, hh, rf⟩ := r1.insV
    obtain ⟨u, hu, ru⟩ := rf.look l
    exact ⟨a, C, dx, gs, u, rfl, hh, c, n, hu, kk u H1 ex1 ru⟩⟩
/-- C(e, ..) -/
theorem de_make {Pr : List D → List (Str × D) → Prop} {fs : List (Str × D)} (M : Mk X.K C f) (F : FnOk X.prog X.w X.K X.mg X.base CX0 k f fd ps (spI X.K C Pr)) (hr : Room (k + 1) X.A) (hg : Gl X x) (hm : X.mg x = some (.ref C)) (hb : Binds X.K fd ps [])
    (ha : DA X ρ (e :: es) ds) (hp : Pr ds fs) (hdb : (x == ("__debug__" : Str)) = false := by decide) (he : starEach (e :: es) X.env = (false, eval e X.env) :: starEach es X.env := by rfl) (hpl : (backTo pos (starEach es X.env)).any (·.1) = false := by rfl) :
    DE X ρ (.Call (.Name x p) (e :: es) [] pos) (.ins C fs) := PE.weak (pe_make M F hr hg hm hb .nil pass0 ha hdb he hpl) fun σ H Q ⟨S, ve, kk⟩ => ⟨S, ve, fun vs H1 ex r z dx hz hdx hne => by
      have e1 : Ext0 H1 (upd H1 dx (.own z)) := Ext.new hdx
      have hz1 : upd H1 dx (.own z) z = none := by rw [upd_ne (Ne.symm hne)]; exact hz
      have e2 : Ext0 H1 (upd (upd H1 dx (.own z)) z (.ins C dx [])) := e1.trans (Ext.new hz1)
      have dm := (ve.ext ex).dom
      refine ⟨S.and z, z, dx, vs ++ [], ds, fs, rfl, upd_same, fun a h => ?_, .inr rfl, app_nil ((r.av (S' := S.and z) fun b h => h.imp_right fun q => by rw [q]; exact hz).ext (e2.to _)), hp, fun H' gs hk hz' rf => ⟨rfl, ?_⟩⟩
      · rcases h with h | h
        · exact dm.ext e2 a h
        · rw [h, upd_same]; intro q; cases q
      · refine kk _ H' (ex.trans fun a o n h => hk a o (ne_of_none h hz) (e2 a o n h)) (.ins hz' (dm.not hz) (rf.av fun b h => .inl (.inl h)))⟩
end
end CT
set_option Elab.async false
set_option linter.all false
set_option maxRecDepth 100000
/-! THE DATA LAYER: built-in functions, operators on tuples and lists, equality of data -/
namespace CT
open PySem PySem.Spec L2
open PyProof.Rows hiding St
/-! ### rules of the hand layer -/
section
variable {X : Cx}
theorem bools_of : ∀ {ys : List Bool} {its : List Value}, Vals (ys.map .bl) its → its = ys.map .bool
  | [], _, .nil => rfl
  | y :: ys, _, .cons r t => by rw [bools_of t, show _ = Value.bool y from r]; rfl
theorem ints_of : ∀ {ns : List Int} {its : List Value}, Vals (ns.map .int) its → IntsAre its ns
  | [], _, .nil => .nil
  | n :: ns, _, .cons r t => by obtain ⟨k, rfl⟩ := (show ∃ k, _ = Value.int n k from r); exact .cons n k (ints_of t)
theorem all_range {ys : List Bool} : (List.range ys.length).all (fun i => ys.getD i true) = ys.all id := by
  induction ys with
  | nil => rfl
  | cons y ys ih =>
    rw [List.length_cons, List.range_succ_eq_map, List.all_cons, List.all_map, List.all_cons]
    rw [← ih]
    rfl
theorem truth_bools {prog : Program} {w : World} {A : Around} {ys : List Bool} : TruthOf prog w A (fun i v => (ys.map Value.bool).toArray[i]? = some v) (fun i => ys.getD i true) := fun i v s Q E hv q => by
  have hv' : (ys.map Value.bool)[i]? = some v := by simpa using hv
  obtain ⟨b, hb, rfl⟩ := getmap hv'
  have e : ys.getD i true = b := by simp [hb]
  exact wpAny_truthy_bool (by rw [← e]; exact q)
theorem walk_S {prog : Program} {w : World} {A : Around} (hh : A.handled = none) (b : Bool) (I ax : Addr) (hne : ax ≠ I) (items : Array Value) : Walks prog w A I [I, ax] [I] items.size (fun i v => items[i]? = some v) (fun i h => Sit h b I ax i ∧ Ssq h b ax items) := by
  cases b with
  | true => exact Walks.tuple hh I ax hne items
  | false => exact Walks.list hh I ax hne items
theorem call_allB (hc : X.calm = true) : CallR X (.builtin "all") (fun xs H Q => ∃ (b : Bool) (a : Addr) (ys : List Bool), xs = [.ref a] ∧ SqB X.K H b a (ys.map .bl) ∧ Q (.bl (ys.all id)) H) := by
  intro pins s σ H xs us Q I r h
  obtain ⟨b, a, ys, rfl, hq, q⟩ := h
  obtain ⟨u, rfl, rx⟩ := vals1 r
  cases rx
  obtain ⟨its, r', pl, hz⟩ := CT.Inv.sqb I hq
  have e := bools_of r'
  subst e
  have hal : a < s.heap.objs.size := by
    cases b with
    | true => obtain ⟨o, ho, _⟩ := pl; exact Heap.lt_size ho
    | false => obtain ⟨o, ho, _⟩ := pl; exact Heap.lt_size ho
  refine call_all_walk (pyIterS pl ⟨_, _, _, _, _, _, _, rfl, walk_S (A := X.A.in1) (I.ok.hd hc) b s.heap.objs.size a (Nat.ne_of_lt hal) (ys.map Value.bool).toArray, ⟨Sit.new b a, pl.at fun o e => Heap.get?_push_of_some _ e⟩, truth_bools (ys := ys), fun h' tk hk => ?_⟩)
  refine ⟨.bl (ys.all id), H, I.kept (t' := tk) fun c o e => hk c o (by simp; exact Nat.ne_of_lt (Heap.lt_size e)) (Heap.get?_push_of_some _ e), ?_, q⟩
  show Value.bool _ = Value.bool _
  rw [List.size_toArray, List.length_map, all_range]
theorem call_sumI (hc : X.calm = true) : CallR X (.builtin "sum") (fun xs H Q => ∃ (a : Addr) (ns : List Int), xs = [.ref a] ∧ SqL X.K H a (ns.map .int) ∧ Q (.int ns.sum) H) := by
  intro pins s σ H xs us Q I r h
  obtain ⟨a, ns, rfl, hq, q⟩ := h
  obtain ⟨u, rfl, rx⟩ := vals1 r
  cases rx
  obtain ⟨its, r', pl, hz⟩ := I.list hq
  have hi := ints_of r'
  obtain ⟨xs, ex⟩ := hi.allInts.items
  have en : xs.toList.map (·.1) = ns := by rw [← nums_intItems, ← ex]; exact hi.numsOf
  refine sum_intListG (I.ok.hd hc) (xs := xs) (by rw [← ex]; exact pl.isList) fun h' tk t' hk => ?_
  rw [preSum_eq, List.take_of_length_le (by simp), en]
  exact ⟨.int ns.sum, H, I.kept (t' := tk) hk, ⟨t', rfl⟩, q⟩
end
end CT
set_option Elab.async false
set_option linter.all false
set_option maxRecDepth 100000
/-! THE DATA LAYER: built-ins over data -/
namespace CT
open PySem PySem.Spec L2
open PyProof.Rows hiding St
section
variable {X : Cx} {ρ : Rho} {e a b : Expr} {es : List Expr} {d da db : D} {ds xs ys : List D} {x : Str} {p pos : Pos}
/-! ### calls of built-ins -/
theorem de_callB {id : String} {r : List V → Hp → VK → Prop} (hc : CallR X (.builtin id) r) (hcd : CD X.K r ds d) (hg : Gl X x) (hm : X.mg x = none) (hv : bootBuiltins x = some (.builtin id)) (ha : DA X ρ (e :: es) ds) (hn : x ≠ "__name__" := by decide) (hdb : (x == ("__debug__" : Str)) = false := by decide)
    (he : starEach (e :: es) X.env = (false, eval e X.env) :: starEach es X.env := by rfl) (hpl : (backTo pos (starEach es X.env)).any (·.1) = false := by rfl) : DE X ρ (.Call (.Name x p) (e :: es) [] pos) d := PE.weak (pe_callB hc hg hm hv ha hn hdb he hpl) (call_D hcd)
theorem de_callTy {T : String} {r : List V → Hp → VK → Prop} (hc : CallR X (.type T) r) (hcd : CD X.K r ds d) (hg : Gl X x) (hm : X.mg x = none) (hv : bootBuiltins x = some (.type T)) (ha : DA X ρ (e :: es) ds) (hn : x ≠ "__name__" := by decide) (hdb : (x == ("__debug__" : Str)) = false := by decide)
    (he : starEach (e :: es) X.env = (false, eval e X.env) :: starEach es X.env := by rfl) (hpl : (backTo pos (starEach es X.env)).any (·.1) = false := by rfl) : DE X ρ (.Call (.Name x p) (e :: es) [] pos) d := PE.weak (pe_callTy hc hg hm hv ha hn hdb he hpl) (call_D hcd)
theorem Sq.sq {K : PySem.W.Frag} {H : Hp} {S : Ad} {v : V} (q : Sq d xs) (r : Rds K H S d v) : ∃ b a vs, v = .ref a ∧ SqB K H b a vs ∧ RdsL K H S xs vs := by
  obtain ⟨b, a, vs, e, l⟩ := q.later r
  exact ⟨b, a, vs, e, l H S Ext.refl fun _ h => .inl h⟩
theorem SqB.or {K : PySem.W.Frag} {H : Hp} {c : Bool} {a : Addr} {vs : List V} (h : SqB K H c a vs) : SqL K H a vs ∨ SqT K H a vs := by
  cases c with
  | true => exact .inr h
  | false => exact .inl h
theorem de_len (q : Sq da xs) (hg : Gl X "len") (hm : X.mg "len" = none) (ha : DA X ρ [e] [da]) (he : starEach [e] X.env = (false, eval e X.env) :: starEach [] X.env := by rfl) (hpl : (backTo pos (starEach [] X.env)).any (·.1) = false := by rfl) : DE X ρ (.Call (.Name "len" p) [e] [] pos) (.int xs.length) :=
  de_callB call_len_seq (fun vs H S Q rs dm k => by
    obtain ⟨v, rfl, r⟩ := rs.one
    obtain ⟨c, a, us, rfl, sq, rl⟩ := q.sq r
    exact ⟨a, us, rfl, sq.or, by rw [← rl.length]; exact k _ H Ext.refl (.int _)⟩) hg hm boot_len ha (by decide) (by decide) he hpl
theorem boot_tuple' : bootBuiltins "tuple" = some (.type "tuple") := by decide +kernel
theorem boot_list' : bootBuiltins "list" = some (.type "list") := by decide +kernel
theorem boot_int' : bootBuiltins "int" = some (.type "int") := by decide +kernel
theorem boot_bool' : bootBuiltins "bool" = some (.type "bool") := by decide +kernel
theorem boot_all' : bootBuiltins "all" = some (.builtin "all") := by decide +kernel
theorem boot_sum' : bootBuiltins "sum" = some (.builtin "sum") := by decide +kernel
theorem boot_isinstance' : bootBuiltins "isinstance" = some (.builtin "isinstance") := by decide +kernel
theorem de_tuple (q : Sq da xs) (hg : Gl X "tuple") (hm : X.mg "tuple" = none) (ha : DA X ρ [e] [da]) (he : starEach [e] X.env = (false, eval e X.env) :: starEach [] X.env := by rfl) (hpl : (backTo pos (starEach [] X.env)).any (·.1) = false := by rfl) : DE X ρ (.Call (.Name "tuple" p) [e] [] pos) (.tup xs) :=
  de_callTy call_tuple_of (fun vs H S Q rs dm k => by
    obtain ⟨v, rfl, r⟩ := rs.one
    cases q with
    | lst =>
      obtain ⟨a, us, rfl, sq, rl⟩ := r.lstV
      exact ⟨a, us, rfl, .inl ⟨sq, fun l hl => k _ _ (Ext.new hl) (Rds.newTup dm hl rl)⟩⟩
    | tup =>
      obtain ⟨a, us, rfl, h, rl⟩ := r.tupV
      exact ⟨a, us, rfl, .inr ⟨.inl (.inl h), k _ H Ext.refl r⟩⟩) hg hm boot_tuple' ha (by decide) (by decide) he hpl
theorem df_list (q : Sq da xs) (hg : Gl X "list") (hm : X.mg "list" = none) (ha : DA X ρ [e] [da]) (he : starEach [e] X.env = (false, eval e X.env) :: starEach [] X.env := by rfl) (hpl : (backTo pos (starEach [] X.env)).any (·.1) = false := by rfl) : DF X ρ (.Call (.Name "list" p) [e] [] pos) xs :=
  PE.weak (pe_callTy call_list_of hg hm boot_list' ha (by decide) (by decide) he hpl) fun σ H Q ⟨S, ve, k⟩ => ⟨S, ve, fun vs H' ex rs => by
    obtain ⟨v, rfl, r⟩ := rs.one
    obtain ⟨c, a, us, rfl, sq, rl⟩ := q.sq r
    exact ⟨a, us, rfl, sq.or, fun l hl => k l us _ (ex.trans (Ext.new hl)) (ex.back hl) upd_same ((rl.av (S' := S.and l) fun b h => h.imp_right fun z => by rw [z]; exact hl).ext ((Ext.new hl).to _))⟩⟩
theorem bls_V {K : PySem.W.Frag} {H : Hp} {S : Ad} : ∀ {ys : List Bool} {vs : List V}, RdsL K H S (ys.map .bl) vs → vs = ys.map .bl
  | [], _, .nil => rfl
  | y :: ys, _, .cons r t => by rw [bls_V t, r.blV]; rfl
theorem ints_V {K : PySem.W.Frag} {H : Hp} {S : Ad} : ∀ {ns : List Int} {vs : List V}, RdsL K H S (ns.map .int) vs → vs = ns.map .int
  | [], _, .nil => rfl
  | y :: ys, _, .cons r t => by rw [ints_V t, r.intV]; rfl
theorem de_all {bs : List Bool} (hc : X.calm = true) (q : Sq da (bs.map .bl)) (hg : Gl X "all") (hm : X.mg "all" = none) (ha : DA X ρ [e] [da]) (he : starEach [e] X.env = (false, eval e X.env) :: starEach [] X.env := by rfl) (hpl : (backTo pos (starEach [] X.env)).any (·.1) = false := by rfl) :
    DE X ρ (.Call (.Name "all" p) [e] [] pos) (.bl (bs.all id)) :=
  de_callB (call_allB hc) (fun vs H S Q rs dm k => by
    obtain ⟨v, rfl, r⟩ := rs.one
    obtain ⟨c, a, us, rfl, sq, rl⟩ := q.sq r
    exact ⟨c, a, bs, rfl, by rw [← bls_V rl]; exact sq, k _ H Ext.refl (.bl _)⟩) hg hm boot_all' ha (by decide) (by decide) he hpl
theorem de_sum {ns : List Int} (hc : X.calm = true) (hg : Gl X "sum") (hm : X.mg "sum" = none) (ha : DA X ρ [e] [.lst (ns.map .int)]) (he : starEach [e] X.env = (false, eval e X.env) :: starEach [] X.env := by rfl) (hpl : (backTo pos (starEach [] X.env)).any (·.1) = false := by rfl) :
    DE X ρ (.Call (.Name "sum" p) [e] [] pos) (.int ns.sum) :=
  de_callB (call_sumI hc) (fun vs H S Q rs dm k => by
    obtain ⟨v, rfl, r⟩ := rs.one
    obtain ⟨a, us, rfl, sq, rl⟩ := r.lstV
    exact ⟨a, ns, rfl, by rw [← ints_V rl]; exact sq, k _ H Ext.refl (.int _)⟩) hg hm boot_sum' ha (by decide) (by decide) he hpl
theorem atI_D {K : PySem.W.Frag} {H : Hp} {S : Ad} {vs : List V} {i : Int} (r : RdsL K H S xs vs) (h : atI xs i = some d) : ∃ v, atI vs i = some v ∧ Rds K H S d v := by
  unfold atI at h ⊢
  rw [← r.length]
  cases q : ixN xs.length i with
  | none => rw [q] at h; cases h
  | some j =>
    rw [q] at h
    exact r.get h
theorem de_ixL {i : Int} (ha : DE X ρ a (.lst xs)) (hb : DE X ρ b (.int i)) (h : atI xs i = some d) (hs : PlainIx b := by exact fun _ _ => rfl) : DE X ρ (.Subscript a b pos) d :=
  PE.weak (pe_ix ix_list ha hb hs) (op_D fun x y H S Q rx ry dm k => by
    obtain ⟨p, us, rfl, sq, r1⟩ := rx.lstV
    obtain ⟨v, hv, r⟩ := atI_D r1 h
    exact ⟨p, us, i, v, rfl, ry.intV, sq, hv, k _ H Ext.refl r⟩)
/-! ### isinstance -/
/-- what an own class must be for isinstance -/
structure Isi (K : PySem.W.Frag) (C : Addr) : Prop where
  cl : Cls K C
  ha : PySem.W.findIn K (.ref C) "__class__" = some (some (.builtin "object.__class__"))
  hn : PySem.W.specialIn K (.builtin "object.__class__") "__get__" = some (some (.builtin "getset_descriptor.__get__"))
  tk : PySem.W.takesIn K (.builtin "object.__class__") = some true
  mr : PySem.W.mroIn K C (.type "object") = some true
/-- what a class of exceptions must be for isinstance -/
structure XIsi (K : PySem.W.Frag) (C : Addr) : Prop where
  cl : XCls K C
  ha : PySem.W.findIn K (.ref C) "__class__" = some (some (.builtin "object.__class__"))
  hn : PySem.W.specialIn K (.builtin "object.__class__") "__get__" = some (some (.builtin "getset_descriptor.__get__"))
  tk : PySem.W.takesIn K (.builtin "object.__class__") = some true
theorem XIsi.find {K : PySem.W.Frag} {C : Addr} (i : XIsi K C) (od : Option Obj) : PySem.W.findObj K C od "__class__" = some (.bind (.builtin "getset_descriptor.__get__") (.builtin "object.__class__")) := by
  obtain ⟨cd, hc, _⟩ := PySem.W.any_some i.cl.ov
  unfold PySem.W.findObj
  rw [hc, Option.bind_some, i.ha, Option.bind_some]
  simp [i.hn, i.tk]
/-- the type of data -/
inductive TyD (K : PySem.W.Frag) : D → Value → Prop
  | non : TyD K .non (.type "NoneType")
  | bl (b : Bool) : TyD K (.bl b) (.type "bool")
  | int (i : Int) : TyD K (.int i) (.type "int")
  | str (x : Str) : TyD K (.str x) (.type "str")
  | tup (xs : List D) : TyD K (.tup xs) (.type "tuple")
  | lst (xs : List D) : TyD K (.lst xs) (.type "list")
  | ins {C : Addr} (fs : List (Str × D)) (i : Isi K C) : TyD K (.ins C fs) (.ref C)
  | exc {C : Addr} (fs : List (Str × D)) (i : XIsi K C) : TyD K (.exc C fs) (.ref C)
  | dct (kvs : List (D × D)) : TyD K (.dct kvs) (.type "dict")
theorem kit_D {pins : List (Addr × Obj)} {σ : St} {H : Hp} {s : Shared} {S : Ad} {v : V} {u t : Value} (I : Inv X pins σ H s) (r : Rds X.K H S d v) (rv : RelV v u) (ty : TyD X.K d t) :
    ∃ Hh : Heap → Prop, PySem.W.KitX X.K u t Hh ∧ Hh s.heap ∧ u ≠ .builtin "__main__.__loader__#opaque" := by
  cases ty with
  | non => cases r; cases (show u = Value.none from rv); exact ⟨_, PySem.W.kitx_none, True.intro, fun z => nomatch z⟩
  | bl b => cases r; cases (show u = Value.bool b from rv); exact ⟨_, PySem.W.kitx_bool, True.intro, fun z => nomatch z⟩
  | int i => cases r; obtain ⟨t, q⟩ := (show ∃ t, u = Value.int i t from rv); cases q; exact ⟨_, PySem.W.kitx_int, True.intro, fun z => nomatch z⟩
  | str x => cases r; obtain ⟨t, q⟩ := (show ∃ t, u = Value.str x t from rv); cases q; exact ⟨_, PySem.W.kitx_str, True.intro, fun z => nomatch z⟩
  | tup xs =>
    obtain ⟨a, vs, rfl, h, _⟩ := r.tupV
    cases (show u = Value.ref a from rv)
    obtain ⟨its, _, ⟨o, h1, h2, _⟩, _⟩ := I.tuple (.inl (.inl h))
    exact ⟨_, PySem.W.kitx_tuple, ⟨o, h1, h2⟩, fun z => nomatch z⟩
  | lst xs =>
    obtain ⟨a, vs, rfl, h, _⟩ := r.lstV
    cases (show u = Value.ref a from rv)
    obtain ⟨its, _, ⟨o, n, h1, h2, _⟩, _⟩ := I.list h
    exact ⟨_, PySem.W.kitx_list, ⟨o, h1, h2⟩, fun z => nomatch z⟩
  | @ins C fs i =>
    obtain ⟨a, dx, gs, rfl, h, _⟩ := r.insV
    cases (show u = Value.ref a from rv)
    obtain ⟨mA, O, _⟩ := ins_get I.hok h
    obtain ⟨od, J, _⟩ := O.look
    exact ⟨_, PySem.W.kitx_own (i.cl.get _) i.cl.hd i.ha i.hn i.tk i.mr, J, fun z => nomatch z⟩
  | @exc C fs i =>
    cases r with
    | @exc0 fr a _ h n =>
      cases (show u = Value.ref a from rv)
      obtain ⟨vs, h1, _⟩ := exc_at (I.hok a _ h)
      exact ⟨_, kitx_exc (ox := ⟨.ref C, none, .fields vs, #[]⟩) (od := none) i.cl (i.find none), ⟨h1, rfl, rfl, trivial⟩, fun z => nomatch z⟩
    | @exc fr a _ dx _ gs h h2 n n2 rf =>
      cases (show u = Value.ref a from rv)
      obtain ⟨vs, mA, odd, h1, _, _, _, J, _⟩ := xinst I h h2
      exact ⟨_, kitx_exc i.cl (i.find _), J, fun z => nomatch z⟩
  | dct kvs =>
    cases r with
    | @dK a ks _ h _ _ _ =>
      cases (show u = Value.ref a from rv)
      obtain ⟨_, _, _, _, o, _, _, h1, h2, _⟩ := I.hok a _ h
      exact ⟨_, PySem.W.kitx_dict, ⟨o, h1, h2.1⟩, fun z => nomatch z⟩
/-- a class as data -/
inductive ClD : D → Value → Prop
  | ty (n : String) : ClD (.ty n) (.type n)
  | cl (C : Addr) : ClD (.cl C) (.ref C)
inductive ClDs : List D → List Value → Prop
  | nil : ClDs [] []
  | cons {d : D} {c : Value} {ds : List D} {cs : List Value} : ClD d c → ClDs ds cs → ClDs (d :: ds) (c :: cs)
theorem ClD.val {K : PySem.W.Frag} {H : Hp} {S : Ad} {v : V} {u c : Value} (h : ClD d c) (r : Rds K H S d v) (rv : RelV v u) : u = c := by
  cases h with
  | ty n => cases r; exact rv
  | cl C => cases r; exact rv
theorem ClDs.vals {K : PySem.W.Frag} {H : Hp} {S : Ad} : ∀ {ds : List D} {vs : List V} {us cs : List Value}, ClDs ds cs → RdsL K H S ds vs → Vals vs us → us = cs
  | _, _, _, _, .nil, .nil, .nil => rfl
  | _, _, _, _, .cons h t, .cons r rt, .cons q qt => by rw [h.val r q, ClDs.vals t rt qt]
theorem call_pair {t : TA} {R : V → V → Hp → VK → Prop} (hR : ∀ (pins : List (Addr × Obj)) (s : Shared) (σ : St) (H : Hp) (x y : V) (u c : Value) (Q : VK), Inv X pins σ H s → RelV x u → RelV y c → R x y H Q → wpAny (model X.prog X.w) X.A (call (.builtin "isinstance") [u, c]) (EP X pins σ Q) X.xe s) :
    CallR X (.builtin "isinstance") (fun xs H Q => ∃ x y, xs = [x, y] ∧ R x y H Q) := by
  intro pins s σ H xs us Q I r h
  obtain ⟨x, y, rfl, q⟩ := h
  cases r with
  | cons r1 r2 =>
    cases r2 with
    | cons r2 r3 =>
      cases r3
      exact hR pins s σ H x y _ _ Q I r1 r2 q
theorem de_isi {t c : Value} {q : Bool} {dc : D} (hg : Gl X "isinstance") (hm : X.mg "isinstance" = none) (ty : TyD X.K d t) (cl : ClD dc c) (hk : PySem.W.kitOne X.K t c = some q) (ha : DA X ρ [a, b] [d, dc])
    (he : starEach [a, b] X.env = (false, eval a X.env) :: starEach [b] X.env := by rfl) (hpl : (backTo pos (starEach [b] X.env)).any (·.1) = false := by rfl) : DE X ρ (.Call (.Name "isinstance" p) [a, b] [] pos) (.bl q) := by
  refine de_callB (call_pair (t := tNil) (R := fun x y H Q => ∃ S, Rds X.K H S d x ∧ Rds X.K H S dc y ∧ Q (.bl q) H) ?_) (fun vs H S Q rs dm k => ?_) hg hm boot_isinstance' ha (by decide) (by decide) he hpl
  · intro pins s σ H x y u cv Q I rx ry ⟨S, r1, r2, qq⟩
    obtain ⟨Hh, Z, hh, hx⟩ := kit_D I r1 rx ty
    rw [cl.val r2 ry]
    exact PySem.W.kia_one Z I.kIn hh hk hx fun tk => ⟨.bl q, H, I.tok tk, rfl, qq⟩
  · obtain ⟨v, u, rfl, r1, r2⟩ := rs.two
    exact ⟨v, u, rfl, S, r1, r2, k _ H Ext.refl (.bl _)⟩
theorem de_isiT {t : Value} {cs : List Value} {q : Bool} {dcs : List D} (hg : Gl X "isinstance") (hm : X.mg "isinstance" = none) (ty : TyD X.K d t) (cl : ClDs dcs cs) (hk : PySem.W.kitAny X.K t cs = some q) (ha : DA X ρ [a, b] [d, .tup dcs])
    (he : starEach [a, b] X.env = (false, eval a X.env) :: starEach [b] X.env := by rfl) (hpl : (backTo pos (starEach [b] X.env)).any (·.1) = false := by rfl) : DE X ρ (.Call (.Name "isinstance" p) [a, b] [] pos) (.bl q) := by
  refine de_callB (call_pair (t := tNil) (R := fun x y H Q => ∃ S, Rds X.K H S d x ∧ Rds X.K H S (.tup dcs) y ∧ Q (.bl q) H) ?_) (fun vs H S Q rs dm k => ?_) hg hm boot_isinstance' ha (by decide) (by decide) he hpl
  · intro pins s σ H x y u cv Q I rx ry ⟨S, r1, r2, qq⟩
    obtain ⟨Hh, Z, hh, hx⟩ := kit_D I r1 rx ty
    obtain ⟨tp, us, rfl, h2, rl⟩ := r2.tupV
    cases (show cv = Value.ref tp from ry)
    obtain ⟨its, rv, ⟨⟨oc, od, odt, osl⟩, h3, h4, n, h5⟩, _⟩ := I.tuple (.inl (.inl h2))
    simp only at h4 h5
    subst h4 h5
    rw [← cl.vals rl rv] at hk
    exact PySem.W.kia_tup Z I.kIn hh h3 hk hx fun tk => ⟨.bl q, H, I.tok tk, rfl, qq⟩
  · obtain ⟨v, u, rfl, r1, r2⟩ := rs.two
    exact ⟨v, u, rfl, S, r1, r2, k _ H Ext.refl (.bl _)⟩
/-! ### equality of data -/
mutual
def toPy : D → PyData
  | .non => .none | .bl b => .bool b | .int i => .int i | .str x => .str x
  | .tup xs => .tuple (toPyL xs) | .lst xs => .list (toPyL xs)
  | .ins _ _ => .none | .ty _ => .none | .cl _ => .none | .exc _ _ => .none | .dct _ => .none
def toPyL : List D → List PyData
  | [] => []
  | x :: xs => toPy x :: toPyL xs
end
mutual
/-- data alone: no instance, no class -/
def isDat : D → Bool
  | .non => true | .bl _ => true | .int _ => true | .str x => PyData.strOk x
  | .tup xs => isDatL xs | .lst xs => isDatL xs
  | .ins _ _ => false | .ty _ => false | .cl _ => false | .exc _ _ => false | .dct _ => false
def isDatL : List D → Bool
  | [] => true
  | x :: xs => isDat x && isDatL xs
end
mutual
theorem dat_lay : ∀ {d : D}, isDat d = true → (toPy d).canLay0 = true
  | .non, _ => rfl
  | .bl _, _ => rfl
  | .int _, _ => rfl
  | .str x, h => h
  | .tup xs, h => dat_layL (xs := xs) h
  | .lst xs, h => dat_layL (xs := xs) h
  | .ins _ _, h => nomatch h
  | .exc _ _, h => nomatch h
  | .dct _, h => nomatch h
  | .ty _, h => nomatch h
  | .cl _, h => nomatch h
theorem dat_layL : ∀ {xs : List D}, isDatL xs = true → PyData.canLayAll0 (toPyL xs) = true
  | [], _ => rfl
  | x :: xs, h => by
    have h' : isDat x = true ∧ isDatL xs = true := by simpa [isDatL] using h
    show (PyData.canLay0 (toPy x) && PyData.canLayAll0 (toPyL xs)) = true
    rw [dat_lay h'.1, dat_layL h'.2]; rfl
end
section
variable {pins : List (Addr × Obj)} {σ : St} {H : Hp} {s : Shared} {S : Ad}
mutual
theorem reads_D (I : Inv X pins σ H s) : ∀ (d : D) {v : V} {u : Value}, isDat d = true → Rds X.K H S d v → RelV v u → ∃ as, Reads s.heap u (toPy d) as
  | .non, _, u, _, r, q => by cases r; cases (show u = Value.none from q); exact ⟨_, .none⟩
  | .bl b, _, u, _, r, q => by cases r; cases (show u = Value.bool b from q); exact ⟨_, .bool b⟩
  | .int i, _, u, _, r, q => by cases r; obtain ⟨t, q⟩ := (show ∃ t, u = Value.int i t from q); cases q; exact ⟨_, .int i t⟩
  | .str x, _, u, _, r, q => by cases r; obtain ⟨t, q⟩ := (show ∃ t, u = Value.str x t from q); cases q; exact ⟨_, .str x t⟩
  | .tup xs, _, u, hd, r, q => by
    obtain ⟨a, vs, rfl, h, rl⟩ := r.tupV
    cases (show u = Value.ref a from q)
    obtain ⟨its, rv, ⟨o, h1, h2, k, h3⟩, _⟩ := I.tuple (.inl (.inl h))
    obtain ⟨as, ra⟩ := readsL_D I xs hd rl rv
    exact ⟨_, .tuple h1 h2 h3 ra⟩
  | .lst xs, _, u, hd, r, q => by
    obtain ⟨a, vs, rfl, h, rl⟩ := r.lstV
    cases (show u = Value.ref a from q)
    obtain ⟨its, rv, ⟨o, k, h1, h2, _, h3⟩, _⟩ := I.list h
    obtain ⟨as, ra⟩ := readsL_D I xs hd rl rv
    exact ⟨_, .list h1 h2 h3 ra⟩
  | .ins _ _, _, _, h, _, _ => nomatch h
  | .exc _ _, _, _, h, _, _ => nomatch h
  | .dct _, _, _, h, _, _ => nomatch h
  | .ty _, _, _, h, _, _ => nomatch h
  | .cl _, _, _, h, _, _ => nomatch h
theorem readsL_D (I : Inv X pins σ H s) : ∀ (ds : List D) {vs : List V} {us : List Value}, isDatL ds = true → RdsL X.K H S ds vs → Vals vs us → ∃ as, ReadsAll s.heap us (toPyL ds) as
  | [], _, _, _, r, q => by cases r; cases q; exact ⟨_, .nil⟩
  | d :: ds, _, _, hd, r, q => by
    cases r with
    | cons r t =>
      cases q with
      | cons q qt =>
        have h' : isDat d = true ∧ isDatL ds = true := by simpa [isDatL] using hd
        obtain ⟨as, ra⟩ := reads_D I d h'.1 r q
        obtain ⟨bs, rb⟩ := readsL_D I ds h'.2 t qt
        exact ⟨_, .cons ra rb⟩
end
end
/-- == of data -/
def eqD (d d' : D) : Bool := PyData.eqv (toPy d) (toPy d')
theorem op_eqD {hu : X.A.units + 64 < cLine} (h1 : isDat da = true) (h2 : isDat db = true) (hd : min (toPy da).depth (toPy db).depth ≤ 64) : OpR X (compareOp .Eq) (fun x y H Q => ∃ S, Rds X.K H S da x ∧ Rds X.K H S db y ∧ Q (.bl (eqD da db)) H) := by
  intro pins s σ H x y v u Q I rx ry ⟨S, r1, r2, q⟩
  obtain ⟨as, ra⟩ := reads_D I _ h1 r1 rx
  obtain ⟨bs, rb⟩ := reads_D I _ h2 r2 ry
  exact SeqAt.compareEq_reads ra rb (dat_lay h1) (dat_lay h2) (Nat.lt_of_le_of_lt (Nat.add_le_add_left hd _) hu) ⟨.bl _, H, I, rfl, q⟩
theorem op_neD {hu : X.A.units + 64 < cLine} (h1 : isDat da = true) (h2 : isDat db = true) (hd : min (toPy da).depth (toPy db).depth ≤ 64) : OpR X (compareOp .NotEq) (fun x y H Q => ∃ S, Rds X.K H S da x ∧ Rds X.K H S db y ∧ Q (.bl (!eqD da db)) H) := by
  intro pins s σ H x y v u Q I rx ry ⟨S, r1, r2, q⟩
  obtain ⟨as, ra⟩ := reads_D I _ h1 r1 rx
  obtain ⟨bs, rb⟩ := reads_D I _ h2 r2 ry
  exact SeqAt.compareNe_reads ra rb (dat_lay h1) (dat_lay h2) (Nat.lt_of_le_of_lt (Nat.add_le_add_left hd _) hu) ⟨.bl _, H, I, rfl, q⟩
theorem de_eqD (hu : X.A.units + 64 < cLine) (h1 : isDat da = true) (h2 : isDat db = true) (hd : min (toPy da).depth (toPy db).depth ≤ 64) (ha : DE X ρ a da) (hb : DE X ρ b db) : DE X ρ (.Compare a [.Eq] [b] pos) (.bl (eqD da db)) :=
  de_cmp (op_eqD (hu := hu) h1 h2 hd) (fun x y H S Q rx ry dm k => ⟨S, rx, ry, k _ H Ext.refl (.bl _)⟩) ha hb (nomark _)
theorem dt_neD (hu : X.A.units + 64 < cLine) (h1 : isDat da = true) (h2 : isDat db = true) (hd : min (toPy da).depth (toPy db).depth ≤ 64) (ha : DE X ρ a da) (hb : DE X ρ b db) : DT X ρ (.Compare a [.NotEq] [b] pos) (!eqD da db) :=
  dt_cmp (op_neD (hu := hu) h1 h2 hd) (fun x y H S Q rx ry dm k => ⟨S, rx, ry, k _ H Ext.refl (.bl _)⟩) ha hb (nomark _)
end
end CT
set_option Elab.async false
set_option linter.all false
set_option maxRecDepth 100000
/-! short words for one's own program -/
namespace CT
open PySem PySem.Spec L2
open PyProof.Rows hiding St
def csOk (scope : Scope) (own : List Str) (cap : List (Str × Nat)) (sc : Scope) (N : List Str) : Bool :=
  decide (scope.kind = .function) && decide ((scope.names.map (·.1)).Nodup) && (scope.names.all fun x => x.2 != .free || sc.names.lookup x.1 == some .cell || sc.names.lookup x.1 == some .free) &&
    (own.all fun x => scope.names.contains (x, .local) || scope.names.contains (x, .cell)) && (cap.all fun p => N[p.2]? == some p.1 && scope.names.contains (p.1, .free)) && decide ((own ++ cap.map (·.1)).Nodup)
theorem CS.of {X : Cx} {scope : Scope} {own : List Str} {cap : List (Str × Nat)} (sc : Scope) (N : List Str) (h1 : X.env.scope = sc) (h2 : X.N = N) (h : csOk scope own cap sc N = true) : CS X scope own cap := by
  unfold csOk at h
  simp only [Bool.and_eq_true, decide_eq_true_eq, List.all_eq_true, Bool.or_eq_true, beq_iff_eq, bne_iff_ne, ne_eq, List.contains_iff_mem] at h
  obtain ⟨⟨⟨⟨⟨a1, a2⟩, a3⟩, a4⟩, a5⟩, a6⟩ := h
  subst h2
  refine ⟨a1, a2, fun x hx e => ?_, a4, a5, a6⟩
  show X.env.scope.names.lookup x.1 = _ ∨ X.env.scope.names.lookup x.1 = _
  rw [h1]
  rcases a3 x hx with (z | z) | z
  · exact absurd e z
  · exact .inl z
  · exact .inr z
section
variable {X : Cx} {scope : Scope} {own : List Str} {cap : List (Str × Nat)} {p : List (Addr × Obj)} {s : Shared} {h : Hp} {fp : List Addr} {ρ : Rho} {d : D} {x : Str} {pos : Pos}
theorem de_cv (cs : CS X scope own cap) {i : Nat} (hi : (own ++ cap.map (·.1))[i]? = some x) (hr : ρ[i]? = some (.val d)) (hd : (x == ("__debug__" : Str)) = false := by decide) (hcd : (x == ("__classdict__" : Str)) = false := by decide) :
    DE (cX X scope own cap p s h fp) ρ (.Name x pos) d := de_var hi (cs.vis hi) hr hd hcd
end
section
variable {X : Cx} {scope : Scope} {own : List Str} {cap : List (Str × Nat)} {ρ : Rho} {elt iter : Expr} {pos px : Pos} {α : Type} {l : List α} {f g : α → D} {x : Str} {k : Nat} {sc : Scope} {N : List Str}
/-- [elt for x in iter], the scope's facts by their check -/
theorem dc_mapW (h1 : X.env.scope = sc) (h2 : X.N = N) (hcs : csOk scope own cap sc N = true) (hc : X.calm = true) (hk : own[k]? = some x) (hi : DI0 X (.Name x px) ρ iter (l.map g)) (hz : l.length ≤ sizeLine)
    (he : CS X scope own cap → ∀ a ∈ l, ∀ p s h fp, DE (cX X scope own cap p s h fp) ((cR own cap ρ).set k (.val (g a))) elt (f a))
    (hs : ∀ x, foldedSetIterable iter X.env x = pure x := by intro _; rfl) : DC X ρ (.ListComp elt [⟨.Name x px, iter, [], 0⟩] scope pos) (l.map f) :=
  dc_map (CS.of sc N h1 h2 hcs) hc hk hi hz (he (CS.of sc N h1 h2 hcs)) hs
end
/-! ### parts of the text -/
def stN (l : List Stmt) (i : Nat) : Stmt := l.getD i (.Pass ⟨0, 0, 0, 0⟩)
/-- 0, 1, .. as ints -/
def kNats (n : Int) : List Int := (List.range n.toNat).map fun k : Nat => (k : Int)
theorem upto_ints (n : Int) : upto n.toNat = (kNats n).map D.int := by simp [upto, kNats]
theorem di_rangeK {X : Cx} {tg a : Expr} {ρ : Rho} {j : Int} {p pos : Pos} (hg : Gl X "range") (hm : X.mg "range" = none) (ha : DA X ρ [a] [.int j]) (h1 : -(2 ^ 62) ≤ j) (h2 : j < 2 ^ 62) (hs : starEach [a] X.env = [(false, eval a X.env)] := by rfl) : DI X tg ρ (.Call (.Name "range" p) [a] [] pos) ((kNats j).map D.int) := by
  rw [← upto_ints]
  exact di_range hg hm ha h1 h2 hs
theorem sz {n : Nat} (h : n ≤ 1000) : n ≤ sizeLine := Nat.le_trans h (by decide)
theorem DE.to {X : Cx} {ρ : Rho} {e : Expr} {d d' : D} (h : DE X ρ e d) (q : d = d') : DE X ρ e d' := q ▸ h
theorem DT.to {X : Cx} {ρ : Rho} {e : Expr} {d d' : Bool} (h : DT X ρ e d) (q : d = d') : DT X ρ e d' := q ▸ h
theorem Sq.l {xs : List D} : Sq (.lst xs) xs := .lst xs
theorem Sq.t {xs : List D} : Sq (.tup xs) xs := .tup xs
abbrev intsD (ns : List Int) : List D := ns.map .int
abbrev tupI (ns : List Int) : D := .tup (ns.map .int)
theorem cmR {i j : Int} (h1 : -(2 ^ 64) < j) (h2 : j < 2 ^ 64) : CMul i j := .inr ⟨h1, h2⟩
theorem cmL {i j : Int} (h1 : -(2 ^ 64) < i) (h2 : i < 2 ^ 64) : CMul i j := .inl ⟨h1, h2⟩
/-- the last one walked, as a slot -/
def lastS {α : Type} (g : α → D) (z : Sl) (done : List α) : Sl := match done.getLast? with | some a => .val (g a) | none => z
theorem lastS_snoc {α : Type} {g : α → D} {z : Sl} {done : List α} {a : α} : lastS g z (done ++ [a]) = .val (g a) := by unfold lastS; simp
/-- a for over data, by the slots R behind each turn -/
theorem forO_by {X : Cx} {tg : Expr} {body : List Stmt} {α : Type} {g : α → D} (R : List α → Rho) (all : List α)
    (h : ∀ (done : List α) (a : α) (rest : List α), all = done ++ a :: rest → ∃ ρ1 ks ρ2, DG X tg (R done) (g a) ρ1 ks ∧ TgOk (R done) ρ1 ks ∧ DSs X ρ1 body (.nx ρ2) ∧ ρ2 = R (done ++ [a])) :
    ForO X tg body (all.map g) (R []) (.nx (R all)) := by
  have go : ∀ (l done : List α), all = done ++ l → ForO X tg body (l.map g) (R done) (.nx (R (done ++ l))) := by
    intro l
    induction l with
    | nil => intro done _; rw [List.append_nil]; exact .nil _
    | cons a l ih =>
      intro done e
      obtain ⟨ρ1, ks, ρ2, h1, h2, h3, rfl⟩ := h done a l e
      have := ih (done ++ [a]) (by rw [e, List.append_assoc]; rfl)
      rw [List.append_assoc] at this
      exact .cons h1 h2 h3 this
  have := go all [] rfl
  exact this
/-! ### slots forgotten -/
def Wk (ρ ρ' : Rho) : Prop := ρ'.length = ρ.length ∧ ∀ (i : Nat) (x : Sl), ρ'[i]? = some x → x = .any ∨ ρ[i]? = some x
theorem Wk.refl {ρ : Rho} : Wk ρ ρ := ⟨rfl, fun _ _ h => .inr h⟩
theorem Wk.nil : Wk [] [] := Wk.refl
theorem Wk.same {ρ ρ' : Rho} {x : Sl} (h : Wk ρ ρ') : Wk (x :: ρ) (x :: ρ') := ⟨by simp [h.1], fun i y e => by
  cases i with
  | zero => exact .inr e
  | succ i => exact h.2 i y e⟩
theorem Wk.any {ρ ρ' : Rho} {x : Sl} (h : Wk ρ ρ') : Wk (x :: ρ) (.any :: ρ') := ⟨by simp [h.1], fun i y e => by
  cases i with
  | zero => cases e; exact .inl rfl
  | succ i => exact h.2 i y e⟩
theorem Wk.cons {ρ ρ' : Rho} {x y : Sl} (q : x = y) (h : Wk ρ ρ') : Wk (x :: ρ) (y :: ρ') := q ▸ h.same
theorem Fm.wk {K : PySem.W.Frag} {H₀ H : Hp} {S₀ S : Ad} {ρ ρ' : Rho} {σ : St} (w : Wk ρ ρ') (f : Fm K H₀ S₀ H S ρ σ) : Fm K H₀ S₀ H S ρ' σ := by
  have go : ∀ (i : Nat) (x : Sl), ρ'[i]? = some x → x.owns → ρ[i]? = some x := fun i x h o => by
    rcases w.2 i x h with z | z
    · rw [z] at o; exact o.elim
    · exact z
  refine ⟨⟨w.1.trans f.ve.len, fun i x h => ?_, fun i j x y a hij h1 h2 o1 o2 => f.ve.dist i j x y a hij (go i x h1 o1) (go j y h2 o2) o1 o2, f.ve.dom⟩, f.ext, f.sub, f.new, f.dm, fun i x a h o => f.own i x a (go i x h o) o⟩
  rcases w.2 i x h with z | z
  · subst z
    have hi := (List.getElem?_eq_some_iff.mp h).1
    have hi' : i < σ.length := by rw [← f.ve.len, ← w.1]; exact hi
    exact ⟨σ[i], by simp [hi'], trivial⟩
  · exact f.ve.rel i x z
section
variable {X : Cx} {ρ ρ' ρ1 : Rho} {sts : List Stmt} {st : Stmt} {o : Out}
theorem dss_post (h : DSs X ρ sts (.nx ρ1)) (w : Wk ρ1 ρ') : DSs X ρ sts (.nx ρ') := PSs.weak h fun E σ H ⟨H₀, S₀, S, f, k⟩ => ⟨H₀, S₀, S, f, fun σ' H' S' f' => k σ' H' S' (f'.wk w)⟩
theorem ds_pre (w : Wk ρ ρ') (h : DS X ρ' st o) : DS X ρ st o := PS.weak h fun E σ H ⟨H₀, S₀, S, f, k⟩ => ⟨H₀, S₀, S, f.wk w, k⟩
/-- a for over data, by the slots R, those not needed forgotten -/
theorem ds_forW {tg iter : Expr} {body : List Stmt} {α : Type} {g : α → D} {pos : Pos} (hp : PassesOwn (model X.prog X.w) X.A X.env X.xe) (hc : X.calm = true) (R : List α → Rho) (all : List α) (hi : DI X tg (R []) iter (all.map g)) (w0 : Wk ρ (R []))
    (h : ∀ (done : List α) (a : α) (rest : List α), all = done ++ a :: rest → ∃ ρ1 ks ρ2, DG X tg (R done) (g a) ρ1 ks ∧ TgOk (R done) ρ1 ks ∧ DSs X ρ1 body (.nx ρ2) ∧ Wk ρ2 (R (done ++ [a])))
    (hs : ∀ x, foldedSetIterable iter X.env x = pure x := by intro _; rfl) : DS X ρ (.For tg iter body [] pos) (.nx (R all)) :=
  ds_pre w0 (ds_for hp hc hi (forO_by R all fun done a rest e => by
    obtain ⟨ρ1, ks, ρ2, h1, h2, h3, h4⟩ := h done a rest e
    exact ⟨ρ1, ks, _, h1, h2, dss_post h3 h4, rfl⟩) hs)
end
theorem DSs.to {X : Cx} {ρ : Rho} {sts : List Stmt} {o o' : Out} (h : DSs X ρ sts o) (q : o = o') : DSs X ρ sts o' := q ▸ h
/-! ### a list of one's own is read by code whose value holds no list -/
end CT
set_option Elab.async false
set_option linter.all false
set_option maxRecDepth 100000
/-! zip of three; while; any of ints; min, max, range(a, b), ** over data -/
namespace CT
open PySem PySem.Spec L2
open PyProof.Rows hiding St
/-! ### while -/
inductive WhO (X : Cx) (c : Expr) (body : List Stmt) : Nat → Rho → Out → Prop
  | stop {n : Nat} {ρ : Rho} : DT X ρ c false → WhO X c body n ρ (.nx ρ)
  | turn {n : Nat} {ρ ρ' : Rho} {o : Out} : DT X ρ c true → DSs X ρ body (.nx ρ') → WhO X c body n ρ' o → WhO X c body (n + 1) ρ o
  | ret {n : Nat} {ρ : Rho} {o : Out} : DT X ρ c true → DSs X ρ body o → o.ends → WhO X c body n ρ o
/-! ### more built-ins -/
section
variable {X : Cx} {ρ : Rho} {e a b : Expr} {p pos : Pos} {da : D}
theorem de_pow {i j : Int} (h : CPow i j) (ha : DE X ρ a (.int i)) (hb : DE X ρ b (.int j)) : DE X ρ (.BinOp a .Pow b pos) (.int (i ^ j.toNat)) :=
  de_op op_pow (fun x y H S Q rx ry dm k => ⟨i, j, rx.intV, ry.intV, h, k _ H Ext.refl (.int _)⟩) ha hb
end
end CT
set_option Elab.async false
set_option linter.all false
set_option maxRecDepth 100000
set_option maxHeartbeats 400000
/-! enumerate(list) as what a loop or a comprehension walks -/
set_option Elab.async false
set_option linter.all false
set_option maxRecDepth 100000
set_option maxHeartbeats 400000
/-! THE DATA LAYER: exceptions made and read; lists put together; a comprehension of two names with a test -/
namespace CT
open PySem PySem.Spec L2
open PyProof.Rows hiding St
section
variable {X : Cx} {ρ : Rho} {k : Nat} {f C : Addr} {fd : FuncData} {ps : List Str} {x : Str} {p pos : Pos} {e o a b : Expr} {es : List Expr} {ds xs ys : List D} {d : D}
theorem RdsF.zip {K : PySem.W.Frag} {H : Hp} {S : Ad} : ∀ {fls : List Str} {ds : List D} {vs : List V}, RdsL K H S ds vs → RdsF K H S (fls.zip ds) (fls.zip vs)
  | [], _, _, _ => .nil
  | _ :: _, _, _, .nil => .nil
  | f :: fls, _, _, .cons r t => .cons r (RdsF.zip t)
/-! ### list + list -/
theorem op_catL : OpR X (binaryOp .Add) (fun x y H Q => ∃ a b us vs, x = .ref a ∧ y = .ref b ∧ SqL X.K H a us ∧ SqL X.K H b vs ∧ us.length + vs.length ≤ sizeLine ∧ ∀ z, H z = none → Q (.ref z) (upd H z (.lst (us ++ vs)))) := by
  intro pins s σ H x y v u Q I rx ry ⟨a, b, us, vs, ex, ey, h1, h2, hl, q⟩
  subst ex ey
  obtain rfl : v = Value.ref a := rx
  obtain rfl : u = Value.ref b := ry
  obtain ⟨i1, r1, p1, _⟩ := I.list h1
  obtain ⟨i2, r2, p2, _⟩ := I.list h2
  obtain ⟨⟨c, dd, dt, sl⟩, ho, hc, n, hd⟩ := p1.isList
  obtain ⟨⟨c2, dd2, dt2, sl2⟩, ho2, hc2, n2, hd2⟩ := p2.isList
  simp only at hc hd hc2 hd2
  subst hc hd hc2 hd2
  have l1 := r1.length
  have l2 := r2.length
  refine concat_meets ⟨_, ho, rfl⟩ ⟨_, ho2, rfl⟩ noFill_list_add seq_list_add PySem.F.slot_list_add PySem.F.entry_list_add (PySem.F.args_list_add_2 _ _) (list_addW a b i1.toArray i2.toArray n n2 dd dd2 sl sl2 (by simp; omega)) ⟨ho, ho2, ?_⟩
  have e : i1.toArray ++ i2.toArray = (i1 ++ i2).toArray := by simp
  rw [e]
  refine ⟨.ref s.heap.objs.size, _, I.laid (o := .lst (us ++ vs)) (t' := s.toks) (fun c w z => Heap.get?_push_of_some _ z) (Nat.le_refl _) ⟨by rw [List.length_append]; exact hl, i1 ++ i2, _, r1.append r2, Heap.get?_push_size _ rfl⟩, rfl, q _ (I.hok.fresh (Nat.le_refl _))⟩
theorem de_catL (ha : DE X ρ a (.lst xs)) (hb : DE X ρ b (.lst ys)) (hl : xs.length + ys.length ≤ sizeLine) : DE X ρ (.BinOp a .Add b pos) (.lst (xs ++ ys)) :=
  de_op op_catL (fun x y H S Q rx ry dm k => by
    obtain ⟨p, us, rfl, h1, r1⟩ := rx.lstV
    obtain ⟨q, vs, rfl, h2, r2⟩ := ry.lstV
    exact ⟨p, q, us, vs, rfl, rfl, h1, h2, by rw [← r1.length, ← r2.length]; exact hl, fun z hz => k _ _ (Ext.new hz) (Rds.newLst dm hz (r1.app r2))⟩) ha hb
end
end CT
set_option Elab.async false
set_option linter.all false
set_option maxRecDepth 100000
set_option maxHeartbeats 400000
namespace CT
open PySem PySem.Spec L2
open PyProof.Rows hiding St
/-- what a class of exceptions must be, checked at once -/
def xcOk (K : PySem.W.Frag) (C : Addr) : Bool := PySem.W.hasDictIn K C && (PySem.W.clsIn K C).any (fun cd => overV cd.mro) && PySem.W.findIn K (.ref C) "__getattribute__" == some (some (.builtin "BaseException.__getattribute__")) &&
  PySem.W.findIn K (.ref C) "__getattr__" == some none && PySem.W.findIn K (.ref C) "__setattr__" == some (some (.builtin "object.__setattr__")) && PySem.W.findIn K (.ref C) "__class__" == some (some (.builtin "object.__class__")) &&
  PySem.W.specialIn K (.builtin "object.__class__") "__get__" == some (some (.builtin "getset_descriptor.__get__")) && PySem.W.takesIn K (.builtin "object.__class__") == some true
theorem xisi_of {K : PySem.W.Frag} {C : Addr} (h : xcOk K C = true) : XIsi K C := by
  unfold xcOk at h
  simp only [Bool.and_eq_true, beq_iff_eq] at h
  obtain ⟨⟨⟨⟨⟨⟨⟨h1, h2⟩, h3⟩, h4⟩, h5⟩, h6⟩, h7⟩, h8⟩ := h
  exact ⟨⟨h1, h2, h3, h4, h5⟩, h6, h7, h8⟩
end CT
set_option Elab.async false
set_option linter.all false
set_option maxRecDepth 100000
set_option maxHeartbeats 400000
/-! RAISED EXCEPTIONS: how they lie, the frame noted, the frame left -/
namespace CT
open PySem PySem.Spec PySem.W L2
/-- an address that the body's own things do not use -/
structure Loose (X : Cx) (pins : List (Addr × Obj)) (H : Hp) (T : Addr) : Prop where
  new : X.s₀.heap.objs.size ≤ T
  loc : T ≠ X.env.locals
  cell : ∀ x c, X.env.cells.lookup x = some c → c ≠ T
  pin : ∀ p ∈ X.pn ++ pins, p.1 ≠ T
  free : H T = none
/-- how far a raised exception is: no entry yet, or the last entry's mark -/
def Trail (X : Cx) (pins : List (Addr × Obj)) (H : Hp) (h : Heap) (a : Addr) (φ : Option Value → Prop) : Prop :=
  ∃ oe vs, h.get? a = some oe ∧ oe.data = .fields vs ∧ ((vs[1]? = some .none ∧ φ none) ∨
    ∃ T oT ts fl, vs[1]? = some (.ref T) ∧ Loose X pins H T ∧ T ≠ a ∧ h.get? T = some oT ∧ oT.data = .fields ts ∧ ts[3]? = some fl ∧ φ (some fl))
abbrev anyFl : Option Value → Prop := fun _ => True
theorem Trail.imp {X : Cx} {pins : List (Addr × Obj)} {H : Hp} {h : Heap} {a : Addr} {φ ψ : Option Value → Prop} (t : Trail X pins H h a φ) (f : ∀ x, φ x → ψ x) : Trail X pins H h a ψ := by
  obtain ⟨oe, vs, h1, h2, q⟩ := t
  refine ⟨oe, vs, h1, h2, q.imp (fun z => ⟨z.1, f _ z.2⟩) ?_⟩
  rintro ⟨T, oT, ts, fl, z1, z2, z3, z4, z5, z6, z7⟩
  exact ⟨T, oT, ts, fl, z1, z2, z3, z4, z5, z6, f _ z7⟩
theorem Loose.same {X : Cx} {pins : List (Addr × Obj)} {H H' : Hp} {T : Addr} (l : Loose X pins H T) (h : H' T = none) : Loose X pins H' T := ⟨l.new, l.loc, l.cell, l.pin, h⟩
section
variable {X : Cx} {pins : List (Addr × Obj)} {σ : St} {H : Hp} {s : Shared} {a C : Addr} {dx : Option Addr} {fr : Bool} {M : Model} {A : Around} {E : Value → Shared → Prop}
/-- a free address of the heap's end -/
theorem _root_.L2.Inv.loose (I : Inv X pins σ H s) {T : Addr} (h : s.heap.objs.size ≤ T) : Loose X pins H T where
  new := Nat.le_trans I.sz h
  loc := Nat.ne_of_gt (Nat.lt_of_lt_of_le I.lt h)
  cell := fun x c e => by obtain ⟨v, o, ho, _⟩ := I.cell x c e; exact Nat.ne_of_lt (Nat.lt_of_lt_of_le (Heap.lt_size ho) h)
  pin := fun p hp => Nat.ne_of_lt (Nat.lt_of_lt_of_le (Heap.lt_size (I.pin p hp).1) h)
  free := I.hok.fresh h
/-- a record of ours is written -/
theorem _root_.L2.Inv.mark {T : Addr} {t' : Nat} {h' : Heap} (I : Inv X pins σ H s) (l : Loose X pins H T) (k : ∀ b o, b ≠ T → s.heap.get? b = some o → h'.get? b = some o) : Inv X pins σ H { s with heap := h', toks := t' } :=
  I.turned (it := T) k l.free l.loc (.inr l.new) l.cell l.pin
/-- the exception's own object is written -/
theorem _root_.L2.Inv.excAt {fr' : Bool} {h' : Heap} {t' : Nat} {vs : Array Value} (I : Inv X pins σ H s) (ha : H a = some (ExcIs fr a C dx)) (k : ∀ b o, b ≠ a → s.heap.get? b = some o → h'.get? b = some o) (h1 : h'.get? a = some ⟨.ref C, dx, .fields vs, #[]⟩) (hz : vs.size = 6) (hf : fr' = true → vs[1]? = some .none) :
    Inv X pins σ (upd H a (ExcIs fr' a C dx)) { s with heap := h', toks := t' } :=
  I.write (x := a) (e := a) (by rw [ha]; exact True.intro) (.inl rfl) k ⟨_, h1⟩ (exc_ok h1 hz hf)
/-- the frames' slots -/
theorem _root_.L2.Inv.slots {h' : Heap} (I : Inv X pins σ H s) (hs : Heap.SlotsOnly (frs X.stack) s.heap h') : Inv X pins σ H { s with heap := h' } := by
  have nH : ∀ b u, H b = some u → b ∉ frs X.stack := fun b u e hb => by rw [I.stkFree b hb] at e; cases e
  refine I.call (g' := s.gens) (d' := s.drawn) (t' := s.toks) (ch := []) ⟨fun b o e _ hb _ => (hs.2.1 b hb).trans e, fun b o e _ _ _ => hs.2.2 b o e, fun b o _ n _ => n, fun b o e _ => let ⟨sl, q⟩ := hs.2.2 b o e; ⟨_, q⟩, fun _ _ q => q, fun _ _ _ q => q, fun b ps q => ⟨#[], by rw [q]; simp⟩⟩
    (fun b u e => (I.hok b u e).stay (fun c v hc q => (hs.2.1 c ?_).trans q) (fun _ q => q) fun _ _ q => q) I.bare fun b z => nomatch z
  rcases hc with z | z
  · rw [z]; exact nH b u e
  · exact nH c _ z
/-- a new entry, head its next -/
theorem entry_new {head : Value} {hadNext : Bool} {Q : Unit → Shared → Prop} (I : Inv X pins σ H s) (hfr : A.frames = some X.stack) (hs : X.stack = X.env :: X.outer) (hf : X.env.frame = some X.env.locals) (ha : H a = some (ExcIs fr a C dx))
    (h : ∀ s', Inv X pins σ (upd H a (ExcIs false a C dx)) s' → Trail X pins (upd H a (ExcIs false a C dx)) s'.heap a (fun fl => fl = some (rawInt X.env.locals)) → Q () s') :
    wpAny M A (do let b ← EntryCells.newEntry head (← frameOf X.env) .none (rawInt X.env.locals) .none (← entryPlaceOf X.env.locals hadNext); setField (.ref a) 1 b) Q E s := by
  have hl := I.stack
  rw [hs] at hl hfr
  refine wpAny_bind (wpAny_frameOf_fun hfr hl hf fun h₁ hs₁ => ?_)
  have I1 : Inv X pins σ H { s with heap := h₁ } := I.slots (by rw [hs]; exact hs₁)
  refine wpAny_bind (wpAny_entryPlaceOf fun pl hpl => ?_)
  unfold EntryCells.newEntry newFields
  refine wpAny_bind (wpAny_newObj_type ?_ (hpl.sizeOk5 _ _ _ _ _))
  obtain ⟨vs, he₁, hz, _⟩ := exc_at (I1.hok a _ ha)
  have lo := I1.loose (T := h₁.objs.size) (Nat.le_refl _)
  have he₂ := Heap.get?_push_of_some (h := h₁) { cls := .type "traceback", dict := none, data := .fields ([head, .ref X.env.locals, .none, rawInt X.env.locals, .none] ++ (if pl.isEmpty then List.replicate 6 Value.none else pl)).toArray } he₁
  have hT₂ := Heap.get?_push_size h₁ (o := { cls := .type "traceback", dict := none, data := .fields ([head, .ref X.env.locals, .none, rawInt X.env.locals, .none] ++ (if pl.isEmpty then List.replicate 6 Value.none else pl)).toArray }) rfl
  have I2 := I1.kept (t' := s.toks) (h' := h₁.push { cls := .type "traceback", dict := none, data := .fields ([head, .ref X.env.locals, .none, rawInt X.env.locals, .none] ++ (if pl.isEmpty then List.replicate 6 Value.none else pl)).toArray }) (fun b u q => Heap.get?_push_of_some _ q)
  refine wpAny_setField he₂ rfl (by rw [hz]; decide) (h _ ?_ ?_)
  · refine I2.excAt (t' := s.toks) ha (fun b o hb q => (Heap.get?_update_other _ _ (Ne.symm hb)).trans q) (vs := vs.setIfInBounds 1 (.ref h₁.objs.size)) ?_ (by simpa using hz) (fun z => nomatch z)
    exact Heap.get?_update_self _ he₂ rfl
  · have hTe : h₁.objs.size ≠ a := Nat.ne_of_gt (Heap.lt_size he₁)
    refine ⟨_, vs.setIfInBounds 1 (.ref h₁.objs.size), Heap.get?_update_self _ he₂ rfl, rfl, .inr ⟨h₁.objs.size, _, _, rawInt X.env.locals, ?_, lo.same (by rw [upd_ne hTe]; exact lo.free), hTe, (Heap.get?_update_other _ _ (Ne.symm hTe)).trans hT₂, rfl, ?_, rfl⟩⟩
    · simp [hz]
    · first | (simp; done) | (rcases hpl with rfl | ⟨_, _, _, _, _, _, _, rfl⟩ <;> simp)
/-- the frame is noted -/
theorem note_ok {Q : Unit → Shared → Prop} (I : Inv X pins σ H s) (hfr : A.frames = some X.stack) (hs : X.stack = X.env :: X.outer) (hf : X.env.frame = some X.env.locals) (ha : H a = some (ExcIs fr a C dx)) (t : Trail X pins H s.heap a anyFl)
    (h : ∀ s', Inv X pins σ (upd H a (ExcIs false a C dx)) s' → Trail X pins (upd H a (ExcIs false a C dx)) s'.heap a (fun fl => fl = some (rawInt X.env.locals)) → Q () s') : wpAny M A (noteFrame (.ref a) X.env) Q E s := by
  obtain ⟨oe, vs, he, hd, t⟩ := t
  unfold noteFrame
  simp only [hf]
  rcases t with ⟨h1, _⟩ | ⟨T, oT, ts, fl, h1, lo, hTa, hT, hdT, h3, _⟩
  · refine wpAny_bind (wpAny_field he hd h1 ?_)
    rw [if_neg (by decide)]
    exact entry_new I hfr hs hf ha h
  · refine wpAny_bind (wpAny_field he hd h1 ?_)
    rw [if_pos (show (Value.ref T != Value.none) = true from by simp)]
    refine wpAny_bind (wpAny_field hT hdT h3 ?_)
    by_cases hq : (fl == rawInt X.env.locals) = true
    · rw [if_pos hq]
      obtain ⟨vs', e1, hz, _⟩ := exc_at (I.hok a _ ha)
      rw [he] at e1; cases e1
      cases hd
      refine wpAny_pure (h s ?_ ?_)
      · have := I.excAt (fr' := false) (t' := s.toks) (h' := s.heap) ha (fun b o _ q => q) he hz (fun z => nomatch z)
        exact this
      · exact ⟨_, _, he, rfl, .inr ⟨T, oT, ts, fl, h1, lo.same (by rw [upd_ne hTa]; exact lo.free), hTa, hT, hdT, h3, by rw [beq_iff_eq.mp hq]⟩⟩
    · rw [if_neg hq]
      refine wpAny_bind (wpAny_setField hT hdT (Array.getElem?_eq_some_iff.mp h3).1 ?_)
      have I1 := I.mark (T := T) (t' := s.toks) (h' := s.heap.update T (Obj.mapFields (·.setIfInBounds 3 Value.none))) lo fun b o hb q => (Heap.get?_update_other _ _ (Ne.symm hb)).trans q
      exact entry_new I1 hfr hs hf ha h
/-- the mark is taken away, or set -/
theorem flight_ok {fo : Option Addr} {φ : Option Value → Prop} {Q : Unit → Shared → Prop} (I : Inv X pins σ H s) (t : Trail X pins H s.heap a φ)
    (h : ∀ s', Inv X pins σ H s' → Trail X pins H s'.heap a (fun fl => ∃ x, φ x ∧ x.isSome = fl.isSome) → Q () s') : wpAny M A (setFlight (.ref a) fo) Q E s := by
  obtain ⟨oe, vs, he, hd, t⟩ := t
  unfold setFlight
  rcases t with ⟨h1, hp⟩ | ⟨T, oT, ts, fl, h1, lo, hTa, hT, hdT, h3, hp⟩
  · refine wpAny_bind (wpAny_field he hd h1 ?_)
    rw [if_neg (by decide)]
    exact wpAny_pure (h s I ⟨oe, vs, he, hd, .inl ⟨h1, none, hp, rfl⟩⟩)
  · refine wpAny_bind (wpAny_field he hd h1 ?_)
    rw [if_pos (show (Value.ref T != Value.none) = true from by simp)]
    have hsz := (Array.getElem?_eq_some_iff.mp h3).1
    refine wpAny_setField hT hdT hsz (h _ ?_ ?_)
    · exact I.mark (T := T) (t' := s.toks) lo fun b o hb q => (Heap.get?_update_other _ _ (Ne.symm hb)).trans q
    · refine ⟨oe, vs, (Heap.get?_update_other _ _ hTa).trans he, hd, .inr ⟨T, _, _, fo.elim .none (fun f => rawInt f), h1, lo, hTa, Heap.get?_update_self _ hT (Obj.isFreed_of_fields (Obj.data_mapFields hdT _)), Obj.data_mapFields hdT _, by simp [hsz], some fl, hp, rfl⟩⟩
end
end CT
set_option Elab.async false
set_option linter.all false
set_option maxRecDepth 100000
set_option maxHeartbeats 400000
/-! RAISED EXCEPTIONS: contexts, calls, raise, try -/
namespace CT
open PySem PySem.Spec PySem.W L2
open PyProof.Rows hiding St
/-- how an exception lies behind a call -/
def CXA (P : Program) (w : World) : CXT := fun outer H s E e s' => ∃ a H' C dx, e = .ref a ∧ s'.os = s.os ∧ AllBare s'.gens ∧ Un (frs outer) [] H H' s.heap s'.heap ∧ HOk P w H' s'.heap ∧ H' a = some (ExcIs false a C dx) ∧
  (∃ oe vs T oT ts fl, s'.heap.get? a = some oe ∧ oe.data = .fields vs ∧ vs[1]? = some (.ref T) ∧ s.heap.objs.size ≤ T ∧ H' T = none ∧ T ≠ a ∧ s'.heap.get? T = some oT ∧ oT.data = .fields ts ∧ ts[3]? = some fl) ∧ E e none H'
/-- pins put into the context -/
abbrev _root_.L2.Cx.pnd (X : Cx) (pins : List (Addr × Obj)) : Cx := { X with pn := X.pn ++ pins }
/-- what is wanted of an exception: R of the slots, the exception, the heap -/
abbrev _root_.L2.Cx.xw (X : Cx) (pins : List (Addr × Obj)) (R : St → Addr → Hp → Prop) : Cx :=
  { X with pn := X.pn ++ pins, xe := fun e s' => ∃ σ a H C dx, e = .ref a ∧ Inv (X.pnd pins) [] σ H s' ∧ H a = some (ExcIs false a C dx) ∧ Trail (X.pnd pins) [] H s'.heap a anyFl ∧ R σ a H }
section
variable {X : Cx} {pins pins' : List (Addr × Obj)} {σ : St} {H : Hp} {s : Shared} {R : St → Addr → Hp → Prop} {a C : Addr} {dx : Option Addr}
theorem _root_.L2.Cx.Ok.re {X Y : Cx} (ok : X.Ok) (h : Y = { X with pn := Y.pn, xe := Y.xe }) : Y.Ok := by
  rw [h]
  exact ⟨ok.mod, ok.kind, ok.glob, ok.blt, ok.above, ok.inj, ok.has, ok.cab, ok.hd, ok.frames, ok.stk, ok.exf, ok.bs, ok.bsz, ok.noex, ok.exfs, ok.funs, ok.frf⟩
/-- other pins, another wish -/
theorem _root_.L2.Inv.re {X : Cx} {pn : List (Addr × Obj)} {E : Value → Shared → Prop} (I : Inv X pins σ H s) (hp : ∀ p ∈ pn ++ pins', p ∈ X.pn ++ pins) : Inv { X with pn := pn, xe := E } pins' σ H s :=
  ⟨Cx.Ok.re I.ok rfl, I.os, I.bare, I.base, I.loc, I.cell, I.free, I.freeC, fun p h => I.pin p (hp p h), I.hok, I.len⟩
theorem _root_.L2.Inv.xw (I : Inv X pins σ H s) : Inv (X.xw pins R) [] σ H s := Inv.re I fun p h => by simpa using h
theorem _root_.L2.Inv.toxw (I : Inv X (pins ++ pins') σ H s) : Inv (X.xw pins R) pins' σ H s := Inv.re I fun p h => by simpa [or_assoc] using h
theorem _root_.L2.Inv.unxw (I : Inv (X.xw pins R) pins' σ H s) : Inv X (pins ++ pins') σ H s := Inv.re (X := X.xw pins R) (pn := X.pn) (E := X.xe) I fun p h => by
  rcases List.mem_append.mp h with h | h
  · exact List.mem_append_left _ (List.mem_append_left _ h)
  · rcases List.mem_append.mp h with h | h
    · exact List.mem_append_left _ (List.mem_append_right _ h)
    · exact List.mem_append_right _ h
theorem _root_.L2.Inv.xwp (I : Inv (X.xw pins R) pins' σ H s) : Inv (X.pnd pins) [] σ H s := Inv.re (X := X.xw pins R) (E := X.xe) I fun p h => List.mem_append_left _ (by simpa using h)
theorem _root_.L2.Inv.pxw (I : Inv (X.pnd pins) [] σ H s) : Inv X pins σ H s := Inv.re (X := X.pnd pins) (pn := X.pn) (E := X.xe) I fun p h => by simpa using h
theorem Loose.re {X Y : Cx} {pins pins' : List (Addr × Obj)} {H : Hp} {T : Addr} (l : Loose X pins H T) (h0 : Y.s₀ = X.s₀) (h1 : Y.env = X.env) (h2 : ∀ p ∈ Y.pn ++ pins', p ∈ X.pn ++ pins) : Loose Y pins' H T :=
  ⟨by rw [h0]; exact l.new, by rw [h1]; exact l.loc, by rw [h1]; exact l.cell, fun p hp => l.pin p (h2 p hp), l.free⟩
theorem Trail.re {X Y : Cx} {pins pins' : List (Addr × Obj)} {H : Hp} {h : Heap} {φ : Option Value → Prop} (t : Trail X pins H h a φ) (h0 : Y.s₀ = X.s₀) (h1 : Y.env = X.env) (h2 : ∀ p ∈ Y.pn ++ pins', p ∈ X.pn ++ pins) : Trail Y pins' H h a φ := by
  obtain ⟨oe, vs, q1, q2, q⟩ := t
  refine ⟨oe, vs, q1, q2, q.imp_right ?_⟩
  rintro ⟨T, oT, ts, fl, z1, z2, z⟩
  exact ⟨T, oT, ts, fl, z1, z2.re h0 h1 h2, z⟩
theorem PE.xw {e : Expr} {t : TE} (h : PE X e t) (hx : ∀ e s, ¬ X.xe e s) : PE (X.xw pins R) e t := fun pins' s σ H Q I hw =>
  wpAny_mono (h (pins ++ pins') s σ H Q I.unxw hw) (fun _ _ ⟨v, H', I', r, q⟩ => ⟨v, H', I'.toxw, r, q⟩) fun e s z => absurd z (hx e s)
theorem PT.xw {e : Expr} {t : TT} (h : PT X e t) (hx : ∀ e s, ¬ X.xe e s) : PT (X.xw pins R) e t := fun pins' s σ H Q I hw =>
  wpAny_mono (h (pins ++ pins') s σ H Q I.unxw hw) (fun _ _ ⟨H', I', q⟩ => ⟨H', I'.toxw, q⟩) fun e s z => absurd z (hx e s)
theorem PA.xw {es : List Expr} {t : TA} (h : PA X es t) (hx : ∀ e s, ¬ X.xe e s) : PA (X.xw pins R) es t := fun pos pins' s σ H Q I hw =>
  wpAny_mono (h pos (pins ++ pins') s σ H Q I.unxw hw) (fun _ _ ⟨v, H', I', r, q⟩ => ⟨v, H', I'.toxw, r, q⟩) fun e s z => absurd z (hx e s)
theorem _root_.L2.SP.toxw {D : Ends} {f : Flow} {s' : Shared} (h : SP X (pins ++ pins') D f s') : SP (X.xw pins R) pins' D f s' := by
  cases f with
  | next => obtain ⟨σ', H', I, q⟩ := h; exact ⟨σ', H', I.toxw, q⟩
  | brk => obtain ⟨σ', H', I, q⟩ := h; exact ⟨σ', H', I.toxw, q⟩
  | cont => obtain ⟨σ', H', I, q⟩ := h; exact ⟨σ', H', I.toxw, q⟩
  | ret u => obtain ⟨v, σ', H', I, r, q⟩ := h; exact ⟨v, σ', H', I.toxw, r, q⟩
theorem PS.xw {st : Stmt} {t : TS} (h : PS X st t) (hx : ∀ e s, ¬ X.xe e s) : PS (X.xw pins R) st t := fun pins' s σ H D I hw =>
  wpAny_mono (h (pins ++ pins') s σ H D I.unxw hw) (fun _ _ q => q.toxw) fun e s z => absurd z (hx e s)
theorem PSs.xw {st : List Stmt} {t : TS} (h : PSs X st t) (hx : ∀ e s, ¬ X.xe e s) : PSs (X.xw pins R) st t := fun pins' s σ H D I hw =>
  wpAny_mono (h (pins ++ pins') s σ H D I.unxw hw) (fun _ _ q => q.toxw) fun e s z => absurd z (hx e s)
end
/-! ### judgements: raised is d -/
def tX (K : Frag) (ρ : Rho) (d : D) (R : St → Addr → Hp → Prop) (σ : St) (H : Hp) : Prop := ∃ S, VE K H S ρ σ ∧ ∀ a H', Ext0 H H' → H a = none → Rds K H' S d (.ref a) → R σ a H'
def DEX (X : Cx) (ρ : Rho) (e : Expr) (d : D) : Prop := ∀ pins R, PE (X.xw pins R) e fun σ H _ => tX X.K ρ d R σ H
def tSX (K : Frag) (ρ ρ' : Rho) (d : D) (R : St → Addr → Hp → Prop) (σ : St) (H : Hp) : Prop := ∃ H₀ S₀ S, Fm K H₀ S₀ H S ρ σ ∧ ∀ σ' a H' S', Fm K H₀ S₀ H' S' ρ' σ' → H₀ a = none → Rds K H' S' d (.ref a) → R σ' a H'
def DSX (X : Cx) (ρ : Rho) (st : Stmt) (ρ' : Rho) (d : D) : Prop := ∀ pins R, PS (X.xw pins R) st fun _ σ H => tSX X.K ρ ρ' d R σ H
def DSXs (X : Cx) (ρ : Rho) (sts : List Stmt) (ρ' : Rho) (d : D) : Prop := ∀ pins R, PSs (X.xw pins R) sts fun _ σ H => tSX X.K ρ ρ' d R σ H
section
variable {X : Cx} {ρ ρ' ρ1 : Rho} {e c : Expr} {d : D} {st : Stmt} {sts : List Stmt} {pos pos' : Pos} {i : Nat} {x : Str}
theorem dsxs_head (h : DSX X ρ st ρ' d) : DSXs X ρ (st :: sts) ρ' d := fun pins R => PSs.weak (pss_cons (h pins R) (pss_never (sts := sts))) fun E σ H q => q
theorem tX_of {K : Frag} {R : St → Addr → Hp → Prop} {σ : St} {H : Hp} (q : tSX K ρ ρ d R σ H) : tX K ρ d R σ H := by
  obtain ⟨H₀, S₀, S, f, k⟩ := q
  exact ⟨S, f.ve, fun a H' ex hn r => k σ a H' S (f.grow ex) (f.ext.back hn) r⟩
theorem dsx_expr (h : DEX X ρ e d) (hs : swapsWith e none pos.line X.env = pure false := by rfl) : DSX X ρ (.Expr e pos) ρ d := fun pins R => PS.weak (ps_expr (h pins R) hs) fun E σ H q => tX_of q
theorem pss_anyX {sts : List Stmt} {pins : List (Addr × Obj)} {R : St → Addr → Hp → Prop} : PSs (X.xw pins R) sts (fun E σ H => ∃ ρ ρ' d, DSXs X ρ sts ρ' d ∧ tSX X.K ρ ρ' d R σ H) := fun pins' s σ H D I ⟨_, _, _, h, q⟩ => h pins R pins' s σ H D I q
theorem dsx_if {a b : List Stmt} {q : Bool} (hc : DT X ρ c q) (ha : q = true → DSXs X ρ a ρ' d) (hb : q = false → DSXs X ρ b ρ' d) (hx : ∀ e s, ¬ X.xe e s := by intro _ _ z; exact z) : DSX X ρ (.If c a b pos) ρ' d := fun pins R =>
  PS.weak (ps_if (PT.xw hc hx) (pss_anyX (sts := a)) (pss_anyX (sts := b))) fun E σ H ⟨H₀, S₀, S, f, k⟩ => ⟨S, f.ve, fun H' ex => by
    cases q with
    | true => exact iteT ⟨ρ, ρ', d, ha rfl, H₀, S₀, S, f.grow ex, k⟩
    | false => exact iteF ⟨ρ, ρ', d, hb rfl, H₀, S₀, S, f.grow ex, k⟩⟩
end
end CT
set_option Elab.async false
set_option linter.all false
set_option maxRecDepth 100000
set_option maxHeartbeats 400000
/-! RAISED EXCEPTIONS: calls and defs -/
namespace CT
open PySem PySem.Spec PySem.W L2
open PyProof.Rows hiding St
abbrev xk (R : St → Addr → Hp → Prop) (σ : St) : XK := fun e _ H' => ∃ a, e = .ref a ∧ R σ a H'
section
variable {X : Cx} {pins pins' : List (Addr × Obj)} {R : St → Addr → Hp → Prop} {k : Nat} {f C : Addr} {fd : FuncData} {ps : List Str} {sp : Sp} {x m : Str} {p pos apos : Pos} {e o : Expr} {es : List Expr} {ta : TE} {t : TA} {σ : St} {H : Hp} {s s' : Shared} {Q : VK}
/-- an exception comes out of a call -/
theorem out_of_call {e : Value} (I : Inv (X.xw pins R) pins' σ H s) (h : CXA X.prog X.w X.stack H s (xk R σ) e s') : (X.xw pins R).xe e s' := by
  obtain ⟨a, H', C, dx, rfl, os, bare, un, hok, ha, ⟨oe, vs, T, oT, ts, fl, h1, h2, h3, h4, h5, h6, h7, h8, h9⟩, a', ea, hR⟩ := h
  cases ea
  have I' : Inv (X.xw pins R) pins' σ H' s' := I.call' (ch := []) os un hok bare fun b z => nomatch z
  have lo := I.loose (T := T) h4
  exact ⟨σ, a, H', C, dx, rfl, I'.xwp, ha, ⟨oe, vs, h1, h2, .inr ⟨T, oT, ts, fl, h3, (lo.same h5).re rfl rfl fun p h => List.mem_append_left _ (by simpa using h), h6, h7, h8, h9, trivial⟩⟩, hR⟩
theorem run_makeX {us : List Value} {vs : List V} (M : Mk X.K C f) (F : FnOk X.prog X.w X.K X.mg X.base (CXA X.prog X.w) k f fd ps sp) (hr : Room (k + 1) X.A) (hb : Binds X.K fd ps []) (I : Inv (X.xw pins R) pins' σ H s) (r : Vals vs us)
    (h : ∀ x dx, H x = none → H dx = none → dx ≠ x → sp (.ref x :: vs) (upd (upd H dx (.own x)) x (.ins C dx [])) (fun v H2 => v = .non ∧ Q (.ref x) H2) (xk R σ)) :
    wpAny (model X.prog X.w) X.A (call (.ref C) us) (EP (X.xw pins R) pins' σ Q) (X.xw pins R).xe s := by
  have hq := h (s.heap.objs.size + 1) s.heap.objs.size (I.hok.fresh (Nat.le_succ _)) (I.hok.fresh (Nat.le_refl _)) (Nat.ne_of_lt (Nat.lt_succ_self _))
  have I2 := Inv.made (C := C) I
  have r2 : Vals (V.ref (s.heap.objs.size + 1) :: vs) (Value.ref (s.heap.objs.size + 1) :: us) := .cons rfl r
  have hl : ((Value.ref (s.heap.objs.size + 1) :: us) ++ []).length = ps.length := by rw [List.append_nil, ← r2.length]; exact F.len _ _ _ _ hq
  refine wpAny_call (make_map (f := f) I.kIn M.makes M.init (beq_iff_eq.mp M.fn) (codeAny_mono (F.run _ X.stack _ _ ⟨Value.ref (s.heap.objs.size + 1) :: us, []⟩ (Value.ref (s.heap.objs.size + 1) :: us) _ _ (xk R σ) (hr.make C us [])
    (I2.env0.make C us []) (by have := hb _ (Value.ref (s.heap.objs.size + 1) :: us) I2.kIn hl; rw [List.append_nil] at this; exact this) r2 hq) fun r s' hq' => ?_))
  cases r with
  | error e => exact out_of_call I2 hq'
  | ok fl =>
    cases fl with
    | ret u =>
      obtain ⟨v, H', I3, rv, ev, q3⟩ := I2.after hq'
      subst ev
      exact ⟨rv, ⟨V.ref (s.heap.objs.size + 1), H', I3, rfl, q3⟩⟩
    | next => exact False.elim hq'
    | brk => exact False.elim hq'
    | cont => exact False.elim hq'
theorem pex_make (M : Mk X.K C f) (F : FnOk X.prog X.w X.K X.mg X.base (CXA X.prog X.w) k f fd ps sp) (hr : Room (k + 1) X.A) (hg : Gl X x) (hm : X.mg x = some (.ref C)) (hb : Binds X.K fd ps [])
    (ha : PA (X.xw pins R) (e :: es) t) (hdb : (x == ("__debug__" : Str)) = false := by decide) (he : starEach (e :: es) X.env = (false, eval e X.env) :: starEach es X.env := by rfl) (hpl : (backTo pos (starEach es X.env)).any (·.1) = false := by rfl) :
    PE (X.xw pins R) (.Call (.Name x p) (e :: es) [] pos) (fun σ H Q => t σ H fun vs H1 => ∀ x dx, H1 x = none → H1 dx = none → dx ≠ x → sp (.ref x :: vs) (upd (upd H1 dx (.own x)) x (.ins C dx [])) (fun v H2 => v = .non ∧ Q (.ref x) H2) (xk R σ)) := by
  intro pins' s σ H Q I h
  refine wpAny_Call_Name_kw (ld_glob I hg hm ?_ hdb)
  refine PySem.W.callWith_K (h₀ := X.base) I.ok.mod.kin M.kp (thn (ha pos pins' s σ H _ I h) fun us s1 ⟨vs, H1, I1, r, q⟩ => ⟨I1.kIn, ?_⟩) he hpl
  exact run_makeX M F hr hb I1 r q
end
/-! ### promises that may be an exception -/
inductive Res where
  | ok (d : D) | xc (d : D)
section
variable {P : Program} {w : World} {K : Frag} {mg : Str → Option Value} {base : Heap} {x qual : Str} {st : Stmt} {f : Addr} {fd : FuncData} {N ps : List Str} {k : Nat} {sp : Sp} {CX : CXT}
theorem FnOk.any (F : FnOk P w K mg base CX0 k f fd ps sp) : FnOk P w K mg base CX k f fd ps sp :=
  ⟨F.len, fun A outer s H args us vs Q E hr he hb hv hs => codeAny_mono (F.run A outer s H args us vs Q E hr he hb hv hs) fun r s' z => by cases r with | error e => exact False.elim z | ok fl => (cases fl <;> exact z)⟩
theorem _root_.L2.Fun.okC (F : Fun K x qual st f fd) (S : FnScope N ps (defScope st)) (len : ∀ vs H Q E, sp vs H Q E → vs.length = ps.length)
    (hbody : ∀ (cdv : Value) (A : Around) (outer : List Env) (s : Shared) (H : Hp) (vs : List V) (Q : VK) (E : XK), Room k (A.deeper (envOfC qual (defScope st) s.heap.objs.size f cdv)) → sp vs H Q E →
      ∃ t, PSs (cxOf CX P w K mg base N qual (defScope st) f cdv A outer s H E) (defBody st) t ∧ t { nx := fun _ H' => Q .non H', rt := Q } (start N vs) H) : FnOk P w K mg base CX (k + 1) f fd ps sp := by
  obtain ⟨oc, od, kV, doc, pm, an, cdv, ct, osl, rfl, lk, hcd⟩ := F.ex
  exact fn_of lk hcd S len fun A outer s H vs Q E hr hsp => hbody cdv A outer s H vs Q E hr hsp
/-- the frame is left with an exception -/
theorem leave_cx {N : List Str} {scope : Scope} {cd : Value} {A : Around} {outer : List Env} {s s' : Shared} {H H' : Hp} {E : XK} {pins : List (Addr × Obj)} {σ : St} {a C : Addr} {dx : Option Addr}
    (I : Inv (cxOf (CXA P w) P w K mg base N qual scope f cd A outer s H E) pins σ H' s') (ha : H' a = some (ExcIs false a C dx)) (t : Trail (cxOf (CXA P w) P w K mg base N qual scope f cd A outer s H E) pins H' s'.heap a anyFl) (hE : E (.ref a) none H') :
    (cxOf (CXA P w) P w K mg base N qual scope f cd A outer s H E).xe (.ref a) s' := by
  show wpAny _ _ (leaving _ _) _ _ _
  unfold leaving
  have eH : upd H' a (ExcIs false a C dx) = H' := by
    funext b; unfold upd; split
    · rename_i z; rw [z, ha]
    · rfl
  refine wpAny_bind (note_ok I I.ok.frames rfl rfl ha t fun s1 I1 t1 => ?_)
  rw [eH] at I1 t1
  refine flight_ok I1 t1 fun s2 I2 t2 => ?_
  obtain ⟨oe, vs, h1, h2, q⟩ := t2
  rcases q with ⟨_, x, hx, hn⟩ | ⟨T, oT, ts, fl, z1, z2, z3, z4, z5, z6, _⟩
  · rw [hx] at hn; cases hn
  · exact ⟨a, H', C, dx, rfl, I2.os, I2.bare, I2.base, I2.hok, ha, ⟨oe, vs, T, oT, ts, fl, h1, h2, z1, z2.new, z2.free, z3, z4, z5, z6⟩, hE⟩
/-- a body that raises -/
theorem pss_out {cd : Value} {scope : Scope} {A : Around} {outer : List Env} {s : Shared} {H : Hp} {E : XK} {body : List Stmt} {ρ ρ' : Rho} {d : D} (h : DSXs (cxOf (CXA P w) P w K mg base N qual scope f cd A outer s H E).nox ρ body ρ' d) :
    PSs (cxOf (CXA P w) P w K mg base N qual scope f cd A outer s H E) body fun _ σ H => tSX K ρ ρ' d (fun _ a H' => E (.ref a) none H') σ H := by
  intro pins s1 σ H1 D I q
  refine wpAny_mono (h pins (fun _ a H' => E (.ref a) none H') [] s1 σ H1 ⟨fun _ _ => False, fun _ _ => False, fun _ _ => False, fun _ _ => False⟩ ((I.wish _).xw) q) (fun fl s' z => ?_) fun e s' z => ?_
  · cases fl with
    | next => obtain ⟨_, _, _, z⟩ := z; exact z.elim
    | brk => obtain ⟨_, _, _, z⟩ := z; exact z.elim
    | cont => obtain ⟨_, _, _, z⟩ := z; exact z.elim
    | ret u => obtain ⟨_, _, _, _, _, z⟩ := z; exact z.elim
  · obtain ⟨σ', a, H', C, dx, rfl, I', ha, t, hR⟩ := z
    refine leave_cx (pins := pins) (Inv.unwish (E := fun _ _ => False) I'.pxw) ha (t.re rfl rfl fun p hp => ?_) hR
    exact List.mem_append_left _ hp
end
end CT
set_option Elab.async false
set_option linter.all false
set_option maxRecDepth 100000
set_option maxHeartbeats 400000
/-! RAISED EXCEPTIONS: calls by data, __init__ that raises -/
namespace CT
open PySem PySem.Spec PySem.W L2
open PyProof.Rows hiding St
/-- __init__ that may raise -/
inductive ResI where
  | ok (fs : List (Str × D)) | xc (d : D)
def spIR (K : Frag) (C : Addr) (P : List D → ResI → Prop) : Sp := fun vs H Q E => ∃ S x dx us ds r, vs = .ref x :: us ∧ H x = some (.ins C dx []) ∧ Dom H S ∧ S x ∧ RdsL K H S ds us ∧ P ds r ∧
  (∀ fs, r = .ok fs → ∀ H' gs, (∀ a o, a ≠ x → H a = some o → H' a = some o) → H' x = some (.ins C dx gs) → RdsF K H' S fs gs → Q .non H') ∧
  ∀ d, r = .xc d → ∀ a H', (∀ b o, b ≠ x → H b = some o → H' b = some o) → (a ≠ x → H a = none) → Rds K H' (fun b => S b ∧ b ≠ x) d (.ref a) → E (.ref a) none H'
section
variable {P : Program} {w : World} {K : Frag} {mg : Str → Option Value} {base : Heap} {x qual : Str} {st : Stmt} {f C : Addr} {fd : FuncData} {N ps : List Str} {k : Nat}
theorem FnOk.okI {Pr : List D → ResI → Prop} (F : FnOk P w K mg base (CXA P w) k f fd ps (spIR K C Pr)) : FnOk P w K mg base CX0 k f fd ps (spI K C fun ds fs => Pr ds (.ok fs)) := by
  have key : ∀ vs H Q E, spI K C (fun ds fs => Pr ds (.ok fs)) vs H Q E → spIR K C Pr vs H Q E0 := fun vs H Q E ⟨S, x, dx, us, ds, fs, e, hx, dm, sx, r, p, kk⟩ => ⟨S, x, dx, us, ds, .ok fs, e, hx, dm, sx, r, p, fun d' e => by cases e; exact kk, fun d' e => nomatch e⟩
  exact ⟨fun vs H Q E h => F.len _ _ _ _ (key vs H Q E h), fun A outer s H args us vs Q E hr he hb hv hs => codeAny_mono (F.run A outer s H args us vs Q E0 hr he hb hv (key _ _ _ _ hs)) fun r s' z => by
    cases r with
    | error e => obtain ⟨_, _, _, _, _, _, _, _, _, _, _, h⟩ := z; exact h
    | ok fl => cases fl <;> exact z⟩
/-- the frame at __init__'s entry -/
theorem start_fmI {H : Hp} {S' : Ad} {z dx : Addr} {us : List V} {ds : List D} (hz : H z = some (.ins C dx [])) (dm : Dom H S') (sz : S' z) (r : RdsL K H S' ds us) :
    Fm K (fun a => if a = z then none else H a) (fun a => S' a ∧ a ≠ z) H S' (.new C z dx [] :: (startR N (.non :: ds)).tail) (start N (.ref z :: us)) := by
  have ve := start_ve (N := N) dm (.cons (.non : Rds K H S' .non .non) r)
  have e1 : startR N (.non :: ds) = .val .non :: (startR N (.non :: ds)).tail := rfl
  have e2 : start N (.non :: us) = some .non :: (start N (.non :: us)).tail := rfl
  have e3 : start N (.ref z :: us) = some (.ref z) :: (start N (.non :: us)).tail := rfl
  have nown : ∀ (i : Nat) (x : Sl), (startR N (.non :: ds))[i]? = some x → ¬ x.owns := fun i x h o => by
    have hm := List.mem_of_getElem? h
    unfold startR at hm
    rcases List.mem_append.mp hm with hm | hm
    · obtain ⟨y, _, e⟩ := List.mem_map.mp hm; rw [← e] at o; exact o
    · rw [(List.mem_replicate.mp hm).2] at o; exact o
  have nt : ∀ (i : Nat) (x : Sl), (startR N (.non :: ds)).tail[i]? = some x → ¬ x.owns := fun i x h => nown (i + 1) x (by rw [e1]; exact h)
  refine ⟨⟨?_, fun i x h => ?_, fun i j x y a hij h1 h2 o1 o2 _ => ?_, dm⟩, fun a o _ h => ?_, fun a h => h.1, fun a h => ?_, fun a h => ?_, fun i x a h o h2 => ?_⟩
  · have := ve.len
    rw [e3, List.length_cons, List.length_cons]
    rw [e1, e2, List.length_cons, List.length_cons] at this
    exact this
  · rw [e3]
    cases i with
    | zero => cases h; exact ⟨_, rfl, [], rfl, sz, hz, .nil⟩
    | succ i =>
      obtain ⟨v, q1, q2⟩ := ve.rel (i + 1) x (by rw [e1]; exact h)
      rw [e2] at q1
      exact ⟨v, q1, q2⟩
  · cases i with
    | zero => cases j with
      | zero => exact absurd rfl hij
      | succ j => exact absurd o2 (nt j y h2)
    | succ i => exact absurd o1 (nt i x h1)
  · by_cases ha : a = z
    · rw [if_pos ha] at h; cases h
    · rw [if_neg ha] at h; exact h
  · by_cases ha : a = z
    · exact .inr (if_pos ha)
    · exact .inl ⟨h, ha⟩
  · show (if a = z then none else H a) ≠ none
    rw [if_neg h.2]; exact dm a h.1
  · cases i with
    | zero =>
      rw [e3] at h2
      cases h2
      exact if_pos rfl
    | succ i => exact absurd o (nt i x h)
theorem fn_IR {Pr : List D → ResI → Prop} (F : Fun K x qual st f fd) (S : FnScope N ps (defScope st)) (len : ∀ ds r, Pr ds r → ds.length + 1 = ps.length)
    (hb : ∀ (cdv : Value) (A : Around) (outer : List Env) (s : Shared) (H : Hp) (E : XK) (ds : List D) (fs : List (Str × D)) (z dx : Addr), Room k (A.deeper (envOfC qual (defScope st) s.heap.objs.size f cdv)) → Pr ds (.ok fs) →
      ∃ ρ', ρ'[0]? = some (.new C z dx fs) ∧ DSs (cxOf (CXA P w) P w K mg base N qual (defScope st) f cdv A outer s H E).nox (.new C z dx [] :: (startR N (.non :: ds)).tail) (defBody st) (.nx ρ'))
    (hx : ∀ (cdv : Value) (A : Around) (outer : List Env) (s : Shared) (H : Hp) (E : XK) (ds : List D) (d : D) (z dx : Addr), Room k (A.deeper (envOfC qual (defScope st) s.heap.objs.size f cdv)) → Pr ds (.xc d) →
      ∃ ρ', DSXs (cxOf (CXA P w) P w K mg base N qual (defScope st) f cdv A outer s H E).nox (.new C z dx [] :: (startR N (.non :: ds)).tail) (defBody st) ρ' d) : FnOk P w K mg base (CXA P w) (k + 1) f fd ps (spIR K C Pr) := by
  refine F.okC S ?_ ?_
  · rintro vs H Q E ⟨S, z, dx, us, ds, fs, rfl, hz, dm, sz, r, p, kk⟩
    rw [List.length_cons, ← r.length]; exact len ds fs p
  · rintro cdv A outer s H vs Q E hr ⟨S', z, dx, us, ds, res, rfl, hz, dm, sz, r, p, k1, k2⟩
    have fm := start_fmI (C := C) (N := N) hz dm sz r
    cases res with
    | ok fs =>
      obtain ⟨ρ', h0, h⟩ := hb cdv A outer s H E ds fs z dx hr p
      refine ⟨_, PSs.nox h, _, _, S', fm, fun σ' H' S'' f => ?_⟩
      obtain ⟨v, _, gs, _, sz', hz', rf⟩ := f.ve.rel 0 _ h0
      refine k1 fs rfl H' gs (fun a o ha h => f.ext a o (fun z => z) (by rw [if_neg ha]; exact h)) hz' (rf.av fun a h => ?_)
      by_cases ha : a = z
      · subst ha; exact .inl sz'
      · exact .inl (f.sub a ⟨h, ha⟩)
    | xc d =>
      obtain ⟨ρ', h⟩ := hx cdv A outer s H E ds d z dx hr p
      refine ⟨_, pss_out h, _, _, S', fm, fun σ' a H' S'' f hn r => k2 d rfl a H' (fun b o hb h => f.ext b o (fun z => z) (by rw [if_neg hb]; exact h)) (fun hne => by rw [if_neg hne] at hn; exact hn) (f.out r)⟩
end
section
variable {X : Cx} {ρ : Rho} {k : Nat} {f C : Addr} {fd : FuncData} {ps : List Str} {x m : Str} {p pos apos : Pos} {e o : Expr} {es : List Expr} {ds : List D} {d : D}
/-- C(e, ..) raises -/
theorem dex_make {Pr : List D → ResI → Prop} (M : Mk X.K C f) (F : FnOk X.prog X.w X.K X.mg X.base (CXA X.prog X.w) k f fd ps (spIR X.K C Pr)) (hr : Room (k + 1) X.A) (hg : Gl X x) (hm : X.mg x = some (.ref C)) (hb : Binds X.K fd ps [])
    (ha : DA X ρ (e :: es) ds) (hp : Pr ds (.xc d)) (hx : ∀ e s, ¬ X.xe e s := by intro _ _ z; exact z) (hdb : (x == ("__debug__" : Str)) = false := by decide) (he : starEach (e :: es) X.env = (false, eval e X.env) :: starEach es X.env := by rfl) (hpl : (backTo pos (starEach es X.env)).any (·.1) = false := by rfl) :
    DEX X ρ (.Call (.Name x p) (e :: es) [] pos) d := fun pins R => PE.weak (pex_make M F hr hg hm hb (PA.xw ha hx) hdb he hpl) fun σ H Q ⟨S, ve, kk⟩ => ⟨S, ve, fun vs H1 ex r z dx hz hdx hne => by
      have e1 : Ext0 H1 (upd H1 dx (.own z)) := Ext.new hdx
      have hz1 : upd H1 dx (.own z) z = none := by rw [upd_ne (Ne.symm hne)]; exact hz
      have e2 : Ext0 H1 (upd (upd H1 dx (.own z)) z (.ins C dx [])) := e1.trans (Ext.new hz1)
      have dm := (ve.ext ex).dom
      refine ⟨S.and z, z, dx, vs, ds, .xc d, rfl, upd_same, fun a h => ?_, .inr rfl, (r.av (S' := S.and z) fun b h => h.imp_right fun q => by rw [q]; exact hz).ext (e2.to _), hp, (fun _ e => nomatch e), fun d' e a H' hk hn rd => ⟨a, rfl, ?_⟩⟩
      · rcases h with h | h
        · exact dm.ext e2 a h
        · rw [h, upd_same]; intro q; cases q
      · cases e
        have ez : a = z ∨ H1 a = none := by
          by_cases haz : a = z
          · exact .inl haz
          · refine .inr ?_
            have := hn haz
            rw [upd_ne haz] at this
            exact e1.back this
        have hH : H1 a = none := by
          rcases ez with h | h
          · rw [h]; exact hz
          · exact h
        refine kk a H' (ex.trans fun b o n h => hk b o (ne_of_none h hz) (e2 b o n h)) (ex.back hH) (rd.av fun b h => .inl ⟨.inl h, fun q => ?_⟩)
        subst q
        exact dm b h hz⟩
end
end CT
set_option Elab.async false
set_option linter.all false
set_option maxRecDepth 100000
set_option maxHeartbeats 400000
/-! RAISED EXCEPTIONS: raise, try -/
namespace CT
open PySem PySem.Spec PySem.W L2
open PyProof.Rows hiding St
section
variable {K : Frag} {C CE : Addr} {h : Heap} {M : Model}
theorem looks_isTypeC (X : K.In h) {cd : ClassData} (hc : clsIn K C = some cd) : Looks M h (isType (.ref C)) true := by
  unfold clsIn at hc
  split at hc
  · rename_i ho
    intro A' Q' E' s' k q
    unfold isType loadHead
    exact wpAny_bind (wpAny_loadPart (k _ _ (X _ _ ho)) (wpAny_pure q))
  · cases hc
theorem looks_isTypeE {a : Addr} {c : Value} {dd : Option Addr} {vs : Array Value} {sl : Array (Option Value)} (ho : h.get? a = some ⟨c, dd, .fields vs, sl⟩) : Looks M h (isType (.ref a)) false := by
  intro A' Q' E' s' k q
  unfold isType loadHead
  exact wpAny_bind (wpAny_loadPart (k _ _ ho) (wpAny_pure q))
end
section
variable {X : Cx} {pins pins' : List (Addr × Obj)} {R : St → Addr → Hp → Prop} {e : Expr} {t : TE} {pos : Pos}
/-- raise e -/
theorem ps_raise (he : PE (X.xw pins R) e t) (hh : X.A.handled = none) : PS (X.xw pins R) (.Raise (some e) none pos) (fun D σ H => t σ H fun x H1 => ∃ a C dx, x = .ref a ∧ H1 a = some (ExcIs true a C dx) ∧ XCls X.K C ∧ typeIn X.K (.ref C) = some (.type "type") ∧ R σ a (upd H1 a (ExcIs false a C dx))) := by
  intro pins' s σ H D I h
  rw [arm_exec_Raise]
  refine wpAny_bind (wpAny_standAt ?_)
  show wpAny _ _ (raiseStmt _ (some (do let v ← eval e X.env; standAt pos; pure v)) none) _ _ _
  unfold raiseStmt
  refine wpAny_bind (wpAny_bind (thn (he pins' s σ H _ I h) fun xv s1 ⟨x, H1, I1, rx, a, C, dx, ex, ha, c, ty, hR⟩ => wpAny_bind (wpAny_standAt (wpAny_pure ?_))))
  subst ex
  obtain rfl : xv = Value.ref a := rx
  obtain ⟨vs, ho, hz, hf⟩ := exc_at (I1.hok a _ ha)
  have h1 : vs[1]? = some .none := hf rfl
  have T0 : Looks (model X.prog X.w) s1.heap (isType (.ref a)) false := looks_isTypeE ho
  have T1 : Looks (model X.prog X.w) s1.heap (typeOf (.ref a)) (.ref C) := (Looks.ld ho).andThen .now
  have T2 : Looks (model X.prog X.w) s1.heap (isSubtype (.ref C) (.type "BaseException")) true := looks_mroIn I1.kIn (c.mro (by decide))
  have T3 : Looks (model X.prog X.w) s1.heap (typeOf (.ref C)) (.type "type") := looks_typeIn I1.kIn ty
  refine wpAny_bind (wpAny_pure (wpAny_bind (wpAny_holding ?_)))
  unfold excFromValue isExcClass
  refine wpAny_bind (wpAny_bind (T0.here (wpAny_pure ?_)))
  rw [if_neg (by decide)]
  unfold isInstance
  refine wpAny_bind (wpAny_bind (T1.here (T2.here ?_)))
  rw [if_pos rfl]
  refine wpAny_pure (wpAny_bind (T0.here ?_))
  rw [if_neg (by decide)]
  unfold raisedInstance
  refine wpAny_bind (wpAny_bind (T1.here (wpAny_bind (T3.here ?_))))
  rw [if_pos (show (Value.type "type" == Value.type "type") = true from by simp)]
  refine wpAny_pure ?_
  have tr : Trail (X.xw pins R) pins' H1 s1.heap a (fun _ => True) := ⟨_, vs, ho, rfl, .inl ⟨h1, trivial⟩⟩
  refine wpAny_bind (flight_ok I1 tr fun s2 I2 t2 => ?_)
  refine wpAny_raiseNew_none hh ?_
  obtain ⟨vs2, ho2, hz2, hf2⟩ := exc_at (I2.hok a _ ha)
  have I3 := I2.excAt (fr' := false) (t' := s2.toks) (h' := s2.heap) ha (fun b o _ q => q) ho2 hz2 (fun z => nomatch z)
  refine ⟨σ, a, _, C, dx, rfl, I3.xwp, upd_same, ⟨_, vs2, ho2, rfl, .inl ⟨hf2 rfl, trivial⟩⟩, hR⟩
end
section
variable {X : Cx} {ρ : Rho} {k : Nat} {f C : Addr} {fd : FuncData} {ps : List Str} {x : Str} {p pos cpos : Pos} {e : Expr} {es : List Expr} {ds : List D}
/-- raise C() -/
theorem dsx_raise0 (hm : PySem.W.excIn X.K C bmV "ValueError.__new__" = true) (hk : PySem.W.keepIn X.K (.ref C) = true) (hg : Gl X x) (hx : X.mg x = some (.ref C)) (hc : XCls X.K C) (ty : typeIn X.K (.ref C) = some (.type "type")) (hh : X.A.handled = none)
    (hdb : (x == ("__debug__" : Str)) = false := by decide) : DSX X ρ (.Raise (some (.Call (.Name x p) [] [] cpos)) none pos) ρ (.exc C []) := fun pins R =>
  PS.weak (ps_raise (pe_x0 (X := X.xw pins R) hm hk hg hx hdb) hh) fun E σ H ⟨H₀, S₀, S, f, kk⟩ a ha => ⟨a, C, none, rfl, upd_same, hc, ty, by
    rw [upd_upd]
    exact kk σ a _ S (f.grow (Ext.new ha)) (f.ext.back ha) (.exc0 upd_same (f.ve.dom.not ha))⟩
end
/-! ### try -/
/-- within a handler -/
abbrev _root_.L2.Cx.inH (X : Cx) (a : Addr) : Cx := { X with A := X.A.mark (some (.ref a)), calm := false }
theorem _root_.L2.Inv.inH {X : Cx} {pins : List (Addr × Obj)} {σ : St} {H : Hp} {s : Shared} {a : Addr} (I : Inv X pins σ H s) : Inv (X.inH a) pins σ H s :=
  ⟨⟨I.ok.mod, I.ok.kind, I.ok.glob, I.ok.blt, I.ok.above, I.ok.inj, I.ok.has, I.ok.cab, (fun z => nomatch z), I.ok.frames, I.ok.stk, I.ok.exf, I.ok.bs, I.ok.bsz, I.ok.noex, I.ok.exfs, I.ok.funs, I.ok.frf⟩, I.os, I.bare, I.base, I.loc, I.cell, I.free, I.freeC, I.pin, I.hok, I.len⟩
theorem _root_.L2.Inv.unH {X : Cx} {pins : List (Addr × Obj)} {σ : St} {H : Hp} {s : Shared} {a : Addr} (ok : X.Ok) (I : Inv (X.inH a) pins σ H s) : Inv X pins σ H s := ⟨ok, I.os, I.bare, I.base, I.loc, I.cell, I.free, I.freeC, I.pin, I.hok, I.len⟩
section
variable {X : Cx} {pins : List (Addr × Obj)} {σ : St} {H : Hp} {s : Shared} {a C CE : Addr} {dx : Option Addr} {A : Around} {E : Value → Shared → Prop}
/-- what the caught class must have -/
structure XTop (K : Frag) (CE : Addr) : Prop where
  cl : ∃ cd, clsIn K CE = some cd
  ty : typeIn K (.ref CE) = some (.type "type")
  be : mroIn K CE (.type "BaseException") = some true
theorem matches_ok {b fr : Bool} {Q : Bool → Shared → Prop} (I : Inv X pins σ H s) (ha : H a = some (ExcIs fr a C dx)) (c : XTop X.K CE) (hm : mroIn X.K C (.ref CE) = some b) (h : Q b s) : wpAny (model X.prog X.w) A (excMatches (.ref a) (.ref CE)) Q E s := by
  obtain ⟨vs, ho, hz, hf⟩ := exc_at (I.hok a _ ha)
  obtain ⟨cd, hcd⟩ := c.cl
  have T1 : Looks (model X.prog X.w) s.heap (typeOf (.ref a)) (.ref C) := (Looks.ld ho).andThen .now
  have T2 : Looks (model X.prog X.w) s.heap (isSubtype (.ref CE) (.type "BaseException")) true := looks_mroIn I.kIn c.be
  have T3 : Looks (model X.prog X.w) s.heap (typeOf (.ref CE)) (.type "type") := looks_typeIn I.kIn c.ty
  have T4 : Looks (model X.prog X.w) s.heap (isType (.ref CE)) true := looks_isTypeC I.kIn hcd
  have T5 : Looks (model X.prog X.w) s.heap (isSubtype (.ref C) (.ref CE)) b := looks_mroIn I.kIn hm
  have T6 : Looks (model X.prog X.w) s.heap (isSubtype (.type "type") (.type "tuple")) false := by rw [tc_notTuple]; exact .now
  obtain ⟨hp, g, d, tk, os⟩ := s
  unfold excMatches isInstance isExcClass
  cases b with
  | true => repeat (first | exact h | lk)
  | false => repeat (first | exact h | lk)
/-- a local name is forgotten -/
theorem _root_.L2.Inv.unset {i : Nat} {n : Str} {h' : Heap} {t' : Nat} (I : Inv X pins σ H s) (hN : X.N.Nodup) (hi : X.N[i]? = some n) (hs : Heap.SameBut X.env.locals s.heap h') (hn : ∀ m, s.heap.Ns X.env.locals m → ∃ v, h'.Ns X.env.locals (fun x => if x = n then v else m x)) :
    Inv X pins (σ.set i none) H { s with heap := h', toks := t' } := by
  obtain ⟨m, hm, hl⟩ := id I.loc
  obtain ⟨v, hn'⟩ := hn m hm
  obtain ⟨oL, _, _, hoL, _⟩ := id hm
  have hiσ : i < σ.length := by rw [I.len]; exact (List.getElem?_eq_some_iff.mp hi).1
  have cne := I.cne
  refine ⟨I.ok, I.os, I.bare, ⟨fun b o e n hb hx => ?_, fun b o e n hb hx => ?_, I.base.free, fun b o e hx => ?_, I.base.tups, I.base.frzs, I.base.tbls⟩, ⟨_, hn', fun j y v' e1 e2 e3 => ?_⟩, fun y c e => ?_, I.free, I.freeC, fun p hp => ?_, fun b ob e => ?_, by simpa using I.len⟩
  · exact (hs.2 b (Nat.ne_of_lt (Nat.lt_of_lt_of_le (Heap.lt_size e) I.ok.above))).trans (I.base.keep b o e n hb hx)
  · obtain ⟨sl, e1⟩ := I.base.slot b o e n hb hx
    exact ⟨sl, (hs.2 b (Nat.ne_of_lt (Nat.lt_of_lt_of_le (Heap.lt_size e) I.ok.above))).trans e1⟩
  · obtain ⟨o', e1⟩ := I.base.there b o e hx
    exact ⟨o', (hs.2 b (Nat.ne_of_lt (Nat.lt_of_lt_of_le (Heap.lt_size e) I.ok.above))).trans e1⟩
  · by_cases hj : j = i
    · subst hj
      rw [List.getElem?_set_self hiσ] at e2
      cases e2
    · rw [List.getElem?_set_ne (Ne.symm hj)] at e2
      obtain ⟨u', r', q⟩ := hl j y v' e1 e2 e3
      refine ⟨u', r', ?_⟩
      rcases q with ⟨k, e⟩ | ⟨k, c, e, z⟩
      · refine .inl ⟨k, ?_⟩
        have : y ≠ n := fun e => hj (nodup_ix hN e1 (e ▸ hi))
        simp [this, e]
      · exact .inr ⟨k, c, e, z.sameBut hs (cne y c e)⟩
  · obtain ⟨w', z⟩ := I.cell y c e
    exact ⟨w', z.sameBut hs (cne y c e)⟩
  · obtain ⟨e, n, ne, nf, d⟩ := I.pin p hp
    exact ⟨(hs.2 p.1 ne).trans e, n, ne, nf, d⟩
  · refine (I.hok b ob e).stay (fun c w' hc q => (hs.2 c ?_).trans q) (fun _ q => q) fun _ _ q => q
    rintro rfl
    rcases hc with rfl | hc
    · rw [I.free] at e; cases e
    · rw [I.free] at hc; cases hc
theorem name_goes {M : Model} {i : Nat} {n : Str} {pos : Pos} {Q : Unit → Shared → Prop} (I : Inv X pins σ H s) (hN : X.N.Nodup) (hi : X.N[i]? = some n) (hl : X.env.scope.names.lookup n = some .local) (h : ∀ s', Inv X pins (σ.set i none) H s' → Q () s') :
    wpAny M A (do bindName X.env n .none; unbindBehindTheSuite X.env n pos) Q E s := by
  have hcls : (X.env.scope.kind == .class || (X.env.scope.kind == .module && X.env.locals != X.env.globals)) = false := by rw [I.ok.kind]; rfl
  have hk : X.env.kindOf n = some .local := hl
  refine wpAny_bind (wpAny_bindName (store_ok I hN hi (.inl hl) (v := .non) rfl (fun s1 I1 => ?_) (.inr hl)))
  unfold unbindBehindTheSuite
  refine wpAny_onRaise ?_
  unfold unbindName
  refine wpAny_bind (wpAny_point (wpAny_bind ?_))
  unfold deleteName
  simp only [hk, hcls]
  rw [if_neg (by decide)]
  obtain ⟨m, hm, hlk⟩ := id I1.loc
  have hiσ : i < σ.length := by rw [I.len]; exact (List.getElem?_eq_some_iff.mp hi).1
  obtain ⟨u, ru, q⟩ := hlk i n .non hi (List.getElem?_set_self hiσ) (.inl hl)
  have hmn : (m n).isSome = true := by
    rcases q with ⟨_, e⟩ | ⟨z, _⟩
    · rw [e]; rfl
    · rw [hk] at z; rcases z with z | z <;> cases z
  refine wpAny_bind (wpAny_nsDel_keeps hm fun h₂ v hn₂ hs₂ => ?_)
  rw [hmn]
  simp only [Bool.not_true, Bool.false_eq_true, if_false]
  refine wpAny_pure (wpAny_point (h _ ?_))
  have := Inv.unset (t' := s1.toks) I1 hN hi hs₂ fun m' hm' => ⟨v, by rw [Heap.Ns.eq_nsMap hm', ← Heap.Ns.eq_nsMap hm]; exact hn₂⟩
  rw [List.set_set] at this
  exact this
end
/-- a slot forgotten -/
def Out.unset (i : Nat) : Out → Out
  | .nx ρ => .nx (ρ.set i .nil)
  | o => o
section
variable {X : Cx} {ρ ρ1 ρ2 : Rho} {body suite : List Stmt} {b₀ : Stmt} {C CE : Addr} {fs : List (Str × D)} {c n : Str} {i : Nat} {cp hp pos : Pos} {o : Out} {hs : List ExceptHandler} {hd : ExceptHandler}
theorem upd_same_eq {H : Hp} {a : Addr} {o : HO} (h : H a = some o) : upd H a o = H := by
  funext b; unfold upd; split
  · rename_i z; rw [z, h]
  · rfl
theorem Fm.unset {K : Frag} {H₀ H : Hp} {S₀ S : Ad} {ρ : Rho} {σ : St} {i : Nat} (f : Fm K H₀ S₀ H S ρ σ) : Fm K H₀ S₀ H S (ρ.set i .nil) (σ.set i none) := by
  have key : ∀ (j : Nat) (x : Sl), (ρ.set i .nil)[j]? = some x → (i = j ∧ x = .nil) ∨ (i ≠ j ∧ ρ[j]? = some x) := fun j x h => by
    by_cases hj : i = j
    · subst hj
      have hi := (List.getElem?_eq_some_iff.mp h).1
      rw [List.getElem?_set_self (by simpa using hi)] at h
      cases h; exact .inl ⟨rfl, rfl⟩
    · rw [List.getElem?_set_ne hj] at h; exact .inr ⟨hj, h⟩
  refine ⟨⟨by simpa using f.ve.len, fun j x h => ?_, fun j k x y a hjk h1 h2 o1 o2 h3 => ?_, f.ve.dom⟩, f.ext, f.sub, f.new, f.dm, fun j x a h o h2 => ?_⟩
  · rcases key j x h with ⟨rfl, rfl⟩ | ⟨hj, h'⟩
    · have hi : i < ρ.length := by have := (List.getElem?_eq_some_iff.mp h).1; simpa using this
      exact ⟨none, List.getElem?_set_self (f.ve.len ▸ hi), rfl⟩
    · rw [List.getElem?_set_ne hj]
      exact f.ve.rel j x h'
  · rcases key j x h1 with ⟨rfl, rfl⟩ | ⟨hj, h1'⟩
    · exact o1.elim
    · rcases key k y h2 with ⟨rfl, rfl⟩ | ⟨hk, h2'⟩
      · exact o2.elim
      · rw [List.getElem?_set_ne hj] at h3
        rw [List.getElem?_set_ne hk]
        exact f.ve.dist j k x y a hjk h1' h2' o1 o2 h3
  · rcases key j x h with ⟨rfl, rfl⟩ | ⟨hj, h'⟩
    · exact o.elim
    · rw [List.getElem?_set_ne hj] at h2
      exact f.own j x a h' o h2
/-- try: .. except CE as n: .. -/
theorem ds_tryAs (hst : X.stack = X.env :: X.outer) (hfr : X.env.frame = some X.env.locals) (hb : DSXs X ρ body ρ1 (.exc C fs)) (hg : Gl X c) (hm : X.mg c = some (.ref CE)) (ct : XTop X.K CE) (hmr : mroIn X.K C (.ref CE) = some true)
    (hN : X.N.Nodup) (hi : X.N[i]? = some n) (hl : X.env.scope.names.lookup n = some .local) (hs : ∀ a, DSs (X.inH a) (ρ1.set i (.val (.exc C fs))) (b₀ :: suite) o) (hx : ∀ e s, ¬ X.xe e s := by intro _ _ z; exact z) (hdb : (c == ("__debug__" : Str)) = false := by decide) :
    DS X ρ (.Try body [.ExceptHandler (some (.Name c cp)) (some n) (b₀ :: suite) hp] [] [] pos) (o.unset i) := by
  intro pins s σ H D I ⟨H₀, S₀, S, f, kk⟩
  refine wpAny_Try_except (wpAny_mono (hb pins (fun σ' a H' => ∃ S', Fm X.K H₀ S₀ H' S' ρ1 σ' ∧ Rds X.K H' S' (.exc C fs) (.ref a)) [] s σ H ⟨fun _ _ => False, fun _ _ => False, fun _ _ => False, fun _ _ => False⟩ I.xw ⟨H₀, S₀, S, f, fun σ' a H' S' f' hn r => ⟨S', f', r⟩⟩)
    (fun fl s' z => ?_) fun e s' z => ?_)
  · cases fl with
    | next => obtain ⟨_, _, _, z⟩ := z; exact z.elim
    | brk => obtain ⟨_, _, _, z⟩ := z; exact z.elim
    | cont => obtain ⟨_, _, _, z⟩ := z; exact z.elim
    | ret u => obtain ⟨_, _, _, _, _, z⟩ := z; exact z.elim
  · obtain ⟨σ', a, H', C', dx, rfl, I', ha, tr, S', f', r⟩ := z
    have J : Inv X pins σ' H' s' := I'.pxw
    have eH := upd_same_eq ha
    obtain ⟨fr, dx', hr⟩ : ∃ fr dx', H' a = some (ExcIs fr a C dx') := by
      cases r with
      | exc0 h _ => exact ⟨_, _, h⟩
      | exc h _ _ _ _ => exact ⟨_, _, h⟩
    refine note_ok J J.ok.frames hst hfr ha (tr.re rfl rfl fun p hp => by simpa using hp) fun s1 I1 t1 => ?_
    rw [eH] at I1 t1
    refine flight_ok I1 t1 fun s2 I2 t2 => ?_
    refine wpAny_handleBy_cons (codeAny_handlers_test (ld_glob (X := X.inH a) I2.inH hg hm (matches_ok I2 hr ct hmr ?_) hdb)) (by intro q; cases q)
    refine codeAny_handlers_suite_as (flight_ok I2 t2 fun s3 I3 t3 => ?_)
    refine store_ok I3 hN hi (.inl hl) (v := .ref a) rfl (fun s4 I4 => ?_) (.inr hl)
    have kk' : OutK X.K H₀ S₀ ⟨fun σ H => D.nx (σ.set i none) H, D.rt, fun σ H => D.bk (σ.set i none) H, fun σ H => D.ct (σ.set i none) H⟩ o := by
      cases o with
      | nx ρ2 => exact fun σ5 H5 S5 f5 => kk _ H5 S5 f5.unset
      | rt d => exact kk
      | rf xs => exact kk
    refine wpAny_mono (hs a pins s4 _ H' ⟨fun σ H => D.nx (σ.set i none) H, D.rt, fun σ H => D.bk (σ.set i none) H, fun σ H => D.ct (σ.set i none) H⟩ I4.inH ⟨H₀, S₀, S', f'.set r, kk'⟩) (fun fl s5 z => ?_) fun e s5 z => absurd z (hx e s5)
    cases fl with
    | next =>
      obtain ⟨σ5, H5, I5, q⟩ := z
      exact name_goes (I5.unH J.ok) hN hi hl fun s6 I6 => ⟨_, H5, I6, q⟩
    | brk =>
      obtain ⟨σ5, H5, I5, q⟩ := z
      exact name_goes (I5.unH J.ok) hN hi hl fun s6 I6 => ⟨_, H5, I6, q⟩
    | cont =>
      obtain ⟨σ5, H5, I5, q⟩ := z
      exact name_goes (I5.unH J.ok) hN hi hl fun s6 I6 => ⟨_, H5, I6, q⟩
    | ret u =>
      obtain ⟨v, σ5, H5, I5, rv, q⟩ := z
      exact name_goes (I5.unH J.ok) hN hi hl fun s6 I6 => ⟨v, _, H5, I6, rv, q⟩
end
end CT
set_option Elab.async false
set_option linter.all false
set_option maxRecDepth 100000
/-! THE HAND LAYER, for ints, bools, texts, own classes, DICTS (int and text keys), calls, loops. Paste it whole ahead of your own text; what your proof does not reach may be deleted. -/
namespace L2
open PySem PySem.Spec PyProof.Rows
/-! ### lists of pairs as tables -/
section
variable {κ : Type} [DecidableEq κ]
def valV (kvs : List (κ × V)) (k : κ) : Option V := (kvs.find? fun kv => decide (kv.1 = k)).map (·.2)
/-- in its place, or at the end -/
def putK (kvs : List (κ × V)) (k : κ) (v : V) : List (κ × V) :=
  if (kvs.any fun kv => decide (kv.1 = k)) = true then kvs.map (fun kv => if kv.1 = k then (kv.1, v) else kv) else kvs ++ [(k, v)]
def dropK (kvs : List (κ × V)) (k : κ) : List (κ × V) := kvs.filter fun kv => decide (kv.1 ≠ k)
theorem valV_pos {p : κ × V} {r : List (κ × V)} {k : κ} (e : p.1 = k) : valV (p :: r) k = some p.2 := by simp [valV, List.find?_cons, e]
theorem valV_neg {p : κ × V} {r : List (κ × V)} {k : κ} (e : ¬ p.1 = k) : valV (p :: r) k = valV r k := by simp [valV, List.find?_cons, e]
theorem valV_any (k : κ) : ∀ kvs : List (κ × V), (kvs.any fun kv => decide (kv.1 = k)) = (valV kvs k).isSome
  | [] => rfl
  | p :: r => by
    rw [List.any_cons]
    by_cases e : p.1 = k
    · simp only [valV_pos e, decide_eq_true e, Bool.true_or, Option.isSome_some]
    · rw [valV_neg e, decide_eq_false e, Bool.false_or]; exact valV_any k r
theorem length_putK (kvs : List (κ × V)) (k : κ) (v : V) : (putK kvs k v).length ≤ kvs.length + 1 := by
  unfold putK
  split
  · rw [List.length_map]; omega
  · rw [List.length_append, List.length_cons, List.length_nil]; omega
theorem RelO.isSome_eq {o : Option V} {u : Option Value} (r : RelO o u) : o.isSome = u.isSome := by
  cases o with
  | none => cases u with
    | none => rfl
    | some _ => exact (show False from r).elim
  | some _ => cases u with
    | none => exact (show False from r).elim
    | some _ => rfl
theorem RelO.getD {o : Option V} {u : Option Value} {d : V} {d' : Value} (r : RelO o u) (rd : RelV d d') : RelV (o.getD d) (u.getD d') := by
  cases o with
  | none => cases u with
    | none => exact rd
    | some _ => exact (show False from r).elim
  | some _ => cases u with
    | none => exact (show False from r).elim
    | some _ => exact r
/-- raw tables of the same keys -/
theorem KV.val {kvs : List (κ × V)} {vs : List (κ × Value)} (r : KV kvs vs) (k : κ) : RelO (valV kvs k) (valueAt vs k) := by
  unfold KV at r
  induction r with
  | nil => exact True.intro
  | @cons p q ps qs h t ih =>
    obtain ⟨h1, h2⟩ := h
    by_cases e : p.1 = k
    · have e' : q.1 = k := h1.symm.trans e
      have b : valueAt (q :: qs) k = some q.2 := by simp [valueAt, List.find?_cons, e']
      rw [valV_pos e, b]; exact h2
    · have e' : ¬ q.1 = k := fun z => e (h1.trans z)
      have b : valueAt (q :: qs) k = valueAt qs k := by simp [valueAt, List.find?_cons, e']
      rw [valV_neg e, b]; exact ih
theorem KV.any {kvs : List (κ × V)} {vs : List (κ × Value)} (r : KV kvs vs) (k : κ) : (kvs.any fun kv => decide (kv.1 = k)) = vs.any fun kv => decide (kv.1 = k) := by
  unfold KV at r
  induction r with
  | nil => rfl
  | cons h t ih => rw [List.any_cons, List.any_cons, ih, h.1]
theorem KV.repl {kvs : List (κ × V)} {vs : List (κ × Value)} (r : KV kvs vs) (k : κ) {y : V} {u : Value} (ry : RelV y u) :
    KV (kvs.map fun kv => if kv.1 = k then (kv.1, y) else kv) (vs.map fun kv => if kv.1 = k then (kv.1, u) else kv) := by
  unfold KV at r ⊢
  induction r with
  | nil => exact .nil
  | @cons p q ps qs h t ih =>
    rw [List.map_cons, List.map_cons]
    refine .cons ?_ ih
    obtain ⟨h1, h2⟩ := h
    by_cases e : p.1 = k
    · rw [if_pos e, if_pos (h1.symm.trans e)]; exact ⟨h1, ry⟩
    · rw [if_neg e, if_neg (fun z => e (h1.trans z))]; exact ⟨h1, h2⟩
theorem KV.put {kvs : List (κ × V)} {vs : List (κ × Value)} (r : KV kvs vs) (k : κ) {y : V} {u : Value} (ry : RelV y u) : KV (putK kvs k y) (stored vs k u) := by
  unfold putK stored
  rw [r.any k]
  by_cases e : (vs.any fun kv => decide (kv.1 = k)) = true
  · rw [if_pos e, if_pos e]; exact r.repl k ry
  · rw [if_neg e, if_neg e]; exact Paired.snoc r ⟨rfl, ry⟩
theorem KV.drop {kvs : List (κ × V)} {vs : List (κ × Value)} (r : KV kvs vs) (k : κ) : KV (dropK kvs k) (without vs k) := by
  unfold KV at r ⊢
  unfold dropK without
  induction r with
  | nil => exact .nil
  | @cons p q ps qs h t ih =>
    obtain ⟨h1, h2⟩ := h
    rw [List.filter_cons, List.filter_cons]
    by_cases e : p.1 = k
    · have a : ¬ decide (p.1 ≠ k) = true := by simp [e]
      have b : ¬ decide (q.1 ≠ k) = true := by simp [h1.symm.trans e]
      rw [if_neg a, if_neg b]; exact ih
    · have e' : ¬ q.1 = k := fun z => e (h1.trans z)
      have a : decide (p.1 ≠ k) = true := by simp [e]
      have b : decide (q.1 ≠ k) = true := by simp [e']
      rw [if_pos a, if_pos b]; exact .cons ⟨h1, h2⟩ ih
theorem KV.keys {kvs : List (κ × V)} {vs : List (κ × Value)} (r : KV kvs vs) : kvs.map (·.1) = vs.map (·.1) := by
  unfold KV at r
  induction r with
  | nil => rfl
  | cons h t ih => rw [List.map_cons, List.map_cons, ih, h.1]
theorem KV.length {kvs : List (κ × V)} {vs : List (κ × Value)} (r : KV kvs vs) : kvs.length = vs.length := Paired.length r
end
/-! ### a tracked dict, its keys ints and texts or tuples of these -/
theorem kV_is {P : Program} {w : World} {k : Key} {u : Value} (r : RelV (kV k) u) : (mixKind P w).is k u = true := by
  cases k with
  | inl i => obtain ⟨t, e⟩ := (show ∃ t, u = Value.int i t from r); subst e; exact mixKind_int P w i t
  | inr x => obtain ⟨t, e⟩ := (show ∃ t, u = Value.str x t from r); subst e; exact mixKind_str P w x t
/-- raw entries of a dict with tuple keys -/
abbrev KT (H : Hp) : List (List Key × V) → List (List Key × Addr × Value) → Prop := Paired fun p q => p.1 = q.1 ∧ H q.2.1 = some (.tup (p.1.map kV)) ∧ RelV p.2 q.2.2
theorem KT.val {H : Hp} {kvs : List (List Key × V)} {xs : List (List Key × Addr × Value)} (r : KT H kvs xs) (k : List Key) : RelO (valV kvs k) ((atKey xs k).map (·.2)) := by
  induction r with
  | nil => exact True.intro
  | @cons p q ps qs h t ih =>
    obtain ⟨h1, _, h2⟩ := h
    by_cases e : p.1 = k
    · have e' : q.1 = k := h1.symm.trans e
      have b : atKey (q :: qs) k = some q.2 := by simp [atKey, List.find?_cons, e']
      rw [valV_pos e, b]; exact h2
    · have e' : ¬ q.1 = k := fun z => e (h1.trans z)
      have b : atKey (q :: qs) k = atKey qs k := by simp [atKey, List.find?_cons, e']
      rw [valV_neg e, b]; exact ih
theorem KT.repl {H : Hp} {kvs : List (List Key × V)} {xs : List (List Key × Addr × Value)} (r : KT H kvs xs) (k : List Key) {y : V} {u : Value} (ry : RelV y u) :
    KT H (kvs.map fun kv => if kv.1 = k then (kv.1, y) else kv) (xs.map (putAt k u)) := by
  induction r with
  | nil => exact .nil
  | @cons p q ps qs h t ih =>
    rw [List.map_cons, List.map_cons]
    refine .cons ?_ ih
    obtain ⟨h1, h2, h3⟩ := h
    unfold putAt
    by_cases e : p.1 = k
    · rw [if_pos e, if_pos (h1.symm.trans e)]; exact ⟨h1, h2, ry⟩
    · rw [if_neg e, if_neg (fun z => e (h1.trans z))]; exact ⟨h1, h2, h3⟩
theorem KT.put {H : Hp} {kvs : List (List Key × V)} {xs : List (List Key × Addr × Value)} (r : KT H kvs xs) (k : List Key) {b : Addr} {y : V} {u : Value} (hb : H b = some (.tup (k.map kV))) (ry : RelV y u) :
    KT H (putK kvs k y) (storedH xs k b u) := by
  have e : (kvs.any fun kv => decide (kv.1 = k)) = (atKey xs k).isSome := by
    rw [valV_any, (r.val k).isSome_eq, Option.isSome_map]
  unfold putK storedH
  rw [e]
  by_cases q : (atKey xs k).isSome = true
  · rw [if_pos q, if_pos q]; exact r.repl k ry
  · rw [if_neg q, if_neg q]; exact Paired.snoc r ⟨rfl, hb, ry⟩
theorem KT.keeps {H H' : Hp} {kvs : List (List Key × V)} {xs : List (List Key × Addr × Value)} (r : KT H kvs xs) (ht : ∀ b ys, H b = some (.tup ys) → H' b = some (.tup ys)) : KT H' kvs xs :=
  Paired.mapP r fun _ _ z => ⟨z.1, ht _ _ z.2.1, z.2.2⟩
section
variable {P : Program} {w : World} {H : Hp} {h : Heap} {a : Addr}
theorem rd_of {u : HO} (ok : HOk P w H h) (e : Rd H a u) : ObjOk P w H h a u := e.ok ok
theorem dk_rd {kvs : List (Key × V)} (ok : HOk P w H h) (e : Rd H a (.dK kvs)) : kvs.length ≤ sizeLine ∧ (a == sysModules) = false ∧ ∃ vs, KV kvs vs ∧ h.DictOf (mixKind P w) a vs :=
  show ObjOk P w H h a (.dK kvs) from rd_of ok e
theorem dk_of {kvs : List (Key × V)} (ok : HOk P w H h) (e : H a = some (.dK kvs)) : kvs.length ≤ sizeLine ∧ (a == sysModules) = false ∧ ∃ vs, KV kvs vs ∧ h.DictOf (mixKind P w) a vs := dk_rd ok (.inl e)
end
/-- what the dict at a holds at the key y -/
def DGet (H : Hp) (a : Addr) (y : V) (r : Option V) : Prop :=
  (∃ kvs k, Rd H a (.dK kvs) ∧ y = kV k ∧ r = valV kvs k) ∨ ∃ kvs k b, Rd H a (.dT kvs) ∧ y = .ref b ∧ H b = some (.tup (k.map kV)) ∧ r = valV kvs k
/-- the heap behind a[y] = v -/
def DPut (H : Hp) (a : Addr) (y v : V) (H' : Hp) : Prop :=
  (∃ kvs k, H a = some (.dK kvs) ∧ y = kV k ∧ kvs.length < sizeLine ∧ H' = upd H a (.dK (putK kvs k v))) ∨
  ∃ kvs k b, H a = some (.dT kvs) ∧ y = .ref b ∧ H b = some (.tup (k.map kV)) ∧ kvs.length < sizeLine ∧ H' = upd H a (.dT (putK kvs k v))
theorem DGet.k {H : Hp} {a : Addr} {kvs : List (Key × V)} {k : Key} (e : H a = some (.dK kvs)) : DGet H a (kV k) (valV kvs k) := .inl ⟨kvs, k, .inl e, rfl, rfl⟩
theorem DGet.t {H : Hp} {a b : Addr} {kvs : List (List Key × V)} {k : List Key} (e : H a = some (.dT kvs)) (eb : H b = some (.tup (k.map kV))) : DGet H a (.ref b) (valV kvs k) := .inr ⟨kvs, k, b, .inl e, rfl, eb, rfl⟩
theorem DPut.k {H : Hp} {a : Addr} {kvs : List (Key × V)} {k : Key} {v : V} (e : H a = some (.dK kvs)) (hl : kvs.length < sizeLine) : DPut H a (kV k) v (upd H a (.dK (putK kvs k v))) := .inl ⟨kvs, k, e, rfl, hl, rfl⟩
theorem DPut.t {H : Hp} {a b : Addr} {kvs : List (List Key × V)} {k : List Key} {v : V} (e : H a = some (.dT kvs)) (eb : H b = some (.tup (k.map kV))) (hl : kvs.length < sizeLine) :
    DPut H a (.ref b) v (upd H a (.dT (putK kvs k v))) := .inr ⟨kvs, k, b, e, rfl, eb, hl, rfl⟩
section
variable {X : Cx} {pins : List (Addr × Obj)} {σ : St} {H : Hp} {s : Shared} {a : Addr} {y v : V} {u r : Value} {o : Option V} {A : Around} {E : Value → Shared → Prop}
theorem Inv.big (I : Inv X pins σ H s) : sysModules < s.heap.objs.size := by
  have h : mainGlobals < s.heap.objs.size := (I.mod.glob.keeps I.bk).lt
  exact Nat.lt_trans (by decide) h
/-- a dict's object is replaced -/
theorem d_write {h' : Heap} {t' : Nat} {ob : HO} (I : Inv X pins σ H s) (mu : Mut (H a)) (hs : Heap.SameBut a s.heap h') (he : ∃ q, h'.get? a = some q) (new : ObjOk X.prog X.w (upd H a ob) h' a ob) :
    Inv X pins σ (upd H a ob) { s with heap := h', toks := t' } :=
  I.write (x := a) (e := a) mu (.inl rfl) (fun b q hb z => (hs.2 b hb).trans z) he new
theorem dk_new {P : Program} {w : World} {H' : Hp} {h' : Heap} {kvs : List (Key × V)} {vs : List (Key × Value)} (z : kvs.length ≤ sizeLine) (hd : (a == sysModules) = false) (rel : KV kvs vs) (dd : h'.DictOf (mixKind P w) a vs) :
    ObjOk P w H' h' a (.dK kvs) := ⟨z, hd, vs, rel, dd⟩
end
/-! ### displays -/
theorem dk_empty {P : Program} {w : World} {H : Hp} (h : Heap) (hb : sysModules < h.objs.size) : ObjOk P w H (h.push { cls := .type "dict", data := .dict #[] }) h.objs.size (.dK []) :=
  ⟨Nat.zero_le _, beq_eq_false_iff_ne.mpr (Ne.symm (Nat.ne_of_lt hb)), [], .nil, Heap.DictOf.new h⟩
/-- {}, to be a dict of the kind that is wanted -/
def tDNewK : TE := fun _ H Q => ∀ p, H p = none → Q (.ref p) (upd H p (.dK []))
section
variable {X : Cx} {pos : Pos}
theorem pe_dnewK : PE X (.Dict [] [] pos) tDNewK := fun pins s σ H Q I h =>
  wpAny_Dict_empty ⟨.ref s.heap.objs.size, _, I.laid (a := s.heap.objs.size) (o := .dK []) (t' := s.toks) (fun _ _ q => Heap.get?_push_of_some _ q) (Nat.le_refl _) (dk_empty s.heap I.big), rfl, h _ (I.hok.fresh (Nat.le_refl _))⟩
end
/-- the pairs of a display, from the left -/
def tPairs : List (TE × TE) → St → Hp → (List (V × V) → Hp → Prop) → Prop
  | [], _, H, Q => Q [] H
  | (tk, tv) :: r, σ, H, Q => tk σ H fun x H1 => tv σ H1 fun y H2 => tPairs r σ H2 fun ps H3 => Q ((x, y) :: ps) H3
abbrev VV : List (V × V) → List (Value × Value) → Prop := Paired fun p q => RelV p.1 q.1 ∧ RelV p.2 q.2
def PPs (X : Cx) (pos : Pos) (keys : List (Option Expr)) (values : List Expr) (trs : List (TE × TE)) : Prop :=
  ∀ (pins : List (Addr × Obj)) (s : Shared) (σ : St) (H : Hp) (Q : List (V × V) → Hp → Prop), Inv X pins σ H s → tPairs trs σ H Q →
    wpAny (model X.prog X.w) X.A (evalPairs (pairTrees keys values X.env pos)) (fun vs s' => ∃ ps H', Inv X pins σ H' s' ∧ VV ps vs ∧ Q ps H') X.xe s
theorem pps_nil {X : Cx} {pos : Pos} : PPs X pos [] [] [] := fun pins s σ H Q I h => pairTrees_nil_walk ⟨[], H, I, .nil, h⟩
theorem pps_cons {X : Cx} {pos : Pos} {k v : Expr} {ks : List (Option Expr)} {vs : List Expr} {tk tv : TE} {trs : List (TE × TE)} (hk : PE X k tk) (hv : PE X v tv) (hr : PPs X pos ks vs trs) :
    PPs X pos (some k :: ks) (v :: vs) ((tk, tv) :: trs) := fun pins s σ H Q I h =>
  pairTrees_cons_walk (thn (hk pins s σ H _ I h) fun u s1 ⟨x, H1, I1, rx, q1⟩ => thn (hv pins s1 σ H1 _ I1 q1) fun w2 s2 ⟨y, H2, I2, ry, q2⟩ =>
    thn (hr pins s2 σ H2 _ I2 q2) fun ws s3 ⟨ps, H3, I3, rel, q3⟩ => ⟨(x, y) :: ps, H3, I3, .cons ⟨rx, ry⟩ rel, q3⟩)
def mergeK (kvs more : List (Key × V)) : List (Key × V) := more.foldl (fun acc kv => putK acc kv.1 kv.2) kvs
theorem KV.merge : ∀ {more : List (Key × V)} {rs : List (Key × Value)} {kvs : List (Key × V)} {vs : List (Key × Value)}, KV more rs → KV kvs vs → KV (mergeK kvs more) (merged vs rs) := by
  intro more rs kvs vs r
  unfold KV at r
  induction r generalizing kvs vs with
  | nil => intro q; exact q
  | @cons p q ps qs h t ih =>
    intro r0
    have e : KV (putK kvs p.1 p.2) (stored vs q.1 q.2) := by
      have := r0.put p.1 h.2
      rw [← h.1]; exact this
    exact ih e
theorem length_mergeK : ∀ (more kvs : List (Key × V)), (mergeK kvs more).length ≤ kvs.length + more.length
  | [], kvs => by show kvs.length ≤ kvs.length + 0; omega
  | p :: r, kvs => by
    have h1 := length_mergeK r (putK kvs p.1 p.2)
    have h2 := length_putK kvs p.1 p.2
    show (mergeK (putK kvs p.1 p.2) r).length ≤ _
    rw [List.length_cons]; omega
theorem carries_of {P : Program} {w : World} : ∀ {kvs : List (Key × V)} {ws : List (Value × Value)}, VV (kvs.map fun kv => (kV kv.1, kv.2)) ws → ∃ rs, Carries (mixKind P w) ws rs ∧ KV kvs rs
  | [], _, r => by rw [List.map_nil] at r; cases r; exact ⟨[], True.intro, .nil⟩
  | p :: kvs, _, r => by
    rw [List.map_cons] at r
    cases r with
    | @cons a b as bs h t =>
      obtain ⟨rs, c, q⟩ := carries_of (P := P) (w := w) t
      obtain ⟨b1, b2⟩ := b
      exact ⟨(p.1, b2) :: rs, ⟨kV_is h.1, rfl, c⟩, .cons ⟨rfl, h.2⟩ q⟩
/-- {k: v, ..} with keys ints and texts; the new dict stands empty while the pairs are made -/
def tDisp (trs : List (TE × TE)) : TE := fun σ H Q => ∀ p, H p = none → tPairs trs σ (upd H p (.dK [])) fun ps H2 => H2 p = some (.dK []) ∧ ∃ kvs : List (Key × V), ps = kvs.map (fun kv => (kV kv.1, kv.2)) ∧ kvs.length ≤ 15 ∧ Q (.ref p) (upd H2 p (.dK (mergeK [] kvs)))
theorem pe_disp {X : Cx} {pos : Pos} {keys : List (Option Expr)} {values : List Expr} {trs : List (TE × TE)} (h : PPs X pos keys values trs) (hall : keys.all (·.isSome) = true) (hl : keys.length = values.length) (h0 : keys ≠ [])
    (h15 : keys.length ≤ 15) : PE X (.Dict keys values pos) (tDisp trs) := by
  intro pins s σ H Q I q
  have hn := I.hok.fresh (Nat.le_refl s.heap.objs.size)
  have I1 := I.laid (a := s.heap.objs.size) (o := .dK []) (h' := s.heap.push { cls := .type "dict", data := .dict #[] }) (t' := s.toks) (fun _ _ q => Heap.get?_push_of_some _ q) (Nat.le_refl _) (dk_empty s.heap I.big)
  refine wpAny_Dict_walk (knd := mixKind X.prog X.w) hall hl h0 h15 (thn (h pins _ σ _ _ I1 (q _ hn)) fun ws s2 ⟨ps, H2, I2, rel, e, kvs, ep, lk, q2⟩ => ?_)
  subst ep
  obtain ⟨rs, c, rk⟩ := carries_of (P := X.prog) (w := X.w) rel
  obtain ⟨z, hd, vs0, r0, dd⟩ := dk_of I2.hok e
  cases r0
  refine ⟨rs, c, dd, fun h' dd' hs => ⟨.ref s.heap.objs.size, _, ?_, rfl, q2⟩⟩
  have hz : (mergeK [] kvs).length ≤ sizeLine := by
    have h1 := length_mergeK kvs []
    rw [List.length_nil] at h1
    rw [sizeLine_eq]; omega
  have he : ∃ q, h'.get? s.heap.objs.size = some q := let ⟨q, _, _, hq, _⟩ := dd'; ⟨q, hq⟩
  exact d_write I2 (by rw [e]; exact True.intro) hs he (dk_new hz hd (rk.merge .nil) dd')
/-! ### methods -/
/-- a method call o.m(e) of a built-in, with one argument: what must be seen of the text -/
structure M1 (X : Cx) (o : Expr) (m : Str) (apos : Pos) (e : Expr) (cpos : Pos) : Prop where
  base : attributeBase o m X.env (eval o X.env) = eval o X.env
  few : ((backTo cpos (starEach [e] X.env)).all (fun x => !x.1) && (backToKw cpos (keywordEach [] X.env)).all (fun x => x.1.isSome)
    && decide (([e] : List Expr).length + ([] : List Keyword).length + (if ([] : List Keyword).isEmpty then 0 else 1) < 30)) = true
  line : (apos.endLine == cpos.line) = true
  trees : backTo cpos (starEach [e] X.env) = [(false, eval e X.env)]
structure M2 (X : Cx) (o : Expr) (m : Str) (apos : Pos) (e f : Expr) (cpos : Pos) : Prop where
  base : attributeBase o m X.env (eval o X.env) = eval o X.env
  few : ((backTo cpos (starEach [e, f] X.env)).all (fun x => !x.1) && (backToKw cpos (keywordEach [] X.env)).all (fun x => x.1.isSome)
    && decide (([e, f] : List Expr).length + ([] : List Keyword).length + (if ([] : List Keyword).isEmpty then 0 else 1) < 30)) = true
  line : (apos.endLine == cpos.line) = true
  trees : backTo cpos (starEach [e, f] X.env) = [(false, eval e X.env), (false, eval f X.env)]
/-! ### dict(d): a copy -/
end L2
set_option Elab.async false
set_option linter.all false
set_option maxRecDepth 100000
set_option maxHeartbeats 400000
/-! THE DATA LAYER: more: [v] * k, products of great numbers, dicts written out and held against dicts -/
namespace CT
open PySem PySem.Spec L2
open PyProof.Rows hiding St
section
variable {X : Cx} {ρ : Rho} {a b e : Expr} {d : D} {pos : Pos}
/-! ### great products -/
theorem intBits_le {k : Int} {n : Nat} (h : k.natAbs < 2 ^ n) : Builtin.Int.intBits k ≤ n := by
  unfold Builtin.Int.intBits
  split
  · exact Nat.zero_le _
  · rename_i hk
    have hp : k.natAbs ≠ 0 := fun z => hk (by simp [Int.natAbs_eq_zero.mp z])
    have := (Nat.log2_lt hp).mpr h
    omega
def CMulB (i j : Int) : Prop := i.natAbs < 2 ^ 100000 ∧ j.natAbs < 2 ^ 100000
theorem CMulB.ok {i j : Int} (h : CMulB i j) : IntMulOk i j := by
  have h1 := intBits_le h.1
  have h2 := intBits_le h.2
  have e : Builtin.Int.intTooBig (Builtin.Int.intBits i + Builtin.Int.intBits j) = false := by
    unfold Builtin.Int.intTooBig bitsLine
    refine decide_eq_false ?_
    have : (2 : Nat) ^ 27 = 134217728 := by decide
    rw [this]; omega
  unfold IntMulOk
  rw [e]; simp
theorem op_mulB : OpR X (binaryOp .Mult) (rI CMulB fun i j => .int (i * j)) := opI fun _ _ _ _ _ _ _ hc q => mul_int q hc.ok
theorem de_mulB {i j : Int} (h : CMulB i j) (ha : DE X ρ a (.int i)) (hb : DE X ρ b (.int j)) : DE X ρ (.BinOp a .Mult b pos) (.int (i * j)) :=
  de_op op_mulB (fun x y H S Q rx ry dm k => ⟨i, j, rx.intV, ry.intV, h, k _ H Ext.refl (.int _)⟩) ha hb
/-! ### [v] * k -/
theorem op_repL : OpR X (binaryOp .Mult) (fun x y H Q => ∃ a k z, x = .ref a ∧ y = .int k ∧ H a = some (.lst [z]) ∧ 0 ≤ k ∧ k < 2 ^ 20 ∧ ∀ p, H p = none → Q (.ref p) (upd H p (.lst (List.replicate k.toNat z)))) := by
  intro pins s σ H x y v u Q I rx ry h
  obtain ⟨a, k, z, rfl, rfl, ha, h0, h1, q2⟩ := h
  cases rx
  obtain ⟨t, rfl⟩ := ry
  obtain ⟨_, its, n, r1, ho⟩ := I.hok a _ ha
  cases r1 with
  | cons rz rn =>
    cases rn
    rename_i uz
    have e : List.foldl (fun x1 x2 => x1 ++ x2) #[] (List.replicate (if (#[uz] : Array Value).isEmpty = true then 0 else k.toNat) #[uz]) = (List.replicate k.toNat uz).toArray := by
      have f : ∀ (m : Nat) (acc : List Value), List.foldl (fun x1 x2 => x1 ++ x2) acc.toArray (List.replicate m #[uz]) = (acc ++ List.replicate m uz).toArray := by
        intro m
        induction m with
        | zero => intro acc; simp
        | succ m ih =>
          intro acc
          rw [List.replicate_succ, List.foldl_cons, show acc.toArray ++ #[uz] = (acc ++ [uz]).toArray by simp, ih, List.replicate_succ]
          simp
      have := f k.toNat []
      rw [List.nil_append] at this
      simpa using this
    have rr : ∀ m : Nat, Vals (List.replicate m z) (List.replicate m uz) := fun m => by
      induction m with
      | zero => exact .nil
      | succ m ih => exact .cons rz ih
    refine wpAny_binaryOp_repeat_ref (T := "list") (U := "int") (by decide) ⟨_, ho, rfl⟩ (fun s' => typeIs_int s' k t) noFill_list_mul F.fills_int_mul F.slot_int_rmul repeat_list F.slot_int_index.lookup
      (call_meets F.slot_int_rmul (typeIs_int s k t) F.entry_int_rmul (F.args_int_rmul_2 _ _) (int___rmul___int_list k t a _ n)
        ⟨ho, rfl, ⟨_, ho, rfl⟩, call_meets F.slot_list_mul ⟨_, ho, rfl⟩ F.entry_list_mul (F.args_list_mul_2 _ _) (PySem.AutoListH.list___mul___list_int_3 a _ n k t ?_ ?_ ?_) ⟨ho, ?_⟩⟩)
    · simp [Builtin.List.listFitsIndex]; omega
    · show ¬ (1 * k.toNat > (2 ^ 63 - 1) / 8); omega
    · simp [Builtin.List.listTooLong, sizeLine]; omega
    · rw [show ([uz] : List Value).toArray = #[uz] from rfl, e]
      refine ⟨.ref s.heap.objs.size, _, I.laid (o := .lst (List.replicate k.toNat z)) (t' := s.toks) (fun c w z => Heap.get?_push_of_some _ z) (Nat.le_refl _) ⟨by rw [List.length_replicate, sizeLine_eq]; omega, _, _, rr k.toNat, Heap.get?_push_size _ rfl⟩, rfl, q2 _ (I.hok.fresh (Nat.le_refl _))⟩
theorem de_repL {k : Int} (ha : DF X ρ a [d]) (hb : DE X ρ b (.int k)) (h0 : 0 ≤ k) (h1 : k < 2 ^ 20) : DE X ρ (.BinOp a .Mult b pos) (.lst (List.replicate k.toNat d)) :=
  PE.weak (pe_op op_repL ha hb) fun σ H Q ⟨S, ve, kk⟩ => ⟨S, ve, fun p vs H1 e1 hn hp r => ⟨S, ve.ext e1, fun y H2 e2 ry => by
    obtain ⟨z, rfl, rz⟩ := r.one
    refine ⟨p, k, z, rfl, ry.intV, e2 _ _ (fun z => z) hp, h0, h1, fun q hq => kk _ _ (e1.trans (e2.trans (Ext.new hq))) (Rds.newLst ((ve.ext e1).ext e2).dom hq (RdsL.rep ((rz.av fun b h => .inl (.inl h)).ext (e2.to S)) _))⟩⟩⟩
/-! ### {} and {k: v} -/
theorem de_d0 : DE X ρ (.Dict [] [] pos) (.dct []) := PE.weak pe_dnewK fun σ H Q ⟨S, ve, kk⟩ p hp => kk _ _ (Ext.new hp) (.dK upd_same (ve.dom.not hp) rfl .nil)
theorem de_d1 {k v : Int} (ha : DE X ρ a (.int k)) (hb : DE X ρ b (.int v)) : DE X ρ (.Dict [some a] [b] pos) (.dct [(.int k, .int v)]) :=
  PE.weak (pe_disp (pps_cons ha hb pps_nil) rfl rfl (by simp) (by simp)) fun σ H Q ⟨S, ve, kk⟩ p hp => ⟨S, ve.ext (Ext.new hp), fun x H1 e1 rx => ⟨S, (ve.ext (Ext.new hp)).ext e1, fun y H2 e2 ry => by
    cases rx.intV; cases ry.intV
    have ex := (Ext.new (o := .dK []) hp).trans (e1.trans e2)
    refine ⟨(e1.trans e2) _ _ (fun z => z) upd_same, [(.inl k, .int v)], rfl, by simp, ?_⟩
    have e3 : Ext0 H (upd H2 p (.dK [(.inl k, .int v)])) := fun c o _ h => by rw [upd_ne (ne_of_none h hp)]; exact ex c o (fun z => z) h
    exact kk _ _ e3 (.dK upd_same (ve.dom.not hp) rfl (.cons (.int v) .nil))⟩⟩
/-! ### dicts held against dicts: those of whole numbers -/
section
variable {P : Program} {w : World} {A : Around} {E : Value → Shared → Prop} {s : Shared} {id : String} {a b : Addr} {H : Hp} {Q : Bool → Shared → Prop}
theorem same_pairs0 (ha : ObjOk P w H s.heap a (.dK [])) (hb : ObjOk P w H s.heap b (.dK [])) (h : Q true s) : wpAny (model P w) A (Builtin.Dict.samePairs id a b) Q E s := by
  obtain ⟨_, hsa, vsa, ra, oa, esa, epa, hoa, xa, hda, ka, pa, nda⟩ := ha
  obtain ⟨_, hsb, vsb, rb, ob, esb, epb, hob, xb, hdb, kb, pb, ndb⟩ := hb
  cases ra; cases rb
  obtain ⟨esa⟩ := esa
  obtain ⟨esb⟩ := esb
  cases pa; cases pb
  unfold Builtin.Dict.samePairs Builtin.Dict.showsAll
  rw [hsa, hsb]
  simp only [Bool.false_eq_true, if_false]
  refine wpAny_bind (wpAny_pure (wpAny_bind (wpAny_pure (wpAny_bind (wpAny_dictEntries hoa hda (wpAny_bind (wpAny_dictEntries hob hdb ?_)))))))
  simp only [bne_self_eq_false, Bool.false_eq_true, if_false]
  refine wpAny_bind (wpAny_dictEpoch hoa hda ?_)
  rw [Std.Legacy.Range.forIn_eq_forIn_range']
  simp only [Std.Legacy.Range.size, Nat.sub_zero, Nat.add_sub_cancel, Nat.div_one]
  exact wpAny_bind (wpAny_pure (wpAny_pure h))
theorem same_pairs1 {k v : Int} (ha : ObjOk P w H s.heap a (.dK [(.inl k, .int v)])) (hb : ObjOk P w H s.heap b (.dK [(.inl k, .int v)])) (h : Q true s) : wpAny (model P w) A (Builtin.Dict.samePairs id a b) Q E s := by
  obtain ⟨_, hsa, vsa, ra, oa, esa, epa, hoa, xa, hda, ka, pa, nda⟩ := ha
  obtain ⟨_, hsb, vsb, rb, ob, esb, epb, hob, xb, hdb, kb, pb, ndb⟩ := hb
  cases ra with
  | @cons p q _ _ r1 r2 =>
    cases r2
    cases rb with
    | @cons p2 q2 _ _ r3 r4 =>
      cases r4
      obtain ⟨q1, qv⟩ := q
      obtain ⟨q21, q2v⟩ := q2
      obtain ⟨rfl, tv, rfl⟩ := r1
      obtain ⟨rfl, tv2, rfl⟩ := r3
      obtain ⟨esa⟩ := esa
      obtain ⟨esb⟩ := esb
      cases pa with
      | @cons ea _ _ _ h1 h2 h3 =>
        cases h3
        cases pb with
        | @cons eb _ _ _ g1 g2 g3 =>
          cases g3
          have hha : ea.hash = (mixKind P w).hash (.inl k) := by
            obtain ⟨k', z1, z2⟩ := ka ea (by simp)
            rw [z2, (mixKind P w).inj _ _ _ z1 h1]
          unfold Builtin.Dict.samePairs Builtin.Dict.showsAll
          rw [hsa, hsb]
          simp only [Bool.false_eq_true, if_false]
          refine wpAny_bind (wpAny_pure (wpAny_bind (wpAny_pure (wpAny_bind (wpAny_dictEntries hoa hda (wpAny_bind (wpAny_dictEntries hob hdb ?_)))))))
          rw [if_neg (by simp)]
          refine wpAny_bind (wpAny_dictEpoch hoa hda ?_)
          rw [Std.Legacy.Range.forIn_eq_forIn_range']
          simp only [Std.Legacy.Range.size, Nat.sub_zero, Nat.add_sub_cancel, Nat.div_one]
          rw [show List.range' 0 ({ toList := [ea] } : Array DictEntry).size = [0] from rfl, List.forIn_cons]
          refine wpAny_bind (wpAny_bind (wpAny_bind (wpAny_dictEntries hoa hda ?_)))
          refine wpAny_bind (wpAny_holding (wpAny_bind ?_))
          show wpAny _ _ (dictFind b ea.key ea.hash) _ _ _
          rw [hha]
          refine wpAny_dictFind_of (knd := mixKind P w) h1 hob hdb kb ?_
          have ef : (({ toList := [eb] } : Array DictEntry).findIdx? fun e => (mixKind P w).is (.inl k) e.key) = some 0 := by
            rw [show ({ toList := [eb] } : Array DictEntry) = #[eb] from rfl]
            simp [g1]
          rw [ef]
          refine wpAny_bind (wpAny_dictEntries hob hdb ?_)
          refine wpAny_holding ?_
          show wpAny _ _ (eqBool ea.val eb.val) _ _ _
          rw [h2, g2]
          refine wpAny_eqBool_int ?_
          simp only [beq_self_eq_true, Bool.not_true, Bool.false_eq_true, if_false]
          refine wpAny_bind (wpAny_dictEpoch hoa hda ?_)
          simp only [bne_self_eq_false, Bool.false_eq_true, if_false]
          refine wpAny_pure (wpAny_pure (wpAny_pure h))
end
/-- dicts as they are met in a law: none, or of one whole number -/
def smD (kvs : List (D × D)) : Prop := kvs = [] ∨ ∃ k v : Int, kvs = [(.int k, .int v)]
theorem op_neS {kvs : List (D × D)} (hs : smD kvs) (hu : X.A.units + 64 < cLine) : OpR X (compareOp .NotEq) (fun x y H Q => ∃ S, Rds X.K H S (.dct kvs) x ∧ Rds X.K H S (.dct kvs) y ∧ Q (.bl false) H) := by
  intro pins s σ H x y v u Q I rx ry ⟨S, r1, r2, q⟩
  cases r1 with
  | @dK a ka _ h1 n1 e1 l1 =>
    cases r2 with
    | @dK b kb _ h2 n2 e2 l2 =>
      cases rx; cases ry
      have oa := I.hok a _ h1
      have ob := I.hok b _ h2
      have ta : s.TypeIs (.ref a) "dict" := by obtain ⟨_, _, _, _, o, _, _, z, zc, _⟩ := oa; exact ⟨o, z, zc.1⟩
      have tb : s.TypeIs (.ref b) "dict" := by obtain ⟨_, _, _, _, o, _, _, z, zc, _⟩ := ob; exact ⟨o, z, zc.1⟩
      show wpAny _ _ (richCompare .NotEq (.ref a) (.ref b)) _ _ _
      refine wpAny_richCompare_same_room (T := "dict") (op := .NotEq) ta tb F.slot_dict_ne (wpAny_call_entry F.slot_dict_ne ta F.entry_dict_ne ?_ (F.args_dict_ne_2 _ _)) (by omega)
      have key : ∀ (id : String) (Q' : Bool → Shared → Prop), Q' true s → wpAny (model X.prog X.w) X.A.in1 (Builtin.Dict.samePairs id a b) Q' X.xe s := fun id Q' hq => by
        rcases hs with rfl | ⟨k, v, rfl⟩
        · cases ka with
          | nil => cases kb with
            | nil => exact same_pairs0 oa ob hq
            | cons _ _ => cases e2
          | cons _ _ => cases e1
        · have one : ∀ {kk : List (Key × V)}, [(D.int k, D.int v)].map (·.1) = kk.map (fun p => keyD p.1) → RdsL X.K H S ([(D.int k, D.int v)].map (·.2)) (kk.map (·.2)) → kk = [(.inl k, .int v)] := fun {kk} e l => by
            cases kk with
            | nil => cases e
            | cons p r =>
              cases r with
              | cons _ _ => exact absurd (congrArg List.length e) (by simp)
              | nil =>
                obtain ⟨p1, p2⟩ := p
                cases p1 with
                | inr x => cases e
                | inl i =>
                  cases e
                  obtain ⟨z, ez, rz⟩ := l.one
                  cases ez
                  cases rz.intV
                  rfl
          rw [one e1 l1] at oa
          rw [one e2 l2] at ob
          exact same_pairs1 oa ob hq
      show wpAny _ _ (Builtin.«dict.__ne__» ⟨[.ref a, .ref b], []⟩) _ _ _
      obtain ⟨ob', zb, zc⟩ := tb
      have T1 : PySem.W.Looks (model X.prog X.w) s.heap (typeOf (.ref b)) (.type "dict") := zc ▸ (PySem.W.Looks.ld zb).andThen .now
      have T2 : PySem.W.Looks (model X.prog X.w) s.heap (isSubtype (.type "dict") (.type "dict")) true := by rw [isSubtype_type]; exact PySem.W.Looks.of_pure (by kernel_rfl)
      obtain ⟨hp, g, dd, tk, os⟩ := s
      repeat (first | refine key _ _ ?_ | lk)
      exact ⟨_, rfl, (fun z => nomatch z), .bl false, H, I, rfl, q⟩
theorem dt_neS {kvs : List (D × D)} (hs : smD kvs) (hu : X.A.units + 64 < cLine) (ha : DE X ρ a (.dct kvs)) (hb : DE X ρ b (.dct kvs)) : DT X ρ (.Compare a [.NotEq] [b] pos) false :=
  dt_cmp (op_neS hs hu) (fun x y H S Q rx ry dm k => ⟨S, rx, ry, k _ H Ext.refl (.bl _)⟩) ha hb (nomark _)
end
end CT
set_option Elab.async false
set_option linter.all false
set_option maxRecDepth 100000
set_option maxHeartbeats 400000
/-! THE DATA LAYER: plain data of any kind, isinstance of them -/
namespace CT
open PySem PySem.Spec L2
open PyProof.Rows hiding St
def tyN : D → Option String
  | .non => some "NoneType" | .bl _ => some "bool" | .int _ => some "int" | .str _ => some "str" | .tup _ => some "tuple" | .lst _ => some "list" | .dct _ => some "dict"
  | _ => none
inductive TyC : String → Prop
  | int : TyC "int" | bool : TyC "bool" | list : TyC "list" | tuple : TyC "tuple"
def isiN (x : D) (c : String) : Bool := match tyN x with
  | some n => n == c || (n == "bool" && c == "int")
  | none => false
theorem kitN {K : PySem.W.Frag} {x : D} {c : String} (hx : tyN x ≠ none) (hc : TyC c) : ∃ n, TyD K x (.type n) ∧ PySem.W.kitOne K (.type n) (.type c) = some (isiN x c) := by
  cases x with
  | non => exact ⟨_, .non, by cases hc <;> rfl⟩
  | bl b => exact ⟨_, .bl b, by cases hc <;> rfl⟩
  | int i => exact ⟨_, .int i, by cases hc <;> rfl⟩
  | str s => exact ⟨_, .str s, by cases hc <;> rfl⟩
  | tup xs => exact ⟨_, .tup xs, by cases hc <;> rfl⟩
  | lst xs => exact ⟨_, .lst xs, by cases hc <;> rfl⟩
  | dct xs => exact ⟨_, .dct xs, by cases hc <;> rfl⟩
  | ins _ _ => exact absurd rfl hx
  | exc _ _ => exact absurd rfl hx
  | ty _ => exact absurd rfl hx
  | cl _ => exact absurd rfl hx
section
variable {X : Cx} {ρ : Rho} {a b : Expr} {x : D} {p pos : Pos}
/-- isinstance(x, T), T one of Python's own -/
theorem de_isiN {c : String} (hx : tyN x ≠ none) (hc : TyC c) (hg : Gl X "isinstance") (hm : X.mg "isinstance" = none) (ha : DE X ρ a x) (hb : DE X ρ b (.ty c))
    (he : starEach [a, b] X.env = (false, eval a X.env) :: starEach [b] X.env := by rfl) (he2 : starEach [b] X.env = (false, eval b X.env) :: starEach [] X.env := by rfl) (hpl : (backTo pos (starEach [b] X.env)).any (·.1) = false := by rfl) : DE X ρ (.Call (.Name "isinstance" p) [a, b] [] pos) (.bl (isiN x c)) := by
  obtain ⟨n, ty, hk⟩ := kitN (K := X.K) hx hc
  exact de_isi hg hm ty (.ty c) hk (da_cons ha (da_cons hb da_nil he2) he) he hpl
theorem kitA {K : PySem.W.Frag} {x : D} (hx : tyN x ≠ none) : ∃ n, TyD K x (.type n) ∧ PySem.W.kitAny K (.type n) [.type "list", .type "tuple"] = some (isiN x "list" || isiN x "tuple") := by
  cases x with
  | non => exact ⟨_, .non, rfl⟩
  | bl b => exact ⟨_, .bl b, rfl⟩
  | int i => exact ⟨_, .int i, rfl⟩
  | str s => exact ⟨_, .str s, rfl⟩
  | tup xs => exact ⟨_, .tup xs, rfl⟩
  | lst xs => exact ⟨_, .lst xs, rfl⟩
  | dct xs => exact ⟨_, .dct xs, rfl⟩
  | ins _ _ => exact absurd rfl hx
  | exc _ _ => exact absurd rfl hx
  | ty _ => exact absurd rfl hx
  | cl _ => exact absurd rfl hx
/-- isinstance(x, (list, tuple)) -/
theorem de_isiLT {p1 p2 p3 : Pos} {j} (hx : tyN x ≠ none) (hg : Gl X "isinstance") (hm : X.mg "isinstance" = none) (gl : Gl X "list") (ml : X.mg "list" = none) (gt : Gl X "tuple") (mt : X.mg "tuple" = none) (ha : DE X ρ a x)
    (he : starEach [a, .Tuple [.Name "list" p1, .Name "tuple" p2] j p3] X.env = (false, eval a X.env) :: starEach [.Tuple [.Name "list" p1, .Name "tuple" p2] j p3] X.env := by rfl)
    (hpl : (backTo pos (starEach [.Tuple [.Name "list" p1, .Name "tuple" p2] j p3] X.env)).any (·.1) = false := by rfl) :
    DE X ρ (.Call (.Name "isinstance" p) [a, .Tuple [.Name "list" p1, .Name "tuple" p2] j p3] [] pos) (.bl (isiN x "list" || isiN x "tuple")) := by
  obtain ⟨n, ty, hk⟩ := kitA (K := X.K) hx
  exact de_isiT hg hm ty (.cons (.ty "list") (.cons (.ty "tuple") .nil)) hk (da_cons ha (da_cons (de_tup (da_cons (de_ty gl ml boot_list') (da_cons (de_ty gt mt boot_tuple') da_nil)) (by decide)) da_nil) he) he hpl
end
/-! ### whole numbers, sequences -/
def isW : D → Bool
  | .int _ => true
  | _ => false
theorem isW_isi {x : D} (hx : tyN x ≠ none) : (isiN x "int" && !isiN x "bool") = isW x := by
  cases x <;> first | rfl | exact absurd rfl hx
def seqOf : D → Option (List D)
  | .lst xs => some xs | .tup xs => some xs
  | _ => none
theorem seq_isi {x : D} (hx : tyN x ≠ none) : (isiN x "list" || isiN x "tuple") = (seqOf x).isSome := by
  cases x <;> first | rfl | exact absurd rfl hx
theorem Sq.of {x : D} {xs : List D} (h : seqOf x = some xs) : Sq x xs := by
  cases x <;> first | (cases h; exact .lst _) | (cases h; exact .tup _) | cases h
def intOf : D → Int
  | .int i => i
  | _ => 0
theorem intOf_W {x : D} (h : isW x = true) : x = .int (intOf x) := by
  cases x <;> first | rfl | cases h
/-! ### long displays -/
def noStar : Expr → Bool
  | .Starred .. => false
  | _ => true
theorem se_of {e : Expr} {es : List Expr} {env : Env} (h : noStar e = true) : starEach (e :: es) env = (false, eval e env) :: starEach es env := by
  cases e <;> first | rfl | cases h
theorem da_c {X : Cx} {ρ : Rho} {e : Expr} {es : List Expr} {d : D} {ds : List D} (ha : DE X ρ e d) (hr : DA X ρ es ds) (h : noStar e = true := by rfl) : DA X ρ (e :: es) (d :: ds) := da_cons ha hr (se_of h)
end CT
def PySem.W.Fast.tw7438839416305916990 : Nat := 0
def PySem.W.Fast.tw11096708335988366485 : Nat := 0
def PySem.W.Fast.tw10455723357194269417 : Nat := 0
def PySem.W.Fast.tw18243943247620028101 : Nat := 0
def PySem.W.Fast.tw7790205932352045152 : Nat := 0
def PySem.W.Fast.tw289600005258181876 : Nat := 0
def PySem.W.Fast.tw8613699076477193329 : Nat := 0
def PySem.W.Fast.tw18228588955772505938 : Nat := 0
def PySem.W.Fast.tw14921047890354234069 : Nat := 0
def PySem.W.Fast.tw15563543956277854833 : Nat := 0
def PySem.W.Fast.tw5854007262242026657 : Nat := 0
def PySem.W.Fast.tw12322147720032722839 : Nat := 0
def PySem.W.Fast.tw10296124041271985129 : Nat := 0
def PySem.W.Fast.tw18038780902952846317 : Nat := 0
def PySem.W.Fast.tw9847333172417232300 : Nat := 0
def PySem.W.Fast.tw11577954391765017812 : Nat := 0
def PySem.W.Fast.tw2811145854759781940 : Nat := 0
def PySem.W.Fast.tw2779638409153604207 : Nat := 0
def PySem.W.Fast.tw1463362246792466696 : Nat := 0
def PySem.W.Fast.tw4393990284650297036 : Nat := 0
def PySem.W.Fast.tw13625688048327989954 : Nat := 0
def PySem.W.Fast.tw2831655537662399150 : Nat := 0
def PySem.W.Fast.tw8680274409570062526 : Nat := 0
def PySem.W.Fast.tw12023594111746523640 : Nat := 0
def PySem.W.Fast.tw10214046716822639559 : Nat := 0
def PySem.W.Fast.tw862303100622896876 : Nat := 0
def PySem.W.Fast.tw888861500143368732 : Nat := 0
def PySem.W.Fast.tw2333730676732810683 : Nat := 0
def PySem.W.Fast.tw12969586977416783065 : Nat := 0
def PySem.W.Fast.tw2409960928554343053 : Nat := 0
def PySem.W.Fast.tw11801068112849539053 : Nat := 0
def PySem.W.Fast.tw8735362225694124128 : Nat := 0
def PySem.W.Fast.tw8261915790077757877 : Nat := 0
def PySem.W.Fast.tw7441799676493190145 : Nat := 0
def PySem.W.Fast.tw10391587936856428883 : Nat := 0
def PySem.W.Fast.tw7206258059591351112 : Nat := 0
def PySem.W.Fast.tw14865464628342656231 : Nat := 0
def PySem.W.Fast.tw13899198555619189755 : Nat := 0
def PySem.W.Fast.tw7233336243288093728 : Nat := 0
def PySem.W.Fast.tw1053866676688822436 : Nat := 0
def PySem.W.Fast.tw15247734018685312988 : Nat := 0
def PySem.W.Fast.tw3967566022259817368 : Nat := 0
def PySem.W.Fast.tw2093715602605383817 : Nat := 0
def PySem.W.Fast.tw9909528236883481798 : Nat := 0
def PySem.W.Fast.tw4944567219707265249 : Nat := 0
def PySem.W.Fast.tw13630737607803343346 : Nat := 0
def PySem.W.Fast.tw5702787468038357477 : Nat := 0
def PySem.W.Fast.tw14361083475666215204 : Nat := 0
def PySem.W.Fast.tw11016710488899688487 : Nat := 0
def PySem.W.Fast.tw10724503636548498025 : Nat := 0
def PySem.W.Fast.tw245040786588180947 : Nat := 0
def PySem.W.Fast.tw17546395703674514733 : Nat := 0
def PySem.W.Fast.tw1356017036398074752 : Nat := 0
def PySem.W.Fast.tw7157450787652447673 : Nat := 0
def PySem.W.Fast.tw12412012207379946302 : Nat := 0
def PySem.W.Fast.tw5398576411829700813 : Nat := 0
def PySem.W.Fast.tw15639410091162570226 : Nat := 0
def PySem.W.Fast.tw1478247084656760168 : Nat := 0
def PySem.W.Fast.tw14514283555291989349 : Nat := 0
def PySem.W.Fast.tw15860278890127310776 : Nat := 0
def PySem.W.Fast.tw5055903219455060494 : Nat := 0
def PySem.W.Fast.tw7141921126381193893 : Nat := 0
def PySem.W.Fast.tw4292145318112865175 : Nat := 0
def PySem.W.Fast.tw14861476734978229119 : Nat := 0
def PySem.W.Fast.tw3987519119954488638 : Nat := 0
def PySem.W.Fast.tw7441347443056256956 : Nat := 0
def PySem.W.Fast.tw8116423777530478848 : Nat := 0
def PySem.W.Fast.tw10619062443206973337 : Nat := 0
def PySem.W.Fast.tw10315545468443203723 : Nat := 0
def PySem.W.Fast.tw10074063191062220027 : Nat := 0
def PySem.W.Fast.tw5871505623966671633 : Nat := 0
def PySem.W.Fast.tw3176894418696479056 : Nat := 0
def PySem.W.Fast.tw14765391822818398850 : Nat := 0
def PySem.W.Fast.tw2959925086253849591 : Nat := 0
def PySem.W.Fast.tw10880437532384868488 : Nat := 0
def PySem.W.Fast.tw3106277028670043838 : Nat := 0
def PySem.W.Fast.tw128765832014153812 : Nat := 0
def PySem.W.Fast.tw10073733540610535539 : Nat := 0
def PySem.W.Fast.tw2023328944103880805 : Nat := 0
def PySem.W.Fast.tw15155438856612434366 : Nat := 0
def PySem.W.Fast.tw17665272742271986593 : Nat := 0
def PySem.W.Fast.tw2533823620038975036 : Nat := 0
def PySem.W.Fast.tw13381791404389421934 : Nat := 0
def PySem.W.Fast.tw13031180677630565235 : Nat := 0
def PySem.W.Fast.tw9630582573592220493 : Nat := 0
def PySem.W.Fast.tw10727508382447764820 : Nat := 0
def PySem.W.Fast.tw17986120827703228409 : Nat := 0
def PySem.W.Fast.tw14497059221399570376 : Nat := 0
def PySem.W.Fast.tw8727324712381731984 : Nat := 0
def PySem.W.Fast.tw9449231756954104062 : Nat := 0
def PySem.W.Fast.tw15265648488072980321 : Nat := 0
def PySem.W.Fast.tw15485747051570714785 : Nat := 0
def PySem.W.Fast.tw739554225875109059 : Nat := 0
def PySem.W.Fast.tw4354695571162084377 : Nat := 0
def PySem.W.Fast.tw8931907980945543288 : Nat := 0
def PySem.W.Fast.tw13965152736322140798 : Nat := 0
def PySem.W.Fast.tw9846063238052588492 : Nat := 0
def PySem.W.Fast.tw17245822593406860520 : Nat := 0
def PySem.W.Fast.tw13142836315647853337 : Nat := 0
def PySem.W.Fast.tw787600898858063221 : Nat := 0
def PySem.W.Fast.tw8953538069854200836 : Nat := 0
def PySem.W.Fast.tw15507763217397061963 : Nat := 0
def PySem.W.Fast.tw9491809408054322177 : Nat := 0
def PySem.W.Fast.tw5017209748587655462 : Nat := 0
def PySem.W.Fast.tw16626403284349873671 : Nat := 0
def PySem.W.Fast.tw6826003544891596286 : Nat := 0
def PySem.W.Fast.tw13502104262693739541 : Nat := 0
def PySem.W.Fast.tw3026027513494258865 : Nat := 0
def PySem.W.Fast.tw10453946393015030128 : Nat := 0
def PySem.W.Fast.tw3006407582361170386 : Nat := 0
def PySem.W.Fast.tw2844579296039838673 : Nat := 0
def PySem.W.Fast.tw5159861396670864515 : Nat := 0
def PySem.W.Fast.tw2759750382274907446 : Nat := 0
def PySem.W.Fast.tw2177883375372044345 : Nat := 0
def PySem.W.Fast.tw1912958076377280905 : Nat := 0
def PySem.W.Fast.tw5193557721029534645 : Nat := 0
def PySem.W.Fast.tw9644620393182669874 : Nat := 0
def PySem.W.Fast.tw8710321717771951979 : Nat := 0
def PySem.W.Fast.tw13275809921216588493 : Nat := 0
def PySem.W.Fast.tw5018603834262755480 : Nat := 0
def PySem.W.Fast.tw3291551135246148257 : Nat := 0
def PySem.W.Fast.tw16102353641684526832 : Nat := 0
def PySem.W.Fast.tw16989126729845604104 : Nat := 0
def PySem.W.Fast.tw13032501852596978862 : Nat := 0
def PySem.W.Fast.tw14320413448006493864 : Nat := 0
def PySem.W.Fast.tw11030769849165762397 : Nat := 0
def PySem.W.Fast.tw1016797233844724670 : Nat := 0
def PySem.W.Fast.tw12095248375660747576 : Nat := 0
def PySem.W.Fast.tw5586851951622202007 : Nat := 0
def PySem.W.Fast.tw15642215000059364643 : Nat := 0
def PySem.W.Fast.tw9132894264687481008 : Nat := 0
def PySem.W.Fast.tw9782922914294406914 : Nat := 0
def PySem.W.Fast.tw1166915104627120021 : Nat := 0
def PySem.W.Fast.tw12268498844979929867 : Nat := 0
def PySem.W.Fast.tw6288634963742448760 : Nat := 0
def PySem.W.Fast.tw14754715219146663989 : Nat := 0
def PySem.W.Fast.tw17518765748605656880 : Nat := 0
def PySem.W.Fast.tw8062688508110767779 : Nat := 0
def PySem.W.Fast.tw5783674632550700167 : Nat := 0
def PySem.W.Fast.tw11104571962369469335 : Nat := 0
def PySem.W.Fast.tw11186159650584132440 : Nat := 0
def PySem.W.Fast.tw11041258312724862250 : Nat := 0
def PySem.W.Fast.tw6060493966676825485 : Nat := 0
def PySem.W.Fast.tw4434376227061931658 : Nat := 0
def PySem.W.Fast.tw14793972288600390322 : Nat := 0
def PySem.W.Fast.tw15531889190406599605 : Nat := 0
def PySem.W.Fast.tw1132283983927285549 : Nat := 0
def PySem.W.Fast.tw17476452804035444317 : Nat := 0
def PySem.W.Fast.tw12445397884100827025 : Nat := 0
def PySem.W.Fast.tw2308350282959950333 : Nat := 0
def PySem.W.Fast.tw16548214924914976816 : Nat := 0
def PySem.W.Fast.tw8438609437250037920 : Nat := 0
def PySem.W.Fast.tw6256305301431588861 : Nat := 0
def PySem.W.Fast.tw11242868623181574072 : Nat := 0
def PySem.W.Fast.tw15991301598287358455 : Nat := 0
def PySem.W.Fast.tw82352287438629603 : Nat := 0
def PySem.W.Fast.tw13610572861612206152 : Nat := 0
def PySem.W.Fast.tw14453458062868713548 : Nat := 0
def PySem.W.Fast.tw6613016258559292307 : Nat := 0
def PySem.W.Fast.tw13318810115628318472 : Nat := 0
def PySem.W.Fast.tw9424633824127411117 : Nat := 0
def PySem.W.Fast.tw2953628249065416097 : Nat := 0
def PySem.W.Fast.tw17732694809783734126 : Nat := 0
def PySem.W.Fast.tw10883421428680831187 : Nat := 0
def PySem.W.Fast.tw15644498346417289996 : Nat := 0
def PySem.W.Fast.tw17660501523364109919 : Nat := 0
def PySem.W.Fast.tw3972407026476161888 : Nat := 0
def PySem.W.Fast.tw2223656909940738742 : Nat := 0
def PySem.W.Fast.tw7401471288956655612 : Nat := 0
def PySem.W.Fast.tw17272322479950991698 : Nat := 0
def PySem.W.Fast.tw16415421206901586695 : Nat := 0
def PySem.W.Fast.tw12915628594507764302 : Nat := 0
def PySem.W.Fast.tw15597822941305506059 : Nat := 0
def PySem.W.Fast.tw9599632273920817958 : Nat := 0
def PySem.W.Fast.tw6496718299303125738 : Nat := 0
def PySem.W.Fast.tw11384368524977215966 : Nat := 0
def PySem.W.Fast.tw7147932867813198228 : Nat := 0
def PySem.W.Fast.tw8968775223758494133 : Nat := 0
def PySem.W.Fast.tw17300981678488633926 : Nat := 0
def PySem.W.Fast.tw1775125157762302532 : Nat := 0
def PySem.W.Fast.tw2336331535586777799 : Nat := 0
def PySem.W.Fast.tw9938006327785321035 : Nat := 0
def PySem.W.Fast.tw11306995497556850087 : Nat := 0
def PySem.W.Fast.tw5464648829257635828 : Nat := 0
def PySem.W.Fast.tw13816415216782724388 : Nat := 0
def PySem.W.Fast.tw8096514396004147761 : Nat := 0
def PySem.W.Fast.tw8014256835941073359 : Nat := 0
def PySem.W.Fast.tw7384852893881500388 : Nat := 0
def PySem.W.Fast.tw7709315159121864577 : Nat := 0
def PySem.W.Fast.tw3116965325362410734 : Nat := 0
def PySem.W.Fast.tw11831047083172570490 : Nat := 0
def PySem.W.Fast.tw4097458409967022499 : Nat := 0
def PySem.W.Fast.tw1648837860494449443 : Nat := 0
def PySem.W.Fast.tw1732259634957888438 : Nat := 0
def PySem.W.Fast.tw11923111288345219973 : Nat := 0
def PySem.W.Fast.tw4552174473390836810 : Nat := 0
def PySem.W.Fast.tw5809955275338847342 : Nat := 0
def PySem.W.Fast.tw4514700206104071357 : Nat := 0
def PySem.W.Fast.tw249882861681191718 : Nat := 0
def PySem.W.Fast.tw13025872134928159085 : Nat := 0
def PySem.W.Fast.tw96887429239358980 : Nat := 0
def PySem.W.Fast.tw17151717938891084200 : Nat := 0
def PySem.W.Fast.tw6390701684982438148 : Nat := 0
def PySem.W.Fast.tw14089011976571565146 : Nat := 0
def PySem.W.Fast.tw17427354603613139490 : Nat := 0
def PySem.W.Fast.tw5627152526019606083 : Nat := 0
def PySem.W.Fast.tw17477798914980465355 : Nat := 0
def PySem.W.Fast.tw3165604688893269379 : Nat := 0
def PySem.W.Fast.tw7329844261366581206 : Nat := 0
def PySem.W.Fast.tw1975215142556927337 : Nat := 0
def PySem.W.Fast.tw6752285506045629144 : Nat := 0
def PySem.W.Fast.tw8948606612051403397 : Nat := 0
def PySem.W.Fast.tw2746056096589312636 : Nat := 0
def PySem.W.Fast.tw7612686924598347202 : Nat := 0
def PySem.W.Fast.tw1096026270880006574 : Nat := 0
def PySem.W.Fast.tw13938280585872126439 : Nat := 0
def PySem.W.Fast.tw12505720368612582607 : Nat := 0
def PySem.W.Fast.tw16499166624144573046 : Nat := 0
def PySem.W.Fast.tw15897836238270673504 : Nat := 0
def PySem.W.Fast.tw17126273327133727566 : Nat := 0
def PySem.W.Fast.tw13992312318430432530 : Nat := 0
def PySem.W.Fast.tw9015393013890362335 : Nat := 0
def PySem.W.Fast.tw15960537057292488280 : Nat := 0
def PySem.W.Fast.tw10444939653449462719 : Nat := 0
def PySem.W.Fast.tw2610596096117362329 : Nat := 0
def PySem.W.Fast.tw6631657664286525487 : Nat := 0
def PySem.W.Fast.tw12193084492973592292 : Nat := 0
def PySem.W.Fast.tw3730572189541241066 : Nat := 0
def PySem.W.Fast.tw9447356378303134994 : Nat := 0
def PySem.W.Fast.tw13568619335230213589 : Nat := 0
def PySem.W.Fast.tw15760857853561495477 : Nat := 0
def PySem.W.Fast.tw10246196427555967043 : Nat := 0
def PySem.W.Fast.tw8753861192996837481 : Nat := 0
def PySem.W.Fast.tw1552211038172197610 : Nat := 0
def PySem.W.Fast.tw7580638378348884715 : Nat := 0
def PySem.W.Fast.tw18420131816724536202 : Nat := 0
def PySem.W.Fast.tw14301215367074467683 : Nat := 0
def PySem.W.Fast.tw12015392655732235604 : Nat := 0
def PySem.W.Fast.tw13305715010866858192 : Nat := 0
def PySem.W.Fast.tw6316328550225324592 : Nat := 0
def PySem.W.Fast.tw3084701377888878599 : Nat := 0
def PySem.W.Fast.tw783830499551560369 : Nat := 0
def PySem.W.Fast.tw1645518121615031442 : Nat := 0
def PySem.W.Fast.tw17435530197876047778 : Nat := 0
def PySem.W.Fast.tw2458209068540825433 : Nat := 0
def PySem.W.Fast.tw4935286325615783889 : Nat := 0
def PySem.W.Fast.tw6985627608979163201 : Nat := 0
def PySem.W.Fast.tw8287593731859629255 : Nat := 0
def PySem.W.Fast.tw13877231390335363408 : Nat := 0
def PySem.W.Fast.tw13162489652789043231 : Nat := 0
def PySem.W.Fast.tw17188672155967567451 : Nat := 0
def PySem.W.Fast.tw5940133724393365169 : Nat := 0
def PySem.W.Fast.tw15934209946584115387 : Nat := 0
def PySem.W.Fast.tw4470317183255520035 : Nat := 0
def PySem.W.Fast.tw3650945357917211949 : Nat := 0
def PySem.W.Fast.tw2620844487134512880 : Nat := 0
def PySem.W.Fast.tw16713248754440878814 : Nat := 0
def PySem.W.Fast.tw12470378570116982852 : Nat := 0
def PySem.W.Fast.tw9422372150990998608 : Nat := 0
def PySem.W.Fast.tw12884251062278094103 : Nat := 0
def PySem.W.Fast.tw1485129825031744675 : Nat := 0
def PySem.W.Fast.tw10918914503707672432 : Nat := 0
def PySem.W.Fast.tw7549682517216764315 : Nat := 0
def PySem.W.Fast.tw15978092228733126447 : Nat := 0
def PySem.W.Fast.tw3639067232071518463 : Nat := 0
def PySem.W.Fast.tw17528102842120658128 : Nat := 0
def PySem.W.Fast.tw10245592462531830347 : Nat := 0
def PySem.W.Fast.tw5703556154941606066 : Nat := 0
def PySem.W.Fast.tw18069621747592454719 : Nat := 0
def PySem.W.Fast.tw14370295199765112913 : Nat := 0
def PySem.W.Fast.tw15624210456522537305 : Nat := 0
def PySem.W.Fast.tw7384976909547825413 : Nat := 0
def PySem.W.Fast.tw13057616601382215503 : Nat := 0
def PySem.W.Fast.tw5088211928653867329 : Nat := 0
def PySem.W.Fast.tw12834128426061924754 : Nat := 0
def PySem.W.Fast.tw1580259651878771457 : Nat := 0
def PySem.W.Fast.tw13347331471117572354 : Nat := 0
def PySem.W.Fast.tw6346175804688656880 : Nat := 0
def PySem.W.Fast.tw15344404686329479258 : Nat := 0
def PySem.W.Fast.tw16061103048715656030 : Nat := 0
def PySem.W.Fast.tw5158103143254143585 : Nat := 0
def PySem.W.Fast.tw1588794317092647189 : Nat := 0
def PySem.W.Fast.tw10560196209003067748 : Nat := 0
def PySem.W.Fast.tw12639145659507257214 : Nat := 0
def PySem.W.Fast.tw16655797285955446057 : Nat := 0
def PySem.W.Fast.tw1288148659036961886 : Nat := 0
def PySem.W.Fast.tw5533961463711271202 : Nat := 0
def PySem.W.Fast.tw6646920647779821476 : Nat := 0
def PySem.W.Fast.tw6367713319854904889 : Nat := 0
def PySem.W.Fast.tw6669503011001461317 : Nat := 0
def PySem.W.Fast.tw14476333187092433459 : Nat := 0
def PySem.W.Fast.tw17589845561243750332 : Nat := 0
def PySem.W.Fast.tw13043916680954147238 : Nat := 0
def PySem.W.Fast.tw16080932918678959329 : Nat := 0
def PySem.W.Fast.tw3547227847001165872 : Nat := 0
def PySem.W.Fast.tw10909349343419210490 : Nat := 0
def PySem.W.Fast.tw16193585226726948678 : Nat := 0
def PySem.W.Fast.tw14829157367549443783 : Nat := 0
def PySem.W.Fast.tw780733909058030159 : Nat := 0
def PySem.W.Fast.tw33291712343377929 : Nat := 0
def PySem.W.Fast.tw15218140975909005087 : Nat := 0
def PySem.W.Fast.tw3935759506440994826 : Nat := 0
def PySem.W.Fast.tw14512082750908081141 : Nat := 0
def PySem.W.Fast.tw15575430451070776804 : Nat := 0
def PySem.W.Fast.tw4133448885005523755 : Nat := 0
def PySem.W.Fast.tw1793304972504614611 : Nat := 0
def PySem.W.Fast.tw9281205250897256893 : Nat := 0
def PySem.W.Fast.tw2622222676312079537 : Nat := 0
def PySem.W.Fast.tw10301868793392224568 : Nat := 0
def PySem.W.Fast.tw8437673518573931344 : Nat := 0
def PySem.W.Fast.tw10145154249367181392 : Nat := 0
def PySem.W.Fast.tw7765919824020984426 : Nat := 0
def PySem.W.Fast.tw13135626706232825446 : Nat := 0
def PySem.W.Fast.tw10465105918210499494 : Nat := 0
def PySem.W.Fast.tw6357849021307151408 : Nat := 0
def PySem.W.Fast.tw838660656850094076 : Nat := 0
def PySem.W.Fast.tw15753029258477369174 : Nat := 0
def PySem.W.Fast.tw7161157634373477285 : Nat := 0
def PySem.W.Fast.tw7744302694902998275 : Nat := 0
def PySem.W.Fast.tw16848909850920533809 : Nat := 0
def PySem.W.Fast.tw9305570337386887257 : Nat := 0
def PySem.W.Fast.tw6638727617258818745 : Nat := 0
def PySem.W.Fast.tw2286739967098798526 : Nat := 0
def PySem.W.Fast.tw7991328691559247369 : Nat := 0
def PySem.W.Fast.tw1761378009914687230 : Nat := 0
def PySem.W.Fast.tw9655326944096097178 : Nat := 0
def PySem.W.Fast.tw3753594275155214793 : Nat := 0
def PySem.W.Fast.tw9258410722245470727 : Nat := 0
def PySem.W.Fast.tw11076953448117343816 : Nat := 0
def PySem.W.Fast.tw15813384324153462331 : Nat := 0
def PySem.W.Fast.tw13169626278954863317 : Nat := 0
def PySem.W.Fast.tw14937469816479409892 : Nat := 0
def PySem.W.Fast.tw10043108636806769954 : Nat := 0
def PySem.W.Fast.tw1287369346482371993 : Nat := 0
def PySem.W.Fast.tw7591846279236229475 : Nat := 0
def PySem.W.Fast.tw4878190834627490020 : Nat := 0
def PySem.W.Fast.tw12910691511285710466 : Nat := 0
def PySem.W.Fast.tw9760524121734418844 : Nat := 0
def PySem.W.Fast.tw178332867459892773 : Nat := 0
def PySem.W.Fast.tw10802116913322125925 : Nat := 0
def PySem.W.Fast.tw10056359277926777344 : Nat := 0
def PySem.W.Fast.tw5518311180425347377 : Nat := 0
def PySem.W.Fast.tw6581453404079557170 : Nat := 0
def PySem.W.Fast.tw16573708024740406867 : Nat := 0
def PySem.W.Fast.tw4410750248832413054 : Nat := 0
def PySem.W.Fast.tw13958420900985658337 : Nat := 0
def PySem.W.Fast.tw8403685304870029865 : Nat := 0
def PySem.W.Fast.tw1633939450775414116 : Nat := 0
def PySem.W.Fast.tw11481767487653009426 : Nat := 0
def PySem.W.Fast.tw1067858732415187113 : Nat := 0
def PySem.W.Fast.tw4948551807494263145 : Nat := 0
def PySem.W.Fast.tw12301358471451496510 : Nat := 0
def PySem.W.Fast.tw6630125652963477291 : Nat := 0
def PySem.W.Fast.tw1955458591427033418 : Nat := 0
def PySem.W.Fast.tw3036085986327165218 : Nat := 0
def PySem.W.Fast.tw259419777097234936 : Nat := 0
def PySem.W.Fast.tw14990094838091768480 : Nat := 0
def PySem.W.Fast.tw18316592744406035233 : Nat := 0
def PySem.W.Fast.tw510671655597589872 : Nat := 0
def PySem.W.Fast.tw3087335649707027195 : Nat := 0
def PySem.W.Fast.tw15762717483508535785 : Nat := 0
def PySem.W.Fast.tw16871077351623988692 : Nat := 0
def PySem.W.Fast.tw12770387538897314918 : Nat := 0
def PySem.W.Fast.tw1369881314393532313 : Nat := 0
def PySem.W.Fast.tw3162608733272139245 : Nat := 0
def PySem.W.Fast.tw13009926752686572571 : Nat := 0
def PySem.W.Fast.tw3306752433100439502 : Nat := 0
def PySem.W.Fast.tw1715401278658763456 : Nat := 0
def PySem.W.Fast.tw5241175841684042435 : Nat := 0
def PySem.W.Fast.tw7071408692589283592 : Nat := 0
def PySem.W.Fast.tw2781510636103278662 : Nat := 0
def PySem.W.Fast.tw3217877054820863217 : Nat := 0
def PySem.W.Fast.tw17779129487725474737 : Nat := 0
def PySem.W.Fast.tw8615012786708356568 : Nat := 0
def PySem.W.Fast.tw17298673021289152697 : Nat := 0
def PySem.W.Fast.tw10437554165336228287 : Nat := 0
def PySem.W.Fast.tw14816455274109832260 : Nat := 0
def PySem.W.Fast.tw5263959571341133362 : Nat := 0
def PySem.W.Fast.tw5825827231427894239 : Nat := 0
def PySem.W.Fast.tw2964609086862126609 : Nat := 0
def PySem.W.Fast.tw6640582116610198556 : Nat := 0
def PySem.W.Fast.tw7782933935076755130 : Nat := 0
def PySem.W.Fast.tw1012530212847224934 : Nat := 0
def PySem.W.Fast.tw17342384458149128013 : Nat := 0
def PySem.W.Fast.tw6257985781317972765 : Nat := 0
def PySem.W.Fast.tw4928366661408244128 : Nat := 0
def PySem.W.Fast.tw541972044099810740 : Nat := 0
def PySem.W.Fast.tw41509583265064476 : Nat := 0
def PySem.W.Fast.tw15744296943632897742 : Nat := 0
def PySem.W.Fast.tw8841924543811684067 : Nat := 0
def PySem.W.Fast.tw9720972032211789374 : Nat := 0
def PySem.W.Fast.tw14430511668382467933 : Nat := 0
def PySem.W.Fast.tw11475981878201534572 : Nat := 0
def PySem.W.Fast.tw9201016559216113695 : Nat := 0
def PySem.W.Fast.tw929385257687448729 : Nat := 0
def PySem.W.Fast.tw2508726592334493028 : Nat := 0
def PySem.W.Fast.tw4438246498973471382 : Nat := 0
def PySem.W.Fast.tw1648777677097400702 : Nat := 0
def PySem.W.Fast.tw9741649811543153228 : Nat := 0
def PySem.W.Fast.tw14782510518689211721 : Nat := 0
def PySem.W.Fast.tw15467212301489083173 : Nat := 0
def PySem.W.Fast.tw6743548671140230439 : Nat := 0
def PySem.W.Fast.tw5398632284881835735 : Nat := 0
def PySem.W.Fast.tw15367139178314512242 : Nat := 0
def PySem.W.Fast.tw10358722531059038248 : Nat := 0
def PySem.W.Fast.tw8874025131478026254 : Nat := 0
def PySem.W.Fast.tw8184252595802530948 : Nat := 0
def PySem.W.Fast.tw2649310362548799429 : Nat := 0
def PySem.W.Fast.tw3210911002131027176 : Nat := 0
def PySem.W.Fast.tw5187678790828818704 : Nat := 0
def PySem.W.Fast.tw4618225539319273279 : Nat := 0
def PySem.W.Fast.tw5278932339735911395 : Nat := 0
def PySem.W.Fast.tw13162046471341107402 : Nat := 0
def PySem.W.Fast.tw8952417552897225111 : Nat := 0
def PySem.W.Fast.tw808122930227637928 : Nat := 0
def PySem.W.Fast.tw17399084937879981318 : Nat := 0
def PySem.W.Fast.tw12069211984287642896 : Nat := 0
def PySem.W.Fast.tw16549507403468866856 : Nat := 0
def PySem.W.Fast.tw13511801906931377093 : Nat := 0
def PySem.W.Fast.tw11520761579374207233 : Nat := 0
def PySem.W.Fast.tw8305389410908749 : Nat := 0
def PySem.W.Fast.tw9578923129448064720 : Nat := 0
def PySem.W.Fast.tw6056178687566421928 : Nat := 0
def PySem.W.Fast.tw915880783056575896 : Nat := 0
def PySem.W.Fast.tw8050699126371892416 : Nat := 0
def PySem.W.Fast.tw14693428760530249351 : Nat := 0
def PySem.W.Fast.tw16623746950254363931 : Nat := 0
def PySem.W.Fast.tw14256629385875035408 : Nat := 0
def PySem.W.Fast.tw8318205773716502189 : Nat := 0
def PySem.W.Fast.tw18047110681202569570 : Nat := 0
def PySem.W.Fast.tw12904390126498104165 : Nat := 0
def PySem.W.Fast.tw526600133973017341 : Nat := 0
def PySem.W.Fast.tw7703179756914356503 : Nat := 0
def PySem.W.Fast.tw5167584188318932983 : Nat := 0
def PySem.W.Fast.tw15370578397106455287 : Nat := 0
def PySem.W.Fast.tw10069010030339176062 : Nat := 0
def PySem.W.Fast.tw13036157584385204304 : Nat := 0
def PySem.W.Fast.tw16917899627997570900 : Nat := 0
def PySem.W.Fast.tw9922547384218630028 : Nat := 0
def PySem.W.Fast.tw14207519704196799696 : Nat := 0
def PySem.W.Fast.tw18284701832084473388 : Nat := 0
def PySem.W.Fast.tw6682308327058334834 : Nat := 0
def PySem.W.Fast.tw8612848981155772229 : Nat := 0
def PySem.W.Fast.tw4421639521589436763 : Nat := 0
def PySem.W.Fast.tw13696932359839114459 : Nat := 0
def PySem.W.Fast.tw17382556258918705831 : Nat := 0
def PySem.W.Fast.tw13235825583860886857 : Nat := 0
def PySem.W.Fast.tw10481986078710711017 : Nat := 0
def PySem.W.Fast.tw13571189145060591255 : Nat := 0
def PySem.W.Fast.tw15074673502986572174 : Nat := 0
def PySem.W.Fast.tw8742373232095221184 : Nat := 0
def PySem.W.Fast.tw14675064268465782679 : Nat := 0
def PySem.W.Fast.tw6532755609638539123 : Nat := 0
def PySem.W.Fast.tw13387316376765332703 : Nat := 0
def PySem.W.Fast.tw9531941531926002627 : Nat := 0
def PySem.W.Fast.tw16543022570653503716 : Nat := 0
def PySem.W.Fast.tw9403702053369596037 : Nat := 0
def PySem.W.Fast.tw16213610195489477399 : Nat := 0
def PySem.W.Fast.tw12108496202433635264 : Nat := 0
def PySem.W.Fast.tw14779928021905478273 : Nat := 0
def PySem.W.Fast.tw16838946110025599596 : Nat := 0
def PySem.W.Fast.tw5664912816387056614 : Nat := 0
def PySem.W.Fast.tw5584704829301077949 : Nat := 0
def PySem.W.Fast.tw3162065319553944768 : Nat := 0
def PySem.W.Fast.tw16604071256139658179 : Nat := 0
def PySem.W.Fast.tw10371728067763285550 : Nat := 0
def PySem.W.Fast.tw12601496868701033899 : Nat := 0
def PySem.W.Fast.tw7392854638182281110 : Nat := 0
def PySem.W.Fast.tw14075202590733811514 : Nat := 0
def PySem.W.Fast.tw67707676917932053 : Nat := 0
def PySem.W.Fast.tw14098727439229757589 : Nat := 0
def PySem.W.Fast.tw10250772755677526709 : Nat := 0
def PySem.W.Fast.tw7669214897339013373 : Nat := 0
def PySem.W.Fast.tw3094964319959932445 : Nat := 0
def PySem.W.Fast.tw13577835793010790816 : Nat := 0
def PySem.W.Fast.tw18074119419591506225 : Nat := 0
def PySem.W.Fast.tw14360490153130691706 : Nat := 0
def PySem.W.Fast.tw10683357589242372560 : Nat := 0
def PySem.W.Fast.tw12481931086906520856 : Nat := 0
def PySem.W.Fast.tw11099696113495513139 : Nat := 0
def PySem.W.Fast.tw10519814644363103404 : Nat := 0
def PySem.W.Fast.tw8431931514869721238 : Nat := 0
def PySem.W.Fast.tw10358165310746585023 : Nat := 0
def PySem.W.Fast.tw7909588689236139829 : Nat := 0
def PySem.W.Fast.tw14268432430494859935 : Nat := 0
def PySem.W.Fast.tw6906721437697704432 : Nat := 0
def PySem.W.Fast.tw5347602935702395094 : Nat := 0
def PySem.W.Fast.tw16505109631182665555 : Nat := 0
def PySem.W.Fast.tw2605139145264665425 : Nat := 0
def PySem.W.Fast.tw4590920360498964856 : Nat := 0
def PySem.W.Fast.tw13827402765394201762 : Nat := 0
def PySem.W.Fast.tw3622260117864795461 : Nat := 0
def PySem.W.Fast.tw13268456463510907721 : Nat := 0
def PySem.W.Fast.tw16361616822629900741 : Nat := 0
def PySem.W.Fast.tw10698040392777313301 : Nat := 0
def PySem.W.Fast.tw2004087950697314183 : Nat := 0
def PySem.W.Fast.tw10910990300498263387 : Nat := 0
def PySem.W.Fast.tw15706039001589404705 : Nat := 0
def PySem.W.Fast.tw7384041764725467911 : Nat := 0
def PySem.W.Fast.tw18320930230246379989 : Nat := 0
def PySem.W.Fast.tw8149746615019193688 : Nat := 0
def PySem.W.Fast.tw11174645037344387525 : Nat := 0
def PySem.W.Fast.tw8898730977872281025 : Nat := 0
def PySem.W.Fast.tw17729159361466869082 : Nat := 0
def PySem.W.Fast.tw6187172158952065587 : Nat := 0
def PySem.W.Fast.tw3081566487174949024 : Nat := 0
def PySem.W.Fast.tw17325110787989853669 : Nat := 0
def PySem.W.Fast.tw9574540221103028264 : Nat := 0
def PySem.W.Fast.tw589907312337903817 : Nat := 0
def PySem.W.Fast.tw13469495360160767129 : Nat := 0
def PySem.W.Fast.tw13501433488018142459 : Nat := 0
def PySem.W.Fast.tw6383322773844769875 : Nat := 0
def PySem.W.Fast.tw13419606509432263292 : Nat := 0
def PySem.W.Fast.tw14239169806959552101 : Nat := 0
def PySem.W.Fast.tw6207138542947509913 : Nat := 0
def PySem.W.Fast.tw7807439635851919286 : Nat := 0
def PySem.W.Fast.tw5499124052399265614 : Nat := 0
def PySem.W.Fast.tw13263560274691964548 : Nat := 0
def PySem.W.Fast.tw10644061089962848744 : Nat := 0
def PySem.W.Fast.tw16269251368890363693 : Nat := 0
def PySem.W.Fast.tw659136092185716152 : Nat := 0
def PySem.W.Fast.tw2965465619782694483 : Nat := 0
def PySem.W.Fast.tw16783050721060875823 : Nat := 0
def PySem.W.Fast.tw3832077250649288647 : Nat := 0
def PySem.W.Fast.tw1804076115536447366 : Nat := 0
def PySem.W.Fast.tw3640343779978645673 : Nat := 0
def PySem.W.Fast.tw6014605556084978943 : Nat := 0
def PySem.W.Fast.tw4100706997627374556 : Nat := 0
def PySem.W.Fast.tw10113933824911321846 : Nat := 0
def PySem.W.Fast.tw9266844299362266119 : Nat := 0
def PySem.W.Fast.tw2856513801917336910 : Nat := 0
def PySem.W.Fast.tw12814335184439979852 : Nat := 0
def PySem.W.Fast.tw17337186129893553886 : Nat := 0
def PySem.W.Fast.tw8551385801387428312 : Nat := 0
def PySem.W.Fast.tw999402948373543133 : Nat := 0
def PySem.W.Fast.tw1239359601748267812 : Nat := 0
def PySem.W.Fast.tw6412018732885878536 : Nat := 0
def PySem.W.Fast.tw2150007339959471762 : Nat := 0
def PySem.W.Fast.tw9257111015437220793 : Nat := 0
def PySem.W.Fast.tw937054307623374894 : Nat := 0
def PySem.W.Fast.tw1967757300420815703 : Nat := 0
def PySem.W.Fast.tw1515604547462615630 : Nat := 0
def PySem.W.Fast.tw7759700156251206810 : Nat := 0
def PySem.W.Fast.tw17883586415378087588 : Nat := 0
def PySem.W.Fast.tw6325792291015163131 : Nat := 0
def PySem.W.Fast.tw6916402374832746495 : Nat := 0
def PySem.W.Fast.tw12319984900067824370 : Nat := 0
def PySem.W.Fast.tw9718118028299393876 : Nat := 0
def PySem.W.Fast.tw14551841195750666200 : Nat := 0
def PySem.W.Fast.tw17171039193896727320 : Nat := 0
def PySem.W.Fast.tw4890054078070992243 : Nat := 0
def PySem.W.Fast.tw13861099706901470041 : Nat := 0
def PySem.W.Fast.tw14644337646366879597 : Nat := 0
def PySem.W.Fast.tw17123823778940161211 : Nat := 0
def PySem.W.Fast.tw15827240052898567141 : Nat := 0
def PySem.W.Fast.tw3085831402493570107 : Nat := 0
def PySem.W.Fast.tw4326306681979348015 : Nat := 0
def PySem.W.Fast.tw11381597252731185800 : Nat := 0
def PySem.W.Fast.tw6524084153462952721 : Nat := 0
def PySem.W.Fast.tw8982450844764806932 : Nat := 0
def PySem.W.Fast.tw10895158006098410217 : Nat := 0
def PySem.W.Fast.tw11710293894399931199 : Nat := 0
def PySem.W.Fast.tw3777485868060902194 : Nat := 0
def PySem.W.Fast.tw18037827338719932534 : Nat := 0
def PySem.W.Fast.tw6205319623541579923 : Nat := 0
def PySem.W.Fast.tw6309907833137846961 : Nat := 0
def PySem.W.Fast.tw9641956912482845804 : Nat := 0
def PySem.W.Fast.tw6049354480081197338 : Nat := 0
def PySem.W.Fast.tw15063941102516135464 : Nat := 0
def PySem.W.Fast.tw9866181485126117180 : Nat := 0
def PySem.W.Fast.tw10049851743424273399 : Nat := 0
def PySem.W.Fast.tw3251465378553441453 : Nat := 0
def PySem.W.Fast.tw8310033795925097435 : Nat := 0
def PySem.W.Fast.tw5713658456678289015 : Nat := 0
def PySem.W.Fast.tw18161775248882972452 : Nat := 0
def PySem.W.Fast.tw15117383624655911638 : Nat := 0
def PySem.W.Fast.tw14382503495422387835 : Nat := 0
def PySem.W.Fast.tw7035019636113657786 : Nat := 0
def PySem.W.Fast.tw5596967409008799477 : Nat := 0
def PySem.W.Fast.tw5403289499588070834 : Nat := 0
def PySem.W.Fast.tw13363412197355605390 : Nat := 0
def PySem.W.Fast.tw7795874473215237643 : Nat := 0
def PySem.W.Fast.tw8978243233355681991 : Nat := 0
def PySem.W.Fast.tw3061886364851954223 : Nat := 0
def PySem.W.Fast.tw11374626927198307373 : Nat := 0
def PySem.W.Fast.tw3613564756339668460 : Nat := 0
def PySem.W.Fast.tw13142036637605743490 : Nat := 0
def PySem.W.Fast.tw4317402354196756736 : Nat := 0
def PySem.W.Fast.tw9998101030250094802 : Nat := 0
def PySem.W.Fast.tw2043195802439527283 : Nat := 0
def PySem.W.Fast.tw2698259194794385837 : Nat := 0
def PySem.W.Fast.tw3248462862293850373 : Nat := 0
def PySem.W.Fast.tw15767531717077836921 : Nat := 0
def PySem.W.Fast.tw8450562797962780799 : Nat := 0
def PySem.W.Fast.tw12444890194914984887 : Nat := 0
def PySem.W.Fast.tw16088125699796391279 : Nat := 0
def PySem.W.Fast.tw18338520513923451958 : Nat := 0
def PySem.W.Fast.tw5406860668964539930 : Nat := 0
def PySem.W.Fast.tw16866032402610342671 : Nat := 0
def PySem.W.Fast.tw8731522538437518086 : Nat := 0
def PySem.W.Fast.tw6591973065889831312 : Nat := 0
def PySem.W.Fast.tw10226687981495204774 : Nat := 0
def PySem.W.Fast.tw14113784848756498676 : Nat := 0
def PySem.W.Fast.tw12546570316161825164 : Nat := 0
def PySem.W.Fast.tw12583300107317023128 : Nat := 0
def PySem.W.Fast.tw9734019556434216339 : Nat := 0
def PySem.W.Fast.tw13038326176852087987 : Nat := 0
def PySem.W.Fast.tw3967632038505377596 : Nat := 0
def PySem.W.Fast.tw3466148909441238732 : Nat := 0
def PySem.W.Fast.tw3695668816448740002 : Nat := 0
def PySem.W.Fast.tw12945213012054385354 : Nat := 0
def PySem.W.Fast.tw10231942391011489759 : Nat := 0
def PySem.W.Fast.tw10849081101581187577 : Nat := 0
def PySem.W.Fast.tw6327710310462097214 : Nat := 0
def PySem.W.Fast.tw3899990879382656809 : Nat := 0
def PySem.W.Fast.tw11730143286470346266 : Nat := 0
def PySem.W.Fast.tw2144697354104675310 : Nat := 0
def PySem.W.Fast.tw3103878775717232451 : Nat := 0
def PySem.W.Fast.tw2756834170409769239 : Nat := 0
def PySem.W.Fast.tw3766108718928508955 : Nat := 0
def PySem.W.Fast.tw5691689942972679781 : Nat := 0
def PySem.W.Fast.tw11047789376243215426 : Nat := 0
def PySem.W.Fast.tw16506987623833277813 : Nat := 0
def PySem.W.Fast.tw12673972681859529816 : Nat := 0
def PySem.W.Fast.tw4475892817686109556 : Nat := 0
def PySem.W.Fast.tw16807558301013759655 : Nat := 0
def PySem.W.Fast.tw641116731254704959 : Nat := 0
def PySem.W.Fast.tw11395035948806932741 : Nat := 0
def PySem.W.Fast.tw5993142341593952957 : Nat := 0
def PySem.W.Fast.tw5496602437901264328 : Nat := 0
def PySem.W.Fast.tw13234731237709492509 : Nat := 0
def PySem.W.Fast.tw4772915735708002325 : Nat := 0
def PySem.W.Fast.tw10305235931642294092 : Nat := 0
def PySem.W.Fast.tw8032420507305611603 : Nat := 0
def PySem.W.Fast.tw16992489067456543511 : Nat := 0
def PySem.W.Fast.tw3192631451984592025 : Nat := 0
def PySem.W.Fast.tw16488771117449209157 : Nat := 0
def PySem.W.Fast.tw2010460810178498894 : Nat := 0
def PySem.W.Fast.tw2345163807714798180 : Nat := 0
def PySem.W.Fast.tw16003618580240235283 : Nat := 0
def PySem.W.Fast.tw8834139381656053808 : Nat := 0
def PySem.W.Fast.tw1091713859370664109 : Nat := 0
def PySem.W.Fast.tw7336646238340202450 : Nat := 0
def PySem.W.Fast.tw6669062645613928254 : Nat := 0
def PySem.W.Fast.tw5919481443239760187 : Nat := 0
def PySem.W.Fast.tw7913385702290848166 : Nat := 0
def PySem.W.Fast.tw1620588330288461742 : Nat := 0
def PySem.W.Fast.tw2148611652391398620 : Nat := 0
def PySem.W.Fast.tw13937998423625725061 : Nat := 0
def PySem.W.Fast.tw8441118909043846183 : Nat := 0
def PySem.W.Fast.tw4179216345033388150 : Nat := 0
def PySem.W.Fast.tw11240429392481681322 : Nat := 0
def PySem.W.Fast.tw1665712837490409724 : Nat := 0
def PySem.W.Fast.tw14830046421418444641 : Nat := 0
def PySem.W.Fast.tw2373674025668279600 : Nat := 0
def PySem.W.Fast.tw16674513505803701941 : Nat := 0
def PySem.W.Fast.tw14859144164904720309 : Nat := 0
def PySem.W.Fast.tw11844907827768396756 : Nat := 0
def PySem.W.Fast.tw13650539229460376031 : Nat := 0
def PySem.W.Fast.tw17867348334772563979 : Nat := 0
def PySem.W.Fast.tw6228332842190629567 : Nat := 0
def PySem.W.Fast.tw1704104430662453771 : Nat := 0
def PySem.W.Fast.tw10057906971744734711 : Nat := 0
def PySem.W.Fast.tw14990541252189639319 : Nat := 0
def PySem.W.Fast.tw17879547760861343090 : Nat := 0
def PySem.W.Fast.tw10539724567497709354 : Nat := 0
def PySem.W.Fast.tw15400374249192583080 : Nat := 0
def PySem.W.Fast.tw16885975691661368251 : Nat := 0
def PySem.W.Fast.tw14709267927949157135 : Nat := 0
def PySem.W.Fast.tw3057229985514662969 : Nat := 0
def PySem.W.Fast.tw10988147133268544266 : Nat := 0
def PySem.W.Fast.tw4398522927149391319 : Nat := 0
def PySem.W.Fast.tw8403072268081929555 : Nat := 0
def PySem.W.Fast.tw7927009314617742028 : Nat := 0
def PySem.W.Fast.tw12299025835525794122 : Nat := 0
def PySem.W.Fast.tw1186845911422923868 : Nat := 0
def PySem.W.Fast.tw4602173647760458257 : Nat := 0
def PySem.W.Fast.tw9232409711525124564 : Nat := 0
def PySem.W.Fast.tw13024302864125160980 : Nat := 0
def PySem.W.Fast.tw6060560962731943260 : Nat := 0
def PySem.W.Fast.tw13055344245595428878 : Nat := 0
def PySem.W.Fast.tw12542101038798113779 : Nat := 0
def PySem.W.Fast.tw15437102045496720311 : Nat := 0
def PySem.W.Fast.tw1545482780920227076 : Nat := 0
def PySem.W.Fast.tw3921650570200265374 : Nat := 0
def PySem.W.Fast.tw17152998097183783285 : Nat := 0
def PySem.W.Fast.tw6138489941039686716 : Nat := 0
def PySem.W.Fast.tw13987547633537566144 : Nat := 0
def PySem.W.Fast.tw13155024596052529557 : Nat := 0
def PySem.W.Fast.tw8690092516994314214 : Nat := 0
def PySem.W.Fast.tw4672017747035626077 : Nat := 0
def PySem.W.Fast.tw14518268814372820944 : Nat := 0
def PySem.W.Fast.tw9188221840886716871 : Nat := 0
def PySem.W.Fast.tw17814604921417247416 : Nat := 0
def PySem.W.Fast.tw12226121369246956195 : Nat := 0
def PySem.W.Fast.tw3104614308259590758 : Nat := 0
def PySem.W.Fast.tw7791393792389622140 : Nat := 0
def PySem.W.Fast.tw17079021904948447067 : Nat := 0
def PySem.W.Fast.tw12647218248001374844 : Nat := 0
def PySem.W.Fast.tw7722288533274849228 : Nat := 0
set_option Elab.async false
set_option linter.all false
set_option maxRecDepth 100000
set_option maxHeartbeats 1000000
namespace K2
open PySem PySem.Spec L2 CT
open PyProof.Rows hiding St
def top (i : Nat) : Stmt := PySem.Challenge.pw_carrytower_k02_no_rounds.main.body.getD i (.Pass ⟨0, 0, 0, 0⟩)
abbrev sIsWhole : Stmt := top 10
abbrev sProduct : Stmt := top 11
abbrev sAre : Stmt := top 12
abbrev sInit : Stmt := inClass (top 14) 0
abbrev sCell : Stmt := top 16
abbrev sWhole : Stmt := top 17
abbrev sSame : Stmt := top 18
abbrev sNumber : Stmt := top 19
abbrev sOdd : Stmt := top 20
abbrev sDue : Stmt := top 21
abbrev sRefused : Stmt := top 22
abbrev sLaw : Stmt := top 23
local macro_rules | `(tactic| walk_at "v") => `(tactic| first
  | exact de_var (i := 0) rfl (by first | exact Or.inl rfl | exact Or.inr (Or.inl rfl)) rfl
  | exact de_var (i := 1) rfl (by first | exact Or.inl rfl | exact Or.inr (Or.inl rfl)) rfl
  | exact de_var (i := 2) rfl (by first | exact Or.inl rfl | exact Or.inr (Or.inl rfl)) rfl
  | exact de_var (i := 3) rfl (by first | exact Or.inl rfl | exact Or.inr (Or.inl rfl)) rfl
  | exact de_var (i := 4) rfl (by first | exact Or.inl rfl | exact Or.inr (Or.inl rfl)) rfl
  | exact de_var (i := 5) rfl (by first | exact Or.inl rfl | exact Or.inr (Or.inl rfl)) rfl)
local macro_rules | `(tactic| walk_at "c") => `(tactic| first
  | exact de_cv (by assumption) (i := 0) rfl rfl
  | exact de_cv (by assumption) (i := 1) rfl rfl
  | exact de_cv (by assumption) (i := 2) rfl rfl
  | exact de_cv (by assumption) (i := 3) rfl rfl)
structure Bl (mg : Str → Option Value) : Prop where
  isinstance : mg "isinstance" = none
  int : mg "int" = none
  bool : mg "bool" = none
  list : mg "list" = none
  tuple : mg "tuple" = none
  all : mg "all" = none
  len : mg "len" = none
  range : mg "range" = none
  sum : mg "sum" = none
  verr : mg "ValueError" = none
section
variable {P : Program} {w : World} {K : PySem.W.Frag} {mg : Str → Option Value} {base : Heap}
theorem scIsWhole : FnScope ["thing"] ["thing"] (defScope sIsWhole) := ⟨rfl, rfl, rfl, by decide +kernel, rfl, by decide +kernel, by decide +kernel⟩
def pWhole (ds : List D) (d : D) : Prop := ∃ x, ds = [x] ∧ tyN x ≠ none ∧ d = .bl (isW x)
theorem ok_isWhole {f : Addr} {fd : FuncData} (F : Fun K "is_whole" "is_whole" sIsWhole f fd) (B : Bl mg) : FnOk P w K mg base CX0 1 f fd ["thing"] (spD K pWhole) := by
  refine fn_D F scIsWhole (fun ds d ⟨i, e, _⟩ => by rw [e]; rfl) fun cdv A outer s H E ds d hr ⟨x, e1, hx, e2⟩ => ⟨.rt d, rfl, ?_⟩
  subst e1 e2
  refine dss_end (ds_ret (DE.to (de_and (p := isiN x "int") (q := !isiN x "bool") ?_ fun _ => de_one (de_not ?_)) ?_)) trivial
  · exact de_isiN hx .int rfl B.isinstance (by walk_at "v") (de_ty rfl B.int boot_int')
  · exact de_isiN hx .bool rfl B.isinstance (by walk_at "v") (de_ty rfl B.bool boot_bool')
  · rw [isW_isi hx]
theorem scWhole : FnScope ["_law_found"] ["_law_found"] (defScope sWhole) := ⟨rfl, rfl, rfl, by decide +kernel, rfl, by decide +kernel, by decide +kernel⟩
theorem ok_whole {f : Addr} {fd : FuncData} (F : Fun K "_law_whole" "_law_whole" sWhole f fd) (B : Bl mg) : FnOk P w K mg base CX0 1 f fd ["_law_found"] (spD K pWhole) := by
  refine fn_D F scWhole (fun ds d ⟨i, e, _⟩ => by rw [e]; rfl) fun cdv A outer s H E ds d hr ⟨x, e1, hx, e2⟩ => ⟨.rt d, rfl, ?_⟩
  subst e1 e2
  refine dss_end (ds_ret (DE.to (de_and (p := isiN x "int") (q := !isiN x "bool") ?_ fun _ => de_one (de_not ?_)) ?_)) trivial
  · exact de_isiN hx .int rfl B.isinstance (by walk_at "v") (de_ty rfl B.int boot_int')
  · exact de_isiN hx .bool rfl B.isinstance (by walk_at "v") (de_ty rfl B.bool boot_bool')
  · rw [isW_isi hx]
/-! ### product -/
theorem scProduct : FnScope ["numbers", "whole", "n"] ["numbers"] (defScope sProduct) := ⟨rfl, rfl, rfl, by decide +kernel, rfl, by decide +kernel, by decide +kernel⟩
def prod : List Int → Int := List.foldl (· * ·) 1
theorem prod_snoc (l : List Int) (a : Int) : prod (l ++ [a]) = prod l * a := by
  show List.foldl (· * ·) 1 (l ++ [a]) = _
  rw [List.foldl_append]; rfl
/-- few numbers, not too great -/
def Fit (ns : List Int) : Prop := ns.length ≤ 50 ∧ ∀ n ∈ ns, n.natAbs < 2 ^ 1000
theorem pow_le {a b : Nat} (h : a ≤ b) : 2 ^ a ≤ 2 ^ b := Nat.pow_le_pow_right (by decide) h
theorem prod_bits : ∀ (n : Nat) (l : List Int), l.length = n → (∀ x ∈ l, x.natAbs < 2 ^ 1000) → (prod l).natAbs < 2 ^ (1000 * n + 1)
  | 0, [], _, _ => by show (1 : Int).natAbs < 2 ^ 1; decide
  | n + 1, l, hl, h => by
    have hne : l ≠ [] := fun z => by rw [z] at hl; cases hl
    obtain ⟨r, a, rfl⟩ : ∃ r a, l = r ++ [a] := ⟨l.dropLast, l.getLast hne, (List.dropLast_concat_getLast hne).symm⟩
    have hr : r.length = n := by simpa using hl
    have ih := prod_bits n r hr fun x hx => h x (by simp [hx])
    have ha := h a (by simp)
    rw [prod_snoc, Int.natAbs_mul]
    have : 1000 * (n + 1) + 1 = (1000 * n + 1) + 1000 := by omega
    rw [this, Nat.pow_add]
    exact Nat.mul_lt_mul'' ih ha
theorem prod_fit {l : List Int} (hl : l.length ≤ 50) (h : ∀ x ∈ l, x.natAbs < 2 ^ 1000) : (prod l).natAbs < 2 ^ 100000 :=
  Nat.lt_of_lt_of_le (prod_bits _ l rfl h) (pow_le (by omega))
def pProduct (ds : List D) (d : D) : Prop := ∃ t ns, ds = [t] ∧ Sq t (intsD ns) ∧ Fit ns ∧ d = .int (prod ns)
theorem ok_product {f : Addr} {fd : FuncData} (F : Fun K "product" "product" sProduct f fd) : FnOk P w K mg base CX0 1 f fd ["numbers"] (spD K pProduct) := by
  refine fn_D F scProduct (fun ds d ⟨t, ns, e, _⟩ => by rw [e]; rfl) fun cdv A outer s H E ds d hr ⟨t, ns, e1, q, sm, e2⟩ => ⟨.rt d, rfl, ?_⟩
  subst e1 e2
  refine dss_cons (ds_set (i := 1) scProduct.nd rfl (Or.inl rfl) de_int) ?_
  refine dss_cons (ds_for PassesOwn.never rfl (di_sq q (by walk_at "v")) (forO_by (g := D.int) (fun done => [.val t, .val (.int (prod done)), lastS D.int .nil done]) ns fun done a rest e => ?_)) ?_
  · refine ⟨_, _, _, dg_name (k := 2) scProduct.nd rfl (Or.inl rfl), tg_set, dss_cons (ds_set (i := 1) scProduct.nd rfl (Or.inl rfl) (de_mulB ⟨prod_fit ?_ ?_, Nat.lt_of_lt_of_le (sm.2 a (by rw [e]; simp)) (pow_le (by decide))⟩ (by walk_at "v") (by walk_at "v"))) dss_nil, ?_⟩
    · have := sm.1; rw [e, List.length_append, List.length_cons] at this; omega
    · exact fun x hx => sm.2 x (by rw [e]; simp [hx])
    show [Sl.val t, .val (.int (prod done * a)), .val (.int a)] = [.val t, .val (.int (prod (done ++ [a]))), lastS D.int .nil (done ++ [a])]
    rw [lastS_snoc, prod_snoc]
  · exact dss_end (ds_ret (by walk_at "v")) trivial
/-! ### are_rounds -/
structure Gb (K : PySem.W.Frag) (mg : Str → Option Value) (fW fP : Addr) : Prop where
  least : ∃ t, mg "LEAST_ROUND" = some (.int 2 t)
  most : ∃ t, mg "MOST_MEMBERS" = some (.int 144 t)
  isw : mg "is_whole" = some (.ref fW)
  prd : mg "product" = some (.ref fP)
theorem scAre : FnScope ["thing"] ["thing"] (defScope sAre) := ⟨rfl, rfl, rfl, by decide +kernel, rfl, by decide +kernel, by decide +kernel⟩
def ge2 (x : D) : Bool := isW x && decide (2 ≤ intOf x)
/-- are they rounds -/
def arB (x : D) : Bool := match seqOf x with
  | none => false
  | some xs => xs.all ge2 && decide (prod (xs.map intOf) ≤ 144)
/-- a thing, as they are handed in here -/
def Thing (x : D) : Prop := tyN x ≠ none ∧ ∀ xs, seqOf x = some xs → xs.length ≤ 50 ∧ ∀ y ∈ xs, tyN y ≠ none ∧ (intOf y).natAbs < 2 ^ 1000
def pAre (ds : List D) (d : D) : Prop := ∃ x, ds = [x] ∧ Thing x ∧ d = .bl (arB x)
theorem all_ints {xs : List D} (h : ∀ x ∈ xs, isW x = true) : xs = intsD (xs.map intOf) := by
  induction xs with
  | nil => rfl
  | cons x xs ih =>
    show x :: xs = D.int (intOf x) :: intsD (xs.map intOf)
    rw [← intOf_W (h x (by simp)), ← ih fun y hy => h y (by simp [hy])]
theorem ok_are {f fW fP : Addr} {fd fdW fdP : FuncData} (F : Fun K "are_rounds" "are_rounds" sAre f fd) (B : Bl mg) (G : Gb K mg fW fP) (FW : Fun K "is_whole" "is_whole" sIsWhole fW fdW) (bW : Binds K fdW ["thing"] []) (FP : Fun K "product" "product" sProduct fP fdP) (bP : Binds K fdP ["numbers"] []) :
    FnOk P w K mg base CX0 2 f fd ["thing"] (spD K pAre) := by
  refine fn_D F scAre (fun ds d ⟨t, e, _⟩ => by rw [e]; rfl) fun cdv A outer s H E ds d hr ⟨x, e1, ht, e2⟩ => ⟨.rt d, rfl, ?_⟩
  subst e1 e2
  cases hs : seqOf x with
  | none =>
    refine dss_end (ds_if (q := true) (DT.to (dt_not (p := isiN x "list" || isiN x "tuple") (dt_val (de_isiLT ht.1 rfl B.isinstance rfl B.list rfl B.tuple (by walk_at "v")))) (by rw [seq_isi ht.1, hs]; rfl)) (fun _ => dss_end (ds_ret (DE.to de_bl ?_)) trivial) fun z => nomatch z) trivial
    rw [arB, hs]
  | some xs =>
    obtain ⟨hl, hy⟩ := ht.2 xs hs
    have q := Sq.of hs
    refine dss_cons (ds_if (q := false) (DT.to (dt_not (p := isiN x "list" || isiN x "tuple") (dt_val (de_isiLT ht.1 rfl B.isinstance rfl B.list rfl B.tuple (by walk_at "v")))) (by rw [seq_isi ht.1, hs]; rfl)) (fun z => nomatch z) fun _ => dss_nil) ?_
    obtain ⟨t2, ht2⟩ := G.least
    obtain ⟨t144, ht144⟩ := G.most
    have hall : DE (cxOf CX0 P w K mg base ["thing"] "are_rounds" (defScope sAre) f cdv A outer s H E).nox (startR ["thing"] [x]) (match stN (defBody sAre) 1 with | .If (.UnaryOp _ e _) _ _ _ => e | _ => .Constant .none 0 ⟨0, 0, 0, 0⟩) (.bl (xs.all ge2)) := by
      have e : xs.all ge2 = (xs.map ge2).all id := by rw [List.all_map]; rfl
      rw [e]
      refine de_all rfl Sq.l rfl B.all (da_cons (DC.de ?_) da_nil)
      rw [List.map_map]
      refine dc_mapW (sc := defScope sAre) (N := ["thing"]) (own := ["n"]) (cap := []) (k := 0) (l := xs) (g := id) rfl rfl (by decide +kernel) rfl rfl (DI.dI0 (by rw [List.map_id]; exact di_sq q (by walk_at "v"))) (sz (by omega)) fun cs n hn p s h fp => ?_
      refine de_and (p := isW n) (q := decide (2 ≤ intOf n)) ?_ fun z => de_one ?_
      · exact de_call (ok_isWhole FW B) (hr.mono (by decide)) rfl G.isw FW.kp bW (da_cons (by walk_at "c") da_nil) ⟨n, rfl, (hy n hn).1, rfl⟩
      · rw [intOf_W z]
        exact de_ge (by walk_at "c") (de_globI rfl ht2)
    cases hb : xs.all ge2 with
    | false =>
      rw [hb] at hall
      refine dss_end (ds_if (q := true) (dt_not (p := false) (dt_val hall)) (fun _ => dss_end (ds_ret (DE.to de_bl ?_)) trivial) fun z => nomatch z) trivial
      rw [arB, hs]; simp [hb]
    | true =>
      rw [hb] at hall
      refine dss_cons (ds_if (q := false) (dt_not (p := true) (dt_val hall)) (fun z => nomatch z) fun _ => dss_nil) ?_
      have hw : ∀ y ∈ xs, isW y = true := fun y hm => by
        have := List.all_eq_true.mp hb y hm
        rw [ge2, Bool.and_eq_true] at this; exact this.1
      have ei := all_ints hw
      refine dss_end (ds_ret (DE.to (de_le (i := prod (xs.map intOf)) (j := 144) (de_call (ok_product FP) (hr.mono (by decide)) rfl G.prd FP.kp bP (da_cons (by walk_at "v") da_nil) ⟨x, xs.map intOf, rfl, by rw [← ei]; exact q, ⟨by simpa using hl, fun n hn => ?_⟩, rfl⟩) (de_globI rfl ht144)) ?_)) trivial
      · obtain ⟨y, hm, rfl⟩ := List.mem_map.mp hn
        exact (hy y hm).2
      · rw [arB, hs]; simp [hb]
end
end K2
set_option Elab.async false
set_option linter.all false
set_option maxRecDepth 100000
set_option maxHeartbeats 1000000
namespace K2
open PySem PySem.Spec L2 CT
open PyProof.Rows hiding St
local macro_rules | `(tactic| walk_at "v") => `(tactic| first
  | exact de_var (i := 0) rfl (by first | exact Or.inl rfl | exact Or.inr (Or.inl rfl)) rfl
  | exact de_var (i := 1) rfl (by first | exact Or.inl rfl | exact Or.inr (Or.inl rfl)) rfl
  | exact de_var (i := 2) rfl (by first | exact Or.inl rfl | exact Or.inr (Or.inl rfl)) rfl
  | exact de_var (i := 3) rfl (by first | exact Or.inl rfl | exact Or.inr (Or.inl rfl)) rfl
  | exact de_var (i := 4) rfl (by first | exact Or.inl rfl | exact Or.inr (Or.inl rfl)) rfl
  | exact de_var (i := 5) rfl (by first | exact Or.inl rfl | exact Or.inr (Or.inl rfl)) rfl)
local macro_rules | `(tactic| walk_at "c") => `(tactic| first
  | exact de_cv (by assumption) (i := 0) rfl rfl
  | exact de_cv (by assumption) (i := 1) rfl rfl
  | exact de_cv (by assumption) (i := 2) rfl rfl
  | exact de_cv (by assumption) (i := 3) rfl rfl)
section
variable {P : Program} {w : World} {K : PySem.W.Frag} {mg : Str → Option Value} {base : Heap}
/-- the class of groups -/
structure Cl (K : PySem.W.Frag) (C : Addr) : Prop where
  cl : Cls K C
  nR : NoAttr K C "rounds"
/-- a class of errors that is raised -/
structure Xc (K : PySem.W.Frag) (mg : Str → Option Value) (x : Str) (C : Addr) : Prop where
  ex : PySem.W.excIn K C bmV "ValueError.__new__" = true
  kp : PySem.W.keepIn K (.ref C) = true
  gl : mg x = some (.ref C)
  is : XIsi K C
  ty : PySem.W.typeIn K (.ref C) = some (.type "type")
/-! ### __init__ -/
theorem scInit : FnScope ["self", "rounds"] ["self", "rounds"] (defScope sInit) := ⟨rfl, rfl, rfl, by decide +kernel, rfl, by decide +kernel, by decide +kernel⟩
def pInit (CN : Addr) (ds : List D) (r : ResI) : Prop := ∃ x, ds = [x] ∧ Thing x ∧ ((∃ xs, seqOf x = some xs ∧ arB x = true ∧ r = .ok [("rounds", .tup xs)]) ∨ (arB x = false ∧ r = .xc (.exc CN [])))
theorem ok_init {C CN f fA fW fP : Addr} {fd fdA fdW fdP : FuncData} (F : Fun K "__init__" "Rounds.__init__" sInit f fd) (B : Bl mg) (G : Gb K mg fW fP) (T : Cl K C) (N : Xc K mg "NoRounds" CN) (mA : mg "are_rounds" = some (.ref fA)) (FA : Fun K "are_rounds" "are_rounds" sAre fA fdA) (bA : Binds K fdA ["thing"] [])
    (FW : Fun K "is_whole" "is_whole" sIsWhole fW fdW) (bW : Binds K fdW ["thing"] []) (FP : Fun K "product" "product" sProduct fP fdP) (bP : Binds K fdP ["numbers"] []) : FnOk P w K mg base (CXA P w) 3 f fd ["self", "rounds"] (spIR K C (pInit CN)) := by
  refine fn_IR F scInit (fun ds r ⟨x, e, _⟩ => by rw [e]; rfl) (fun cdv A outer s H E ds fs z dx hr ⟨x, e1, ht, h⟩ => ?_) fun cdv A outer s H E ds d z dx hr ⟨x, e1, ht, h⟩ => ?_
  · subst e1
    rcases h with ⟨xs, hs, hb, h⟩ | ⟨_, h⟩
    · cases h
      refine ⟨[.new C z dx [("rounds", .tup xs)], .val x], rfl, ?_⟩
      refine dss_cons (ρ' := [.new C z dx [], .val x]) (ds_if (q := false) (dt_not (p := true) (dt_val ?_)) (fun z => nomatch z) fun _ => dss_nil) ?_
      · exact DE.to (de_call (ok_are FA B G FW bW FP bP) (hr.mono (by decide)) rfl mA FA.kp bA (da_cons (by walk_at "v") da_nil) ⟨x, rfl, ht, rfl⟩) (by rw [hb])
      · exact dss_cons (ds_fld (i := 0) rfl (Or.inl rfl) rfl T.cl T.nR (by decide) (de_tuple (Sq.of hs) rfl B.tuple (da_cons (by walk_at "v") da_nil))) dss_nil
    · cases h
  · subst e1
    rcases h with ⟨xs, hs, hb, h⟩ | ⟨hb, h⟩
    · cases h
    · cases h
      refine ⟨[.new C z dx [], .val x], dsxs_head (dsx_if (q := true) (dt_not (p := false) (dt_val ?_)) (fun _ => dsxs_head (dsx_raise0 N.ex N.kp rfl N.gl N.is.cl N.ty hr.hd)) fun z => nomatch z)⟩
      exact DE.to (de_call (ok_are FA B G FW bW FP bP) (hr.mono (by decide)) rfl mA FA.kp bA (da_cons (by walk_at "v") da_nil) ⟨x, rfl, ht, rfl⟩) (by rw [hb])
/-! ### _law_cell -/
theorem scCell : FnScope ["_law_script", "_law_k", "_law_cell_here", "_law_first"] ["_law_script", "_law_k"] (defScope sCell) := ⟨rfl, rfl, rfl, by decide +kernel, rfl, by decide +kernel, by decide +kernel⟩
def at0 (ns : List Int) (k : Int) : Int := ns.getD (k % (ns.length : Int)).toNat 0
def mixed (c k : Int) : Int :=
  ((c % 1000000007 + 7919 * k + 11) * 48271 % 2147483647 * 69621 + 17 * k) % 2147483629 * 2147483647 + (c % 1000000007 + 7919 * k + 11) * 48271 % 2147483647 * 16807 % 2147483647
def cell (ns : List Int) (k : Int) : Int := if ns.sum % 2 = 1 then at0 ns k else mixed (at0 ns k) k
def pCell (ds : List D) (d : D) : Prop := ∃ ns k, ds = [.lst (intsD ns), .int k] ∧ d = .int (cell ns k)
theorem at0_ix {ns : List Int} {k : Int} (h : 0 < ns.length) : atI (intsD ns) (k % (ns.length : Int)) = some (.int (at0 ns k)) := by
  have h1 : 0 ≤ k % (ns.length : Int) := Int.emod_nonneg _ (by omega)
  have h2 : k % (ns.length : Int) < ns.length := Int.emod_lt_of_pos _ (by omega)
  have e : k % (ns.length : Int) = (((k % (ns.length : Int)).toNat : Nat) : Int) := by omega
  rw [e]
  refine atI_nat ?_
  have h3 : (k % (ns.length : Int)).toNat < ns.length := by omega
  simp [intsD, at0, h3]
theorem ok_cell {f : Addr} {fd : FuncData} (F : Fun K "_law_cell" "_law_cell" sCell f fd) (B : Bl mg) : FnOk P w K mg base CX0 1 f fd ["_law_script", "_law_k"] (spD K pCell) := by
  refine fn_D F scCell (fun ds d ⟨ns, k, e, _⟩ => by rw [e]; rfl) fun cdv A outer s H E ds d hr ⟨ns, k, e1, e2⟩ => ⟨.rt d, rfl, ?_⟩
  subst e1 e2
  have hl : (intsD ns).length = ns.length := by simp
  refine dss_cons (ds_set (i := 2) scCell.nd rfl (Or.inl rfl) de_int) ?_
  refine dss_cons (ρ' := [.val (.lst (intsD ns)), .val (.int k), .val (.int (at0 ns k)), .nil]) (ds_if (q := decide ((0 : Int) < ((intsD ns).length : Int))) (dt_gt (de_len Sq.l rfl B.len (da_cons (by walk_at "v") da_nil)) de_int) (fun z => ?_) fun z => ?_) ?_
  · have hp : 0 < ns.length := by have := of_decide_eq_true z; rw [hl] at this; omega
    refine dss_cons (ds_set (i := 2) scCell.nd rfl (Or.inl rfl) (de_ixL (by walk_at "v") (de_mod (by rw [hl]; omega) (by walk_at "v") (de_len Sq.l rfl B.len (da_cons (by walk_at "v") da_nil))) (by rw [hl]; exact at0_ix hp))) dss_nil
  · have hp : ns = [] := by have := of_decide_eq_false z; rw [hl] at this; exact List.length_eq_zero_iff.mp (by omega)
    subst hp
    exact dss_nil
  by_cases hs : ns.sum % 2 = 1
  · refine dss_end (ds_if (q := true) (DT.to (dt_eqI (de_mod (by decide) (de_sum (ns := ns) rfl rfl B.sum (da_cons (by walk_at "v") da_nil)) de_int) de_int) (decide_eq_true hs)) (fun _ => dss_end (ds_ret (DE.to (by walk_at "v") ?_)) trivial) fun z => nomatch z) trivial
    rw [cell, if_pos hs]
  · refine dss_cons (ds_if (q := false) (DT.to (dt_eqI (de_mod (by decide) (de_sum (ns := ns) rfl rfl B.sum (da_cons (by walk_at "v") da_nil)) de_int) de_int) (decide_eq_false hs)) (fun z => nomatch z) fun _ => dss_nil) ?_
    refine dss_cons (ds_set (i := 3) scCell.nd rfl (Or.inl rfl) (de_mod (by decide) (de_mul (cmR (by decide) (by decide)) (de_add (de_add (de_mod (by decide) (by walk_at "v") de_int) (de_mul (cmL (by decide) (by decide)) de_int (by walk_at "v"))) de_int) de_int) de_int)) ?_
    refine dss_end (ds_ret (DE.to (de_add (de_mul (cmR (by decide) (by decide)) (de_mod (by decide) (de_add (de_mul (cmR (by decide) (by decide)) (by walk_at "v") de_int) (de_mul (cmL (by decide) (by decide)) de_int (by walk_at "v"))) de_int) de_int) (de_mod (by decide) (de_mul (cmR (by decide) (by decide)) (by walk_at "v") de_int) de_int)) ?_)) trivial
    rw [cell, if_neg hs]
    rfl
/-! ### data held against data, _law_same -/
theorem isDatL_ints : ∀ ks : List Int, isDatL (ks.map .int) = true
  | [] => rfl
  | k :: ks => by show (true && isDatL (ks.map .int)) = true; rw [isDatL_ints ks]; rfl
theorem isDat_tupI (ks : List Int) : isDat (tupI ks) = true := isDatL_ints ks
theorem depth_ints : ∀ ks : List Int, PyData.depthAll (toPyL (ks.map .int)) = 0
  | [] => rfl
  | k :: ks => by
    show max (PyData.depth (.int k)) (PyData.depthAll (toPyL (ks.map .int))) = 0
    rw [depth_ints ks]; rfl
theorem depth_tupI (ks : List Int) : (toPy (tupI ks)).depth = 1 := by
  show PyData.depthAll (toPyL (ks.map .int)) + 1 = 1
  rw [depth_ints]
theorem eqD_self {d : D} (h : isDat d = true) : eqD d d = true := SeqAt.eqv_refl _ (dat_lay h)
theorem scSame : FnScope ["_law_found", "_law_due_here"] ["_law_found", "_law_due_here"] (defScope sSame) := ⟨rfl, rfl, rfl, by decide +kernel, rfl, by decide +kernel, by decide +kernel⟩
def pSame (ds : List D) (d : D) : Prop := ∃ ks, ks.length ≤ 1000 ∧ ds = [tupI ks, tupI ks] ∧ d = .bl true
theorem ok_same {f fW : Addr} {fd fdW : FuncData} (F : Fun K "_law_same" "_law_same" sSame f fd) (B : Bl mg) (mW : mg "_law_whole" = some (.ref fW)) (FW : Fun K "_law_whole" "_law_whole" sWhole fW fdW) (bW : Binds K fdW ["_law_found"] []) : FnOk P w K mg base CX0 2 f fd ["_law_found", "_law_due_here"] (spD K pSame) := by
  refine fn_D F scSame (fun ds d ⟨ks, _, e, _⟩ => by rw [e]; rfl) fun cdv A outer s H E ds d hr ⟨ks, hk, e1, e2⟩ => ⟨.rt d, rfl, ?_⟩
  subst e1 e2
  refine dss_cons (ds_if (q := false) (DW.dt (dw_or (p := false) (q := false) (dt_not (p := true) (dt_val ?_)) fun _ => dw_or1 ?_)) (fun z => nomatch z) fun _ => dss_nil) ?_
  · exact de_isi rfl B.isinstance (.tup _) (.ty "tuple") rfl (da_cons (by walk_at "v") (da_cons (de_ty rfl B.tuple boot_tuple') da_nil))
  · exact DT.to (dt_neI (de_len Sq.t rfl B.len (da_cons (by walk_at "v") da_nil)) (de_len Sq.t rfl B.len (da_cons (by walk_at "v") da_nil))) (by simp)
  · refine dss_end (ds_ret (de_and (p := true) (q := true) ?_ fun _ => de_one ?_)) trivial
    · have e : (ks.map fun _ => true).all id = true := by simp
      rw [← e]
      refine de_all rfl Sq.l rfl B.all (da_cons (DC.de ?_) da_nil)
      rw [List.map_map]
      refine dc_mapW (sc := defScope sSame) (N := ["_law_found", "_law_due_here"]) (own := ["_law_number_here"]) (cap := []) (k := 0) (g := D.int) rfl rfl (by decide +kernel) rfl rfl (DI.dI0 (di_tup (by walk_at "v"))) (sz hk) fun cs n hn p s h fp => ?_
      exact de_call (ok_whole FW B) (hr.mono (by decide)) rfl mW FW.kp bW (da_cons (by walk_at "c") da_nil) ⟨.int n, rfl, nofun, rfl⟩
    · refine DE.to (de_eqD (Room.units hr) (isDat_tupI ks) (isDat_tupI ks) ?_ (by walk_at "v") (by walk_at "v")) (by rw [eqD_self (d := tupI ks) (isDatL_ints ks)])
      show min (toPy (tupI ks)).depth (toPy (tupI ks)).depth ≤ 64
      rw [depth_tupI]; decide
/-! ### _law_number -/
def pick (l : List Int) (i : Int) : Int := l.getD i.toNat 0
theorem pick_ix {l : List Int} {i : Int} (h0 : 0 ≤ i) (h1 : i < l.length) : atI (intsD l) i = some (.int (pick l i)) := by
  obtain ⟨n, rfl⟩ := Int.eq_ofNat_of_zero_le h0
  refine atI_nat ?_
  have h3 : n < l.length := by omega
  simp [intsD, pick, h3]
theorem scNumber : FnScope ["_law_cell_here"] ["_law_cell_here"] (defScope sNumber) := ⟨rfl, rfl, rfl, by decide +kernel, rfl, by decide +kernel, by decide +kernel⟩
def numB (c : Int) : Int := if 0 < c % 6 then 2 + c / 6 % pick [3, 3, 11, 30] (c / 600 % 4) else pick [0, 1, -2, 145, 144, 72 + c / 60 % 80, 10 ^ 25, -1 - c / 60 % 10 ^ 9] (c / 6 % 8)
def pNumber (ds : List D) (d : D) : Prop := ∃ c, ds = [.int c] ∧ d = .int (numB c)
theorem pick_pos (i : Int) (h0 : 0 ≤ i) (h1 : i < 4) : 0 < pick [3, 3, 11, 30] i ∧ pick [3, 3, 11, 30] i < 1073741824 := by
  have : i = 0 ∨ i = 1 ∨ i = 2 ∨ i = 3 := by omega
  rcases this with h | h | h | h <;> (subst h; decide)
theorem ok_number {f : Addr} {fd : FuncData} (F : Fun K "_law_number" "_law_number" sNumber f fd) : FnOk P w K mg base CX0 1 f fd ["_law_cell_here"] (spD K pNumber) := by
  refine fn_D F scNumber (fun ds d ⟨c, e, _⟩ => by rw [e]; rfl) fun cdv A outer s H E ds d hr ⟨c, e1, e2⟩ => ⟨.rt d, rfl, ?_⟩
  subst e1 e2
  have m4 : 0 ≤ c / 600 % 4 ∧ c / 600 % 4 < 4 := ⟨Int.emod_nonneg _ (by decide), Int.emod_lt_of_pos _ (by decide)⟩
  have m8 : 0 ≤ c / 6 % 8 ∧ c / 6 % 8 < 8 := ⟨Int.emod_nonneg _ (by decide), Int.emod_lt_of_pos _ (by decide)⟩
  by_cases hc : 0 < c % 6
  · refine dss_end (ds_if (q := true) (DT.to (dt_gt (de_mod (by decide) (by walk_at "v") de_int) de_int) (decide_eq_true hc)) (fun _ => dss_end (ds_ret (DE.to (de_add de_int (de_mod (pick_pos _ m4.1 m4.2).1 (de_fdiv ⟨by decide, by decide⟩ (by walk_at "v") de_int)
      (de_ixL (de_lst (ds := intsD [3, 3, 11, 30]) (da_cons de_int (da_cons de_int (da_cons de_int (da_cons de_int da_nil)))) (by decide)) (de_mod (by decide) (de_fdiv ⟨by decide, by decide⟩ (by walk_at "v") de_int) de_int) (pick_ix m4.1 m4.2)))) ?_)) trivial) fun z => nomatch z) trivial
    rw [numB, if_pos hc]
  · refine dss_cons (ds_if (q := false) (DT.to (dt_gt (de_mod (by decide) (by walk_at "v") de_int) de_int) (decide_eq_false hc)) (fun z => nomatch z) fun _ => dss_nil) ?_
    refine dss_end (ds_ret (DE.to (de_ixL (de_lst (ds := intsD [0, 1, -2, 145, 144, 72 + c / 60 % 80, 10 ^ 25, -1 - c / 60 % 10 ^ 9]) (da_cons de_int (da_cons de_int (da_cons (de_neg de_int) (da_cons de_int (da_cons de_int (da_cons (de_add de_int (de_mod (by decide) (de_fdiv ⟨by decide, by decide⟩ (by walk_at "v") de_int) de_int))
      (da_cons (de_pow ⟨by decide, by decide, by decide⟩ de_int de_int) (da_cons (de_sub (de_neg de_int) (de_mod (by decide) (de_fdiv ⟨by decide, by decide⟩ (by walk_at "v") de_int) (de_pow ⟨by decide, by decide, by decide⟩ de_int de_int))) da_nil)))))))) (sz (by simp))) (de_mod (by decide) (de_fdiv ⟨by decide, by decide⟩ (by walk_at "v") de_int) de_int) (pick_ix m8.1 (by simpa using m8.2))) ?_)) trivial
    rw [numB, if_neg hc]
theorem numB_fit (c : Int) : (numB c).natAbs < 2 ^ 1000 := by
  have big : (2 : Nat) ^ 100 ≤ 2 ^ 1000 := Nat.pow_le_pow_right (by decide) (by decide)
  have m4 : 0 ≤ c / 600 % 4 ∧ c / 600 % 4 < 4 := ⟨Int.emod_nonneg _ (by decide), Int.emod_lt_of_pos _ (by decide)⟩
  have m8 : 0 ≤ c / 6 % 8 ∧ c / 6 % 8 < 8 := ⟨Int.emod_nonneg _ (by decide), Int.emod_lt_of_pos _ (by decide)⟩
  refine Nat.lt_of_lt_of_le ?_ big
  unfold numB
  have e100 : (2 : Nat) ^ 100 = 1267650600228229401496703205376 := by decide
  rw [e100]
  split
  · have hp := pick_pos _ m4.1 m4.2
    have h1 : 0 ≤ c / 6 % pick [3, 3, 11, 30] (c / 600 % 4) := Int.emod_nonneg _ (by omega)
    have h2 : c / 6 % pick [3, 3, 11, 30] (c / 600 % 4) < pick [3, 3, 11, 30] (c / 600 % 4) := Int.emod_lt_of_pos _ hp.1
    omega
  · have e25 : (10 : Int) ^ 25 = 10000000000000000000000000 := by decide
    have e9 : (10 : Int) ^ 9 = 1000000000 := by decide
    have h80 : 0 ≤ c / 60 % 80 ∧ c / 60 % 80 < 80 := ⟨Int.emod_nonneg _ (by decide), Int.emod_lt_of_pos _ (by decide)⟩
    have h9 : 0 ≤ c / 60 % 1000000000 ∧ c / 60 % 1000000000 < 1000000000 := ⟨Int.emod_nonneg _ (by decide), Int.emod_lt_of_pos _ (by decide)⟩
    rw [e25, e9]
    have : c / 6 % 8 = 0 ∨ c / 6 % 8 = 1 ∨ c / 6 % 8 = 2 ∨ c / 6 % 8 = 3 ∨ c / 6 % 8 = 4 ∨ c / 6 % 8 = 5 ∨ c / 6 % 8 = 6 ∨ c / 6 % 8 = 7 := by omega
    rcases this with h | h | h | h | h | h | h | h <;> rw [h]
    · show (0 : Int).natAbs < _; decide
    · show (1 : Int).natAbs < _; decide
    · show (-2 : Int).natAbs < _; decide
    · show (145 : Int).natAbs < _; decide
    · show (144 : Int).natAbs < _; decide
    · show (72 + c / 60 % 80).natAbs < _; omega
    · show (10000000000000000000000000 : Int).natAbs < _; decide
    · show (-1 - c / 60 % 1000000000).natAbs < _; omega
end
end K2
set_option Elab.async false
set_option linter.all false
set_option maxRecDepth 100000
set_option maxHeartbeats 1000000
namespace K2
open PySem PySem.Spec L2 CT
open PyProof.Rows hiding St
local macro_rules | `(tactic| walk_at "v") => `(tactic| first
  | exact de_var (i := 0) rfl (by first | exact Or.inl rfl | exact Or.inr (Or.inl rfl)) rfl
  | exact de_var (i := 1) rfl (by first | exact Or.inl rfl | exact Or.inr (Or.inl rfl)) rfl
  | exact de_var (i := 2) rfl (by first | exact Or.inl rfl | exact Or.inr (Or.inl rfl)) rfl
  | exact de_var (i := 3) rfl (by first | exact Or.inl rfl | exact Or.inr (Or.inl rfl)) rfl
  | exact de_var (i := 4) rfl (by first | exact Or.inl rfl | exact Or.inr (Or.inl rfl)) rfl
  | exact de_var (i := 5) rfl (by first | exact Or.inl rfl | exact Or.inr (Or.inl rfl)) rfl)
local macro_rules | `(tactic| walk_at "c") => `(tactic| first
  | exact de_cv (by assumption) (i := 0) rfl rfl
  | exact de_cv (by assumption) (i := 1) rfl rfl
  | exact de_cv (by assumption) (i := 2) rfl rfl
  | exact de_cv (by assumption) (i := 3) rfl rfl)
section
variable {P : Program} {w : World} {K : PySem.W.Frag} {mg : Str → Option Value} {base : Heap}
/-! ### _law_odd -/
theorem scOdd : FnScope ["_law_cell_here", "_law_things"] ["_law_cell_here"] (defScope sOdd) := ⟨rfl, rfl, rfl, by decide +kernel, rfl, by decide +kernel, by decide +kernel⟩
def odd1 : List D := [.non, .bl true, .int 2, .str "", .str "2x2", .dct [], .tup [], .lst [], .lst [.bl true], .lst [.int 2, .bl true], .lst [.str "2"], .lst [.lst [.int 2]], .lst [.non], .tup [.int 2, .tup [.int 2]], .dct [(.int 2, .int 2)], .lst [.int 2, .lst []]]
def odd2 : List D := [.str "22", .lst [.int 2, .int 2, .str "x"], .tup [.int 144], .lst [.int 145], .lst [.int 12, .int 12], .lst [.int 12, .int 13], .tup [.int 2, .int 2, .int 2, .int 2, .int 2, .int 2, .int 2], .lst (List.replicate 8 (.int 2)), .lst (List.replicate 5 (.int 3))]
def oddB (c : Int) : D := (odd1 ++ odd2).getD (c % 25).toNat .non
def pOdd (ds : List D) (d : D) : Prop := ∃ c, ds = [.int c] ∧ d = oddB c
theorem oddB_mem (c : Int) : oddB c ∈ odd1 ++ odd2 := by
  have h0 : 0 ≤ c % 25 := Int.emod_nonneg _ (by decide)
  have h1 : c % 25 < 25 := Int.emod_lt_of_pos _ (by decide)
  have hl : (c % 25).toNat < (odd1 ++ odd2).length := by show _ < 25; omega
  unfold oddB
  rw [List.getD_eq_getElem?_getD, List.getElem?_eq_getElem hl, Option.getD_some]
  exact List.getElem_mem hl
theorem ok_odd {f : Addr} {fd : FuncData} (F : Fun K "_law_odd" "_law_odd" sOdd f fd) (B : Bl mg) : FnOk P w K mg base CX0 1 f fd ["_law_cell_here"] (spD K pOdd) := by
  refine fn_D F scOdd (fun ds d ⟨c, e, _⟩ => by rw [e]; rfl) fun cdv A outer s H E ds d hr ⟨c, e1, e2⟩ => ⟨.rt d, rfl, ?_⟩
  subst e1
  refine dss_cons (ρ' := [.val (.int c), .val (.lst odd1)]) ?_ ?_
  · refine ds_set (i := 1) (d := .lst odd1) ?_ ?_ ?_ ?_ ?_ ?_
    · exact scOdd.nd
    · rfl
    · exact Or.inl rfl
    · refine de_lst ?_ ?_
      rotate_left
      · decide
      refine da_c ?_ ?_
      · exact de_non
      refine da_c ?_ ?_
      · exact de_bl
      refine da_c ?_ ?_
      · exact de_int
      refine da_c ?_ ?_
      · exact de_str
      refine da_c ?_ ?_
      · exact de_str
      refine da_c ?_ ?_
      · exact de_d0
      refine da_c ?_ ?_
      · refine de_tup ?_ ?_
        rotate_left
        · decide
        exact da_nil
      refine da_c ?_ ?_
      · refine de_lst ?_ ?_
        rotate_left
        · decide
        exact da_nil
      refine da_c ?_ ?_
      · refine de_lst ?_ ?_
        rotate_left
        · decide
        refine da_c ?_ ?_
        · exact de_bl
        exact da_nil
      refine da_c ?_ ?_
      · refine de_lst ?_ ?_
        rotate_left
        · decide
        refine da_c ?_ ?_
        · exact de_int
        refine da_c ?_ ?_
        · exact de_bl
        exact da_nil
      refine da_c ?_ ?_
      · refine de_lst ?_ ?_
        rotate_left
        · decide
        refine da_c ?_ ?_
        · exact de_str
        exact da_nil
      refine da_c ?_ ?_
      · refine de_lst ?_ ?_
        rotate_left
        · decide
        refine da_c ?_ ?_
        · refine de_lst ?_ ?_
          rotate_left
          · decide
          refine da_c ?_ ?_
          · exact de_int
          exact da_nil
        exact da_nil
      refine da_c ?_ ?_
      · refine de_lst ?_ ?_
        rotate_left
        · decide
        refine da_c ?_ ?_
        · exact de_non
        exact da_nil
      refine da_c ?_ ?_
      · refine de_tup ?_ ?_
        rotate_left
        · decide
        refine da_c ?_ ?_
        · exact de_int
        refine da_c ?_ ?_
        · refine de_tup ?_ ?_
          rotate_left
          · decide
          refine da_c ?_ ?_
          · exact de_int
          exact da_nil
        exact da_nil
      refine da_c ?_ ?_
      · exact de_d1 de_int de_int
      refine da_c ?_ ?_
      · refine de_lst ?_ ?_
        rotate_left
        · decide
        refine da_c ?_ ?_
        · exact de_int
        refine da_c ?_ ?_
        · refine de_lst ?_ ?_
          rotate_left
          · decide
          exact da_nil
        exact da_nil
      exact da_nil
    · rfl
    · exact .inl rfl
  refine dss_cons (ρ' := [.val (.int c), .val (.lst (odd1 ++ odd2))]) ?_ ?_
  · refine ds_set (i := 1) (d := .lst (odd1 ++ odd2)) ?_ ?_ ?_ ?_ ?_ ?_
    · exact scOdd.nd
    · rfl
    · exact Or.inl rfl
    · refine de_catL ?_ ?_ ?_
      · walk_at "v"
      · refine de_lst ?_ ?_
        rotate_left
        · decide
        refine da_c ?_ ?_
        · exact de_str
        refine da_c ?_ ?_
        · refine de_lst ?_ ?_
          rotate_left
          · decide
          refine da_c ?_ ?_
          · exact de_int
          refine da_c ?_ ?_
          · exact de_int
          refine da_c ?_ ?_
          · exact de_str
          exact da_nil
        refine da_c ?_ ?_
        · refine de_tup ?_ ?_
          rotate_left
          · decide
          refine da_c ?_ ?_
          · exact de_int
          exact da_nil
        refine da_c ?_ ?_
        · refine de_lst ?_ ?_
          rotate_left
          · decide
          refine da_c ?_ ?_
          · exact de_int
          exact da_nil
        refine da_c ?_ ?_
        · refine de_lst ?_ ?_
          rotate_left
          · decide
          refine da_c ?_ ?_
          · exact de_int
          refine da_c ?_ ?_
          · exact de_int
          exact da_nil
        refine da_c ?_ ?_
        · refine de_lst ?_ ?_
          rotate_left
          · decide
          refine da_c ?_ ?_
          · exact de_int
          refine da_c ?_ ?_
          · exact de_int
          exact da_nil
        refine da_c ?_ ?_
        · refine de_tup ?_ ?_
          rotate_left
          · decide
          refine da_c ?_ ?_
          · exact de_int
          refine da_c ?_ ?_
          · exact de_int
          refine da_c ?_ ?_
          · exact de_int
          refine da_c ?_ ?_
          · exact de_int
          refine da_c ?_ ?_
          · exact de_int
          refine da_c ?_ ?_
          · exact de_int
          refine da_c ?_ ?_
          · exact de_int
          exact da_nil
        refine da_c ?_ ?_
        · exact de_repL (k := 8) (df_lst (da_cons de_int da_nil) (by decide)) de_int (by decide) (by decide)
        refine da_c ?_ ?_
        · exact de_repL (k := 5) (df_lst (da_cons de_int da_nil) (by decide)) de_int (by decide) (by decide)
        exact da_nil
      · decide
    · rfl
    · exact .inl rfl
  have h0 : 0 ≤ c % 25 := Int.emod_nonneg _ (by decide)
  have h1 : c % 25 < 25 := Int.emod_lt_of_pos _ (by decide)
  refine dss_end (ds_ret (de_ixL (i := c % 25) (by walk_at "v") (de_mod (j := 25) (by decide) (by walk_at "v") ?_) ?_)) trivial
  · exact DE.to (de_len (xs := odd1 ++ odd2) Sq.l rfl B.len (da_cons (by walk_at "v") da_nil)) rfl
  rw [e2]
  have e : c % 25 = (((c % 25).toNat : Nat) : Int) := by omega
  rw [e]
  refine atI_nat ?_
  have hl : (c % 25).toNat < (odd1 ++ odd2).length := by show _ < 25; omega
  rw [List.getElem?_eq_getElem hl, oddB, List.getD_eq_getElem?_getD, List.getElem?_eq_getElem hl, Option.getD_some]
theorem thing_num {ns : List Int} (hl : ns.length ≤ 50) (h : ∀ n ∈ ns, n.natAbs < 2 ^ 1000) : Thing (.lst (intsD ns)) ∧ Thing (.tup (intsD ns)) := by
  have key : (intsD ns).length ≤ 50 ∧ ∀ y ∈ intsD ns, tyN y ≠ none ∧ (intOf y).natAbs < 2 ^ 1000 := ⟨by simpa using hl, fun y hy => by
    obtain ⟨n, hn, rfl⟩ := List.mem_map.mp hy
    exact ⟨nofun, h n hn⟩⟩
  exact ⟨⟨nofun, fun xs e => by cases e; exact key⟩, ⟨nofun, fun xs e => by cases e; exact key⟩⟩
/-- the same, to be looked at -/
def thingB (x : D) : Bool := (tyN x).isSome && match seqOf x with
  | some xs => decide (xs.length ≤ 50) && xs.all fun y => (tyN y).isSome && decide ((intOf y).natAbs < 2 ^ 10)
  | none => true
theorem thing_of {x : D} (h : thingB x = true) : Thing x := by
  unfold thingB at h
  rw [Bool.and_eq_true] at h
  refine ⟨(fun z => by rw [z] at h; exact absurd h.1 (by decide)), fun xs e => ?_⟩
  have h2 := h.2
  rw [e, Bool.and_eq_true] at h2
  refine ⟨of_decide_eq_true h2.1, fun y hy => ?_⟩
  have h3 := List.all_eq_true.mp h2.2 y hy
  rw [Bool.and_eq_true] at h3
  exact ⟨(fun z => by rw [z] at h3; exact absurd h3.1 (by decide)), Nat.lt_of_lt_of_le (of_decide_eq_true h3.2) (Nat.pow_le_pow_right (by decide) (by decide))⟩
theorem odd_thing {x : D} (h : x ∈ odd1 ++ odd2) : Thing x := by
  have a : (odd1 ++ odd2).all thingB = true := by decide +kernel
  exact thing_of (List.all_eq_true.mp a x h)
end
end K2
set_option Elab.async false
set_option linter.all false
set_option maxRecDepth 100000
set_option maxHeartbeats 1000000
namespace K2
open PySem PySem.Spec L2 CT
open PyProof.Rows hiding St
local macro_rules | `(tactic| walk_at "v") => `(tactic| first
  | exact de_var (i := 0) rfl (by first | exact Or.inl rfl | exact Or.inr (Or.inl rfl)) rfl
  | exact de_var (i := 1) rfl (by first | exact Or.inl rfl | exact Or.inr (Or.inl rfl)) rfl
  | exact de_var (i := 2) rfl (by first | exact Or.inl rfl | exact Or.inr (Or.inl rfl)) rfl
  | exact de_var (i := 3) rfl (by first | exact Or.inl rfl | exact Or.inr (Or.inl rfl)) rfl
  | exact de_var (i := 4) rfl (by first | exact Or.inl rfl | exact Or.inr (Or.inl rfl)) rfl
  | exact de_var (i := 5) rfl (by first | exact Or.inl rfl | exact Or.inr (Or.inl rfl)) rfl)
local macro_rules | `(tactic| walk_at "c") => `(tactic| first
  | exact de_cv (by assumption) (i := 0) rfl rfl
  | exact de_cv (by assumption) (i := 1) rfl rfl
  | exact de_cv (by assumption) (i := 2) rfl rfl
  | exact de_cv (by assumption) (i := 3) rfl rfl)
section
variable {P : Program} {w : World} {K : PySem.W.Frag} {mg : Str → Option Value} {base : Heap}
/-! ### _law_due -/
theorem scDue : FnScope ["_law_thing", "_law_many", "_law_number_here"] ["_law_thing"] (defScope sDue) := ⟨rfl, rfl, rfl, by decide +kernel, rfl, by decide +kernel, by decide +kernel⟩
theorem two_pow_prod : ∀ (n : Nat) (l : List Int), l.length = n → (∀ x ∈ l, 2 ≤ x) → (2 : Int) ^ n ≤ prod l
  | 0, [], _, _ => by decide
  | n + 1, l, hl, h => by
    have hne : l ≠ [] := fun z => by rw [z] at hl; cases hl
    obtain ⟨r, a, rfl⟩ : ∃ r a, l = r ++ [a] := ⟨l.dropLast, l.getLast hne, (List.dropLast_concat_getLast hne).symm⟩
    have ih := two_pow_prod n r (by simpa using hl) fun x hx => h x (by simp [hx])
    have ha := h a (by simp)
    rw [prod_snoc, Int.pow_succ]
    have h2 : (0 : Int) ≤ 2 ^ n := Int.le_of_lt (Int.pow_pos (by decide))
    have hp : (0 : Int) ≤ prod r := Int.le_trans h2 ih
    calc (2 : Int) ^ n * 2 ≤ prod r * 2 := Int.mul_le_mul_of_nonneg_right ih (by decide)
      _ ≤ prod r * a := Int.mul_le_mul_of_nonneg_left ha hp
theorem few {l : List Int} (h : ∀ x ∈ l, 2 ≤ x) (hp : prod l ≤ 144) : l.length < 8 := by
  refine Nat.lt_of_not_le fun h8 => ?_
  have h1 := two_pow_prod _ l rfl h
  have h2 : (2 : Int) ^ 8 ≤ 2 ^ l.length := by
    have := Nat.pow_le_pow_right (n := 2) (by decide) h8
    exact_mod_cast this
  have h3 : (2 : Int) ^ 8 = 256 := by decide
  omega
def pDue (ds : List D) (d : D) : Prop := ∃ x, ds = [x] ∧ Thing x ∧ d = .bl (arB x)
theorem ge2_int {y : D} (h : ge2 y = true) : y = .int (intOf y) ∧ 2 ≤ intOf y := by
  rw [ge2, Bool.and_eq_true] at h
  exact ⟨intOf_W h.1, of_decide_eq_true h.2⟩
theorem ok_due {f fW : Addr} {fd fdW : FuncData} (F : Fun K "_law_due" "_law_due" sDue f fd) (B : Bl mg) (mW : mg "_law_whole" = some (.ref fW)) (FW : Fun K "_law_whole" "_law_whole" sWhole fW fdW) (bW : Binds K fdW ["_law_found"] []) : FnOk P w K mg base CX0 2 f fd ["_law_thing"] (spD K pDue) := by
  refine fn_D F scDue (fun ds d ⟨x, e, _⟩ => by rw [e]; rfl) fun cdv A outer s H E ds d hr ⟨x, e1, ht, e2⟩ => ⟨.rt d, rfl, ?_⟩
  subst e1
  have hq : (!isiN x "list" && !isiN x "tuple") = !(seqOf x).isSome := by rw [← seq_isi ht.1]; cases isiN x "list" <;> cases isiN x "tuple" <;> rfl
  cases hs : seqOf x with
  | none =>
    refine dss_end (ds_if (q := true) (DT.to (DW.dt (dw_and (p := !isiN x "list") (q := !isiN x "tuple") (dt_not (dt_val (de_isiN ht.1 .list rfl B.isinstance (by walk_at "v") (de_ty rfl B.list boot_list')))) fun _ => dw_and1 (dt_not (dt_val (de_isiN ht.1 .tuple rfl B.isinstance (by walk_at "v") (de_ty rfl B.tuple boot_tuple')))))) (by rw [hq, hs]; rfl))
      (fun _ => dss_end (ds_ret (DE.to de_bl ?_)) trivial) fun z => nomatch z) trivial
    rw [e2, arB, hs]
  | some xs =>
    obtain ⟨hl, hy⟩ := ht.2 xs hs
    refine dss_cons (ds_if (q := false) (DT.to (DW.dt (dw_and (p := !isiN x "list") (q := !isiN x "tuple") (dt_not (dt_val (de_isiN ht.1 .list rfl B.isinstance (by walk_at "v") (de_ty rfl B.list boot_list')))) fun _ => dw_and1 (dt_not (dt_val (de_isiN ht.1 .tuple rfl B.isinstance (by walk_at "v") (de_ty rfl B.tuple boot_tuple')))))) (by rw [hq, hs]; rfl))
      (fun z => nomatch z) fun _ => dss_nil) ?_
    refine dss_cons (ds_set (i := 1) scDue.nd rfl (Or.inl rfl) de_int) ?_
    have q := Sq.of hs
    let R : List D → Rho := fun done => [.val x, .val (.int (prod (done.map intOf))), lastS id .nil done]
    have turn : ∀ (done : List D) (a : D) (rest : List D), xs = done ++ a :: rest → (∀ y ∈ done, ge2 y = true) → ∃ ρ1 ks, DG (cxOf CX0 P w K mg base ["_law_thing", "_law_many", "_law_number_here"] "_law_due" (defScope sDue) f cdv A outer s H E).nox (match stN (defBody sDue) 2 with | .For t _ _ _ _ => t | _ => .Constant .none 0 ⟨0, 0, 0, 0⟩) (R done) a ρ1 ks ∧ TgOk (R done) ρ1 ks ∧
        (ge2 a = true → DSs (cxOf CX0 P w K mg base ["_law_thing", "_law_many", "_law_number_here"] "_law_due" (defScope sDue) f cdv A outer s H E).nox ρ1 (match stN (defBody sDue) 2 with | .For _ _ b _ _ => b | _ => []) (.nx (R (done ++ [a])))) ∧
        (ge2 a = false → DSs (cxOf CX0 P w K mg base ["_law_thing", "_law_many", "_law_number_here"] "_law_due" (defScope sDue) f cdv A outer s H E).nox ρ1 (match stN (defBody sDue) 2 with | .For _ _ b _ _ => b | _ => []) (.rt (.bl false))) := by
      intro done a rest e hd
      have ha := hy a (by rw [e]; simp)
      refine ⟨_, _, dg_name (k := 2) scDue.nd rfl (Or.inl rfl), tg_set, fun hg => ?_, fun hg => ?_⟩
      · obtain ⟨ea, h2⟩ := ge2_int hg
        have ew : isW a = true := by rw [ea]; rfl
        refine dss_cons (ds_if (q := false) (DT.to (DW.dt (dw_or (p := !isW a) (q := decide (intOf a < 2)) (dt_not (dt_val (de_call (ok_whole FW B) (hr.mono (by decide)) rfl mW FW.kp bW (da_cons (by walk_at "v") da_nil) ⟨a, rfl, ha.1, rfl⟩))) fun _ => dw_or1 (dt_lt (DE.to (by walk_at "v") ea) de_int))) (by rw [ew]; simp; omega)) (fun z => nomatch z) fun _ => dss_nil) ?_
        refine DSs.to (dss_cons (ds_set (i := 1) scDue.nd rfl (Or.inl rfl) (de_mulB (i := prod (done.map intOf)) (j := intOf a) ⟨prod_fit ?_ ?_, Nat.lt_of_lt_of_le ha.2 (pow_le (by decide))⟩ (by walk_at "v") (DE.to (by walk_at "v") ea))) dss_nil) ?_
        · have := hl; rw [e, List.length_append, List.length_cons] at this; rw [List.length_map]; omega
        · intro n hn
          obtain ⟨y, hm, rfl⟩ := List.mem_map.mp hn
          exact (hy y (by rw [e]; simp [hm])).2
        · show Out.nx [.val x, .val (.int (prod (done.map intOf) * intOf a)), .val a] = .nx (R (done ++ [a]))
          show _ = Out.nx [.val x, .val (.int (prod ((done ++ [a]).map intOf))), lastS id .nil (done ++ [a])]
          rw [lastS_snoc, List.map_append, List.map_cons, List.map_nil, prod_snoc]
          rfl
      · refine dss_end (ds_if (q := true) ?_ (fun _ => dss_end (ds_ret de_bl) trivial) fun z => nomatch z) trivial
        cases ew : isW a with
        | false => exact DT.to (DW.dt (dw_or (p := true) (q := false) (dt_not (p := false) (dt_val (DE.to (de_call (ok_whole FW B) (hr.mono (by decide)) rfl mW FW.kp bW (da_cons (by walk_at "v") da_nil) ⟨a, rfl, ha.1, rfl⟩) (by rw [ew])))) fun z => nomatch z)) rfl
        | true =>
          have h2 : intOf a < 2 := by rw [ge2, ew, Bool.true_and] at hg; have := of_decide_eq_false hg; omega
          exact DT.to (DW.dt (dw_or (p := false) (q := decide (intOf a < 2)) (dt_not (p := true) (dt_val (DE.to (de_call (ok_whole FW B) (hr.mono (by decide)) rfl mW FW.kp bW (da_cons (by walk_at "v") da_nil) ⟨a, rfl, ha.1, rfl⟩) (by rw [ew])))) fun _ => dw_or1 (dt_lt (DE.to (by walk_at "v") (intOf_W ew)) de_int))) (by simpa using h2)
    cases hb : xs.all ge2 with
    | true =>
      have hall : ∀ y ∈ xs, ge2 y = true := List.all_eq_true.mp hb
      have go : ∀ (l done : List D), xs = done ++ l → (∀ y ∈ done, ge2 y = true) → (∀ y ∈ l, ge2 y = true) → ForO (cxOf CX0 P w K mg base ["_law_thing", "_law_many", "_law_number_here"] "_law_due" (defScope sDue) f cdv A outer s H E).nox (match stN (defBody sDue) 2 with | .For t _ _ _ _ => t | _ => .Constant .none 0 ⟨0, 0, 0, 0⟩) (match stN (defBody sDue) 2 with | .For _ _ b _ _ => b | _ => []) l (R done) (.nx (R (done ++ l))) := by
        intro l
        induction l with
        | nil => intro done _ _ _; rw [List.append_nil]; exact .nil _
        | cons a l ih =>
          intro done e hd hz
          obtain ⟨ρ1, ks, g1, g2, g3, g4⟩ := turn done a l e hd
          have hg := hz a (by simp)
          have := ih (done ++ [a]) (by rw [e, List.append_assoc]; rfl) (fun y hm => by
              rcases List.mem_append.mp hm with hm | hm
              · exact hd y hm
              · rw [List.mem_singleton.mp hm]; exact hg) fun y hm => hz y (by simp [hm])
          rw [List.append_assoc] at this
          exact .cons g1 g2 (g3 hg) this
      have hfo := go xs [] rfl (fun y hm => absurd hm (by simp)) hall
      refine dss_cons (ρ' := R xs) (ds_for PassesOwn.never rfl (di_sq q (by walk_at "v")) hfo) ?_
      have ei := all_ints (xs := xs) fun y hm => by have := hall y hm; rw [ge2, Bool.and_eq_true] at this; exact this.1
      refine dss_end (ds_ret (DE.to (de_and (p := decide ((xs.length : Int) < 8)) (q := decide (prod (xs.map intOf) ≤ 144)) (de_lt (de_len q rfl B.len (da_cons (by walk_at "v") da_nil)) de_int) fun _ => de_one (de_le (by walk_at "v") de_int)) ?_)) trivial
      rw [e2, arB, hs]
      show D.bl _ = D.bl (xs.all ge2 && _)
      rw [hb, Bool.true_and]
      by_cases hp : prod (xs.map intOf) ≤ 144
      · have := few (l := xs.map intOf) (fun n hn => by obtain ⟨y, hm, rfl⟩ := List.mem_map.mp hn; exact (ge2_int (hall y hm)).2) hp
        rw [List.length_map] at this
        rw [decide_eq_true hp, decide_eq_true (by omega)]; rfl
      · rw [decide_eq_false hp, Bool.and_false]
    | false =>
      have e3 : d = .bl false := by rw [e2, arB, hs]; simp [hb]
      subst e3
      refine dss_end (ds_for PassesOwn.never rfl (di_sq q (by walk_at "v")) ?_) trivial
      have go : ∀ (l done : List D), xs = done ++ l → (∀ y ∈ done, ge2 y = true) → l.all ge2 = false → ForO (cxOf CX0 P w K mg base ["_law_thing", "_law_many", "_law_number_here"] "_law_due" (defScope sDue) f cdv A outer s H E).nox (match stN (defBody sDue) 2 with | .For t _ _ _ _ => t | _ => .Constant .none 0 ⟨0, 0, 0, 0⟩) (match stN (defBody sDue) 2 with | .For _ _ b _ _ => b | _ => []) l (R done) (.rt (.bl false)) := by
        intro l
        induction l with
        | nil => intro done _ _ z; cases z
        | cons a l ih =>
          intro done e hd hz
          obtain ⟨ρ1, ks, g1, g2, g3, g4⟩ := turn done a l e hd
          cases hg : ge2 a with
          | false => exact .ret g1 g2 (g4 hg) trivial
          | true =>
            rw [List.all_cons, hg, Bool.true_and] at hz
            exact .cons g1 g2 (g3 hg) (ih (done ++ [a]) (by rw [e, List.append_assoc]; rfl) (fun y hm => by
              rcases List.mem_append.mp hm with hm | hm
              · exact hd y hm
              · rw [List.mem_singleton.mp hm]; exact hg) hz)
      exact go xs [] rfl (fun y hm => absurd hm (by simp)) hb
end
end K2
set_option Elab.async false
set_option linter.all false
set_option maxRecDepth 100000
set_option maxHeartbeats 1000000
namespace K2
open PySem PySem.Spec L2 CT
open PyProof.Rows hiding St
local macro_rules | `(tactic| walk_at "v") => `(tactic| first
  | exact de_var (i := 0) rfl (by first | exact Or.inl rfl | exact Or.inr (Or.inl rfl)) rfl
  | exact de_var (i := 1) rfl (by first | exact Or.inl rfl | exact Or.inr (Or.inl rfl)) rfl
  | exact de_var (i := 2) rfl (by first | exact Or.inl rfl | exact Or.inr (Or.inl rfl)) rfl
  | exact de_var (i := 3) rfl (by first | exact Or.inl rfl | exact Or.inr (Or.inl rfl)) rfl
  | exact de_var (i := 4) rfl (by first | exact Or.inl rfl | exact Or.inr (Or.inl rfl)) rfl
  | exact de_var (i := 5) rfl (by first | exact Or.inl rfl | exact Or.inr (Or.inl rfl)) rfl)
local macro_rules | `(tactic| walk_at "c") => `(tactic| first
  | exact de_cv (by assumption) (i := 0) rfl rfl
  | exact de_cv (by assumption) (i := 1) rfl rfl
  | exact de_cv (by assumption) (i := 2) rfl rfl
  | exact de_cv (by assumption) (i := 3) rfl rfl)
structure Ad where
  (C CE CN CL CT : Addr)
  (fW fP fA fI fCell fWh fSame fNum fOdd fDue fRef : Addr)
  (dW dP dA dI dCell dWh dSame dNum dOdd dDue dRef : FuncData)
/-- all that is read of the text -/
structure Txt (K : PySem.W.Frag) (mg : Str → Option Value) (t : Ad) : Prop where
  B : Bl mg
  G : Gb K mg t.fW t.fP
  T : Cl K t.C
  N : Xc K mg "NoRounds" t.CN
  M : Mk K t.C t.fI
  mC : mg "Rounds" = some (.ref t.C)
  mA : mg "are_rounds" = some (.ref t.fA)
  mE : mg "CarryError" = some (.ref t.CE)
  mL : mg "NoElement" = some (.ref t.CL)
  mT : mg "NoText" = some (.ref t.CT)
  eE : XTop K t.CE
  hm : PySem.W.mroIn K t.CN (.ref t.CE) = some true
  k1 : PySem.W.kitOne K (.ref t.CN) (.ref t.CN) = some true
  k2 : PySem.W.kitOne K (.ref t.CN) (.type "ValueError") = some true
  k3 : PySem.W.kitOne K (.ref t.CN) (.ref t.CL) = some false
  k4 : PySem.W.kitOne K (.ref t.CN) (.ref t.CT) = some false
  FW : Fun K "is_whole" "is_whole" sIsWhole t.fW t.dW
  bW : Binds K t.dW ["thing"] []
  FP : Fun K "product" "product" sProduct t.fP t.dP
  bP : Binds K t.dP ["numbers"] []
  FA : Fun K "are_rounds" "are_rounds" sAre t.fA t.dA
  bA : Binds K t.dA ["thing"] []
  FI : Fun K "__init__" "Rounds.__init__" sInit t.fI t.dI
  bI : Binds K t.dI ["self", "rounds"] []
  mCell : mg "_law_cell" = some (.ref t.fCell)
  FCell : Fun K "_law_cell" "_law_cell" sCell t.fCell t.dCell
  bCell : Binds K t.dCell ["_law_script", "_law_k"] []
  mWh : mg "_law_whole" = some (.ref t.fWh)
  FWh : Fun K "_law_whole" "_law_whole" sWhole t.fWh t.dWh
  bWh : Binds K t.dWh ["_law_found"] []
  mSame : mg "_law_same" = some (.ref t.fSame)
  FSame : Fun K "_law_same" "_law_same" sSame t.fSame t.dSame
  bSame : Binds K t.dSame ["_law_found", "_law_due_here"] []
  mNum : mg "_law_number" = some (.ref t.fNum)
  FNum : Fun K "_law_number" "_law_number" sNumber t.fNum t.dNum
  bNum : Binds K t.dNum ["_law_cell_here"] []
  mOdd : mg "_law_odd" = some (.ref t.fOdd)
  FOdd : Fun K "_law_odd" "_law_odd" sOdd t.fOdd t.dOdd
  bOdd : Binds K t.dOdd ["_law_cell_here"] []
  mDue : mg "_law_due" = some (.ref t.fDue)
  FDue : Fun K "_law_due" "_law_due" sDue t.fDue t.dDue
  bDue : Binds K t.dDue ["_law_thing"] []
  mRef : mg "_law_refused" = some (.ref t.fRef)
  FRef : Fun K "_law_refused" "_law_refused" sRefused t.fRef t.dRef
  bRef : Binds K t.dRef ["_law_thing"] []
section
variable {P : Program} {w : World} {K : PySem.W.Frag} {mg : Str → Option Value} {base : Heap}
theorem ok_initT {t : Ad} (T : Txt K mg t) : FnOk P w K mg base (CXA P w) 3 t.fI t.dI ["self", "rounds"] (spIR K t.C (pInit t.CN)) := ok_init T.FI T.B T.G T.T T.N T.mA T.FA T.bA T.FW T.bW T.FP T.bP
/-! ### _law_refused -/
theorem scRef : FnScope ["_law_thing", "_law_kinds", "e"] ["_law_thing"] (defScope sRefused) := ⟨rfl, rfl, rfl, by decide +kernel, rfl, by decide +kernel, by decide +kernel⟩
def pRef (ds : List D) (d : D) : Prop := ∃ x, ds = [x] ∧ Thing x ∧ arB x = false ∧ d = .bl true
def fourB : List D := [.bl true, .bl true, .bl false, .bl false]
theorem ok_ref {t : Ad} (T : Txt K mg t) : FnOk P w K mg base CX0 5 t.fRef t.dRef ["_law_thing"] (spD K pRef) := by
  refine fn_D T.FRef scRef (fun ds d ⟨x, e, _⟩ => by rw [e]; rfl) fun cdv A outer s H E ds d hr ⟨x, e1, ht, hb, e2⟩ => ⟨.rt d, rfl, ?_⟩
  subst e1 e2
  refine dss_cons (ds_set (i := 1) scRef.nd rfl (Or.inl rfl) (de_lst da_nil (by decide))) ?_
  refine dss_cons (ds_tryAs (i := 2) (C := t.CN) (fs := []) (o := .nx [.val x, .val (.lst fourB), .val (.exc t.CN [])]) rfl rfl (dsxs_head (dsx_expr (dex_make T.M (ok_initT T) hr rfl T.mC T.bI (da_cons (by walk_at "v") da_nil) ⟨x, rfl, ht, .inr ⟨hb, rfl⟩⟩))) rfl T.mE T.eE T.hm scRef.nd rfl rfl fun a => ?_) ?_
  · refine dss_cons (ds_set (i := 1) scRef.nd rfl (Or.inl rfl) (de_lst (ds := fourB) (da_cons ?_ (da_cons ?_ (da_cons ?_ (da_cons ?_ da_nil)))) (by decide))) dss_nil
    · exact de_isi rfl T.B.isinstance (.exc [] T.N.is) (.cl t.CN) T.k1 (da_cons (by walk_at "v") (da_cons (de_cl rfl T.N.gl) da_nil))
    · exact de_isi rfl T.B.isinstance (.exc [] T.N.is) (.ty "ValueError") T.k2 (da_cons (by walk_at "v") (da_cons (de_ty rfl T.B.verr (by first | rfl | decide +kernel)) da_nil))
    · exact de_isi rfl T.B.isinstance (.exc [] T.N.is) (.cl t.CL) T.k3 (da_cons (by walk_at "v") (da_cons (de_cl rfl T.mL) da_nil))
    · exact de_isi rfl T.B.isinstance (.exc [] T.N.is) (.cl t.CT) T.k4 (da_cons (by walk_at "v") (da_cons (de_cl rfl T.mT) da_nil))
  · refine dss_end (ds_ret (DE.to (de_eqD (da := .lst fourB) (db := .lst fourB) (Room.units hr) rfl rfl (by decide) (by walk_at "v") (de_lst (da_cons de_bl (da_cons de_bl (da_cons de_bl (da_cons de_bl da_nil)))) (by decide))) (by rw [eqD_self (d := .lst fourB) rfl]))) trivial
end
end K2
set_option Elab.async false
set_option linter.all false
set_option maxRecDepth 100000
set_option maxHeartbeats 1000000
namespace K2
open PySem PySem.Spec L2 CT
open PyProof.Rows hiding St
local macro_rules | `(tactic| walk_at "v") => `(tactic| first
  | exact de_var (i := 0) rfl (by first | exact Or.inl rfl | exact Or.inr (Or.inl rfl)) rfl
  | exact de_var (i := 1) rfl (by first | exact Or.inl rfl | exact Or.inr (Or.inl rfl)) rfl
  | exact de_var (i := 2) rfl (by first | exact Or.inl rfl | exact Or.inr (Or.inl rfl)) rfl
  | exact de_var (i := 3) rfl (by first | exact Or.inl rfl | exact Or.inr (Or.inl rfl)) rfl
  | exact de_var (i := 4) rfl (by first | exact Or.inl rfl | exact Or.inr (Or.inl rfl)) rfl
  | exact de_var (i := 5) rfl (by first | exact Or.inl rfl | exact Or.inr (Or.inl rfl)) rfl)
local macro_rules | `(tactic| walk_at "c") => `(tactic| first
  | exact de_cv (by assumption) (i := 0) rfl rfl
  | exact de_cv (by assumption) (i := 1) rfl rfl
  | exact de_cv (by assumption) (i := 2) rfl rfl
  | exact de_cv (by assumption) (i := 3) rfl rfl)
section
variable {P : Program} {w : World} {K : PySem.W.Frag} {mg : Str → Option Value} {base : Heap}
theorem c_cell {t : Ad} {X : Cx} {ρ : Rho} (T : Txt X.K X.mg t) {e1 e2 : Expr} {p q : Pos} {ns : List Int} {k : Int} (hr : Room 1 X.A) (hg : Gl X "_law_cell") (h1 : DE X ρ e1 (.lst (intsD ns))) (h2 : DE X ρ e2 (.int k)) (n1 : noStar e1 = true := by rfl) (n2 : noStar e2 = true := by rfl) (hpl : (backTo q (starEach [e2] X.env)).any (·.1) = false := by rfl) :
    DE X ρ (.Call (.Name "_law_cell" p) [e1, e2] [] q) (.int (cell ns k)) :=
  de_call (ok_cell T.FCell T.B) hr hg T.mCell T.FCell.kp T.bCell (da_c h1 (da_c h2 da_nil n2) n1) ⟨ns, k, rfl, rfl⟩ (by decide) (se_of n1) hpl
/-! ### the things that are drawn -/
def manyI (c : Int) : Int := pick [0, 1, 2, 2, 3, 3, 4, 7, 8] (c % 9)
def nums (ns : List Int) (k : Int) : List Int := (kNats (manyI (cell ns (4 * k)))).map fun j => numB (cell ns (4 * k + 1 + j))
def thingI (ns : List Int) (k : Int) : D :=
  if cell ns (4 * k) / 9 % 4 = 1 then oddB (cell ns (4 * k) / 36) else if cell ns (4 * k) / 9 % 4 = 2 then .tup (intsD (nums ns k)) else .lst (intsD (nums ns k))
theorem manyI_le (c : Int) : 0 ≤ manyI c ∧ manyI c ≤ 8 := by
  have h0 : 0 ≤ c % 9 := Int.emod_nonneg _ (by decide)
  have h1 : c % 9 < 9 := Int.emod_lt_of_pos _ (by decide)
  have : c % 9 = 0 ∨ c % 9 = 1 ∨ c % 9 = 2 ∨ c % 9 = 3 ∨ c % 9 = 4 ∨ c % 9 = 5 ∨ c % 9 = 6 ∨ c % 9 = 7 ∨ c % 9 = 8 := by omega
  unfold manyI
  rcases this with h | h | h | h | h | h | h | h | h <;> (rw [h]; decide)
theorem nums_len (ns : List Int) (k : Int) : (nums ns k).length ≤ 8 := by
  have := manyI_le (cell ns (4 * k))
  rw [nums, List.length_map, kNats, List.length_map, List.length_range]
  omega
theorem nums_fit (ns : List Int) (k : Int) : ∀ n ∈ nums ns k, n.natAbs < 2 ^ 1000 := fun n hn => by
  obtain ⟨j, _, rfl⟩ := List.mem_map.mp hn
  exact numB_fit _
theorem thingI_ok (ns : List Int) (k : Int) : Thing (thingI ns k) := by
  have h := thing_num (ns := nums ns k) (Nat.le_trans (nums_len ns k) (by decide)) (nums_fit ns k)
  unfold thingI
  split
  · exact odd_thing (oddB_mem _)
  · split
    · exact h.2
    · exact h.1
/-- what is held against itself: data, or a small dict -/
def Self (x : D) : Prop := (isDat x = true ∧ (toPy x).depth ≤ 64) ∨ ∃ kvs, x = .dct kvs ∧ smD kvs
def selfB (x : D) : Bool := (isDat x && decide ((toPy x).depth ≤ 64)) || match x with
  | .dct [] => true
  | .dct [(.int _, .int _)] => true
  | _ => false
theorem self_of {x : D} (h : selfB x = true) : Self x := by
  unfold selfB at h
  rcases Bool.or_eq_true_iff.mp h with h | h
  · rw [Bool.and_eq_true] at h
    exact .inl ⟨h.1, of_decide_eq_true h.2⟩
  · split at h
    · exact .inr ⟨_, rfl, .inl rfl⟩
    · exact .inr ⟨_, rfl, .inr ⟨_, _, rfl⟩⟩
    · cases h
theorem depth_lst (ks : List Int) : (toPy (.lst (intsD ks))).depth = 1 := by
  show PyData.depthAll (toPyL (ks.map .int)) + 1 = 1
  rw [depth_ints]
theorem thingI_self (ns : List Int) (k : Int) : Self (thingI ns k) := by
  unfold thingI
  split
  · have a : (odd1 ++ odd2).all selfB = true := by decide +kernel
    exact self_of (List.all_eq_true.mp a _ (oddB_mem _))
  · split
    · exact .inl ⟨isDatL_ints _, by rw [depth_tupI]; decide⟩
    · exact .inl ⟨isDatL_ints _, by rw [depth_lst]; decide⟩
theorem dt_self {X : Cx} {ρ : Rho} {a b : Expr} {pos : Pos} {x : D} (hu : X.A.units + 64 < cLine) (h : Self x) (ha : DE X ρ a x) (hb : DE X ρ b x) : DT X ρ (.Compare a [.NotEq] [b] pos) false := by
  rcases h with ⟨h1, h2⟩ | ⟨kvs, rfl, h⟩
  · exact DT.to (dt_neD hu h1 h1 (by omega) ha hb) (by rw [eqD_self h1]; rfl)
  · exact dt_neS h hu ha hb
/-! ### the law -/
abbrev LN : List Str := ["_law_script", "_law_k", "_law_cell_here", "_law_thing", "_law_kept"]
theorem scLaw : FnScope LN ["_law_script"] (defScope sLaw) := ⟨rfl, rfl, rfl, by decide +kernel, rfl, by decide +kernel, by decide +kernel⟩
def pLaw (ds : List D) (d : D) : Prop := ∃ ns : List Int, ds = [.lst (intsD ns)] ∧ ns.length ≤ 63 ∧ d = .bl true
theorem ok_law {t : Ad} (T : Txt K mg t) {f : Addr} {fd : FuncData} (F : Fun K "law" "law" sLaw f fd) : FnOk P w K mg base CX0 7 f fd ["_law_script"] (spD K pLaw) := by
  refine fn_D F scLaw (fun ds d ⟨ns, e, _⟩ => by rw [e]; rfl) fun cdv A outer s H E ds d hr ⟨ns, e1, h63, e2⟩ => ⟨.rt d, rfl, ?_⟩
  subst e1 e2
  have nd := scLaw.nd
  refine dss_cons (ds_forW PassesOwn.never rfl (g := D.int) (fun ks => [.val (.lst (intsD ns)), .any, .any, .any, .any]) (kNats 6) (di_rangeK rfl T.B.range (da_cons de_int da_nil) (by decide) (by decide)) (.same (.any (.any (.any (.any .nil))))) fun done k rest e => ?_) ?_
  · refine ⟨_, _, [.val (.lst (intsD ns)), .val (.int k), .val (.int (cell ns (4 * k))), .val (thingI ns k), .val (thingI ns k)], dg_name (k := 1) nd rfl (Or.inr rfl), tg_set, ?_, .same (.any (.any (.any (.any .nil))))⟩
    have ht := thingI_ok ns k
    have hself := thingI_self ns k
    refine dss_cons (ds_set (i := 2) nd rfl (Or.inl rfl) (c_cell T (hr.mono (by decide)) rfl (by walk_at "v") (de_mul (cmL (by decide) (by decide)) de_int (by walk_at "v")))) ?_
    refine dss_cons (ds_setC (i := 3) (xs := intsD (nums ns k)) nd rfl (Or.inl rfl) ?_ ?_) ?_
    · have e8 : intsD (nums ns k) = (kNats (manyI (cell ns (4 * k)))).map fun j => D.int (numB (cell ns (4 * k + 1 + j))) := by unfold nums intsD; rw [List.map_map]; rfl
      have hm := manyI_le (cell ns (4 * k))
      have h0 : 0 ≤ cell ns (4 * k) % 9 := Int.emod_nonneg _ (by decide)
      have h1 : cell ns (4 * k) % 9 < 9 := Int.emod_lt_of_pos _ (by decide)
      rw [e8]
      refine dc_mapW (sc := defScope sLaw) (N := LN) (own := ["_law_j"]) (cap := [("_law_k", 1), ("_law_script", 0)]) (k := 0) (g := D.int) rfl rfl (by decide +kernel) rfl rfl (DI.dI0 (di_rangeK rfl T.B.range (da_cons (de_ixL (i := cell ns (4 * k) % 9) (xs := intsD [0, 1, 2, 2, 3, 3, 4, 7, 8]) ?_ (de_mod (by decide) (by walk_at "v") de_int) (pick_ix h0 (by simpa using h1))) da_nil) (by show -(2 ^ 62) ≤ manyI _; omega) (by show manyI _ < 2 ^ 62; omega)))
        (by rw [kNats, List.length_map, List.length_range]; exact sz (by omega)) fun cs j hj p s h fp => ?_
      · exact de_lst (da_cons de_int (da_cons de_int (da_cons de_int (da_cons de_int (da_cons de_int (da_cons de_int (da_cons de_int (da_cons de_int (da_cons de_int da_nil))))))))) (by decide)
      · exact de_call (ok_number T.FNum) (hr.mono (by decide)) rfl T.mNum T.FNum.kp T.bNum (da_c (c_cell T (hr.mono (by decide)) rfl (by walk_at "c") (de_add (de_add (de_mul (cmL (by decide) (by decide)) de_int (by walk_at "c")) de_int) (by walk_at "c"))) da_nil) ⟨_, rfl, rfl⟩
    · rfl
    refine dss_cons (ρ' := [.val (.lst (intsD ns)), .val (.int k), .val (.int (cell ns (4 * k))), .val (thingI ns k), .any]) (ds_if (q := decide (cell ns (4 * k) / 9 % 4 = 1)) (dt_eqI (de_mod (by decide) (de_fdiv ⟨by decide, by decide⟩ (by walk_at "v") de_int) de_int) de_int) (fun z => ?_) fun z => ?_) ?_
    · have z := of_decide_eq_true z
      refine DSs.to (dss_cons (ds_set (i := 3) (d := oddB (cell ns (4 * k) / 36)) nd rfl (Or.inl rfl) (de_call (ok_odd T.FOdd T.B) (hr.mono (by decide)) rfl T.mOdd T.FOdd.kp T.bOdd (da_cons (de_fdiv ⟨by decide, by decide⟩ (by walk_at "v") de_int) da_nil) ⟨_, rfl, rfl⟩)) dss_nil) ?_
      rw [thingI, if_pos z]; rfl
    · have z := of_decide_eq_false z
      refine dss_cons (ds_if (q := decide (cell ns (4 * k) / 9 % 4 = 2)) (dt_eqI (de_mod (by decide) (de_fdiv ⟨by decide, by decide⟩ (by walk_at "v") de_int) de_int) de_int) (fun z2 => ?_) fun z2 => ?_) dss_nil
      · have z2 := of_decide_eq_true z2
        refine DSs.to (dss_cons (ds_set (i := 3) (d := .tup (intsD (nums ns k))) nd rfl (Or.inl rfl) (de_tuple Sq.l rfl T.B.tuple (da_cons (by walk_at "v") da_nil))) dss_nil) ?_
        rw [thingI, if_neg z, if_pos z2]; rfl
      · have z2 := of_decide_eq_false z2
        refine DSs.to dss_nil ?_
        rw [thingI, if_neg z, if_neg z2]; rfl
    generalize thingI ns k = x at ht hself ⊢
    refine dss_cons (ds_set (i := 4) nd rfl (Or.inl rfl) (by walk_at "v")) ?_
    refine dss_cons (ρ' := [.val (.lst (intsD ns)), .val (.int k), .val (.int (cell ns (4 * k))), .val x, .val x]) (ds_if (q := isiN x "list") (dt_val (de_isiN ht.1 .list rfl T.B.isinstance (by walk_at "v") (de_ty rfl T.B.list boot_list'))) (fun z => ?_) fun _ => dss_nil) ?_
    · obtain ⟨xs, rfl⟩ : ∃ xs, x = .lst xs := by
        cases x with
        | lst xs => exact ⟨xs, rfl⟩
        | _ => cases z
      exact dss_cons (ds_set (i := 4) nd rfl (Or.inl rfl) (DF.de (df_list Sq.l rfl T.B.list (da_cons (by walk_at "v") da_nil)))) dss_nil
    refine dss_cons (ρ' := [.val (.lst (intsD ns)), .val (.int k), .val (.int (cell ns (4 * k))), .val x, .val x]) (ds_if (q := arB x) (dt_val (de_call (ok_due T.FDue T.B T.mWh T.FWh T.bWh) (hr.mono (by decide)) rfl T.mDue T.FDue.kp T.bDue (da_cons (by walk_at "v") da_nil) ⟨x, rfl, ht, rfl⟩)) (fun hb => ?_) fun hb => ?_) ?_
    · obtain ⟨xs, hs⟩ : ∃ xs, seqOf x = some xs := by
        cases h : seqOf x with
        | none => rw [arB, h] at hb; cases hb
        | some xs => exact ⟨xs, rfl⟩
      have hi : xs = intsD (xs.map intOf) := all_ints fun y hm => by
        rw [arB, hs] at hb
        have := List.all_eq_true.mp (Bool.and_eq_true_iff.mp hb).1 y hm
        rw [ge2, Bool.and_eq_true] at this; exact this.1
      have hl := (ht.2 xs hs).1
      refine dss_cons (ds_if (q := false) (dt_not (p := true) (dt_val ?_)) (fun z => nomatch z) fun _ => dss_nil) dss_nil
      refine de_call (ok_same T.FSame T.B T.mWh T.FWh T.bWh) (hr.mono (by decide)) rfl T.mSame T.FSame.kp T.bSame (ds := [.tup xs, .tup xs]) (da_c (de_fld (de_make T.M (FnOk.okI (ok_initT T)) (hr.mono (by decide)) rfl T.mC T.bI (da_cons (by walk_at "v") da_nil) ⟨x, rfl, ht, .inl ⟨xs, hs, hb, rfl⟩⟩) T.T.cl T.T.nR rfl) (da_c (de_tuple (Sq.of hs) rfl T.B.tuple (da_cons (by walk_at "v") da_nil)) da_nil)) ⟨xs.map intOf, by rw [List.length_map]; omega, ?_, rfl⟩
      show [D.tup xs, .tup xs] = [.tup (intsD (xs.map intOf)), .tup (intsD (xs.map intOf))]
      rw [← hi]
    · refine dss_cons (ds_if (q := false) (dt_not (p := true) (dt_val ?_)) (fun z => nomatch z) fun _ => dss_nil) dss_nil
      exact de_call (ok_ref T) (hr.mono (by decide)) rfl T.mRef T.FRef.kp T.bRef (da_cons (by walk_at "v") da_nil) ⟨x, rfl, ht, hb, rfl⟩
    exact dss_cons (ds_if (q := false) (dt_self (Room.units hr) hself (by walk_at "v") (by walk_at "v")) (fun z => nomatch z) fun _ => dss_nil) dss_nil
  · exact dss_end (ds_ret de_bl) trivial
end
end K2
set_option Elab.async false
set_option linter.all false
set_option maxRecDepth 100000
set_option maxHeartbeats 4000000
namespace K2
open PySem PySem.Spec L2 CT
open PyProof.Rows hiding St
theorem rds_ints {K : PySem.W.Frag} {H : Hp} {S : CT.Ad} : ∀ ns : List Int, RdsL K H S (ns.map .int) (ns.map V.int)
  | [] => .nil
  | n :: ns => .cons (.int n) (rds_ints ns)
theorem law_sp {K : PySem.W.Frag} {H : Hp} {a : Addr} {ns : List Int} (hl : ns.length ≤ 63) (h : SqL K H a (ns.map V.int)) : spD K pLaw [.ref a] H (fun v _ => v = .bl true) fun _ _ _ => False := by
  refine ⟨no, [.lst (intsD ns)], .bl true, fun _ z => z.elim, .cons ?_ .nil, ⟨ns, rfl, hl, rfl⟩, fun v H' _ r => r.blV⟩
  rcases h with h | h
  · exact .lst h (fun z => z) (rds_ints ns)
  · exact .lstK h (rds_ints ns)
theorem xtop_of {K : PySem.W.Frag} {C : Addr} (h : xcOk K C = true) (ty : PySem.W.typeIn K (.ref C) = some (.type "type")) : XTop K C := by
  have c := (xisi_of h).cl
  obtain ⟨cd, hc, _⟩ := PySem.W.any_some c.ov
  exact ⟨⟨cd, hc⟩, ty, c.mro (by decide)⟩
theorem all_mk {l : PySem.W.OpenLaw} {w : World} {K : PySem.W.Frag} {h : Heap} {mg : Str → Option Value} {fa C CE CN CL CT fIsW fPrd fAre fInit fCell fWh fSm fNum fOdd fDue fRef fLaw : Addr} {t1 t2 : Tok} (X : K.In h) (G : h.Ns mainGlobals mg) (hfa : mg "law" = some (.ref fa))
    {odIsW anIsW odPrd anPrd odAre anAre odInit anInit odCell anCell odWh anWh odSm anSm odNum anNum odOdd anOdd odDue anDue odRef anRef odLaw anLaw : Option Addr} {slIsW slPrd slAre slInit slCell slWh slSm slNum slOdd slDue slRef slLaw : Array (Option Value)} {ocIsW kVIsW dcIsW pmIsW cdIsW ctIsW ocPrd kVPrd dcPrd pmPrd cdPrd ctPrd ocAre kVAre dcAre pmAre cdAre ctAre ocInit kVInit dcInit pmInit cdInit ctInit ocCell kVCell dcCell pmCell cdCell ctCell ocWh kVWh dcWh pmWh cdWh ctWh ocSm kVSm dcSm pmSm cdSm ctSm ocNum kVNum dcNum pmNum cdNum ctNum ocOdd kVOdd dcOdd pmOdd cdOdd ctOdd ocDue kVDue dcDue pmDue cdDue ctDue ocRef kVRef dcRef pmRef cdRef ctRef ocLaw kVLaw dcLaw pmLaw cdLaw ctLaw : Value}
    (aC : PySem.W.nsIn K mainGlobals "Rounds" = some (some (.ref C)))
    (aCE : PySem.W.nsIn K mainGlobals "CarryError" = some (some (.ref CE)))
    (aCN : PySem.W.nsIn K mainGlobals "NoRounds" = some (some (.ref CN)))
    (aCL : PySem.W.nsIn K mainGlobals "NoElement" = some (some (.ref CL)))
    (aCT : PySem.W.nsIn K mainGlobals "NoText" = some (some (.ref CT)))
    (aIsW : PySem.W.nsIn K mainGlobals "is_whole" = some (some (.ref fIsW)))
    (lIsW : K.lookup fIsW = some ⟨ocIsW, odIsW, .func (PySem.W.fnOf "is_whole" "is_whole" (defArgs sIsWhole) (defBody sIsWhole) (defScope sIsWhole) .none kVIsW dcIsW pmIsW anIsW cdIsW ctIsW), slIsW⟩)
    (cIsW : PySem.W.codeIn K cdIsW "is_whole" = true)
    (kIsW : PySem.W.keepIn K (.ref fIsW) = true)
    (aPrd : PySem.W.nsIn K mainGlobals "product" = some (some (.ref fPrd)))
    (lPrd : K.lookup fPrd = some ⟨ocPrd, odPrd, .func (PySem.W.fnOf "product" "product" (defArgs sProduct) (defBody sProduct) (defScope sProduct) .none kVPrd dcPrd pmPrd anPrd cdPrd ctPrd), slPrd⟩)
    (cPrd : PySem.W.codeIn K cdPrd "product" = true)
    (kPrd : PySem.W.keepIn K (.ref fPrd) = true)
    (aAre : PySem.W.nsIn K mainGlobals "are_rounds" = some (some (.ref fAre)))
    (lAre : K.lookup fAre = some ⟨ocAre, odAre, .func (PySem.W.fnOf "are_rounds" "are_rounds" (defArgs sAre) (defBody sAre) (defScope sAre) .none kVAre dcAre pmAre anAre cdAre ctAre), slAre⟩)
    (cAre : PySem.W.codeIn K cdAre "are_rounds" = true)
    (kAre : PySem.W.keepIn K (.ref fAre) = true)
    (aInit : PySem.W.findIn K (.ref C) "__init__" = some (some (.ref fInit)))
    (iInit : PySem.W.isFn K (.ref fInit) = true)
    (lInit : K.lookup fInit = some ⟨ocInit, odInit, .func (PySem.W.fnOf "__init__" "Rounds.__init__" (defArgs sInit) (defBody sInit) (defScope sInit) .none kVInit dcInit pmInit anInit cdInit ctInit), slInit⟩)
    (cInit : PySem.W.codeIn K cdInit "Rounds.__init__" = true)
    (kInit : PySem.W.keepIn K (.ref fInit) = true)
    (aCell : PySem.W.nsIn K mainGlobals "_law_cell" = some (some (.ref fCell)))
    (lCell : K.lookup fCell = some ⟨ocCell, odCell, .func (PySem.W.fnOf "_law_cell" "_law_cell" (defArgs sCell) (defBody sCell) (defScope sCell) .none kVCell dcCell pmCell anCell cdCell ctCell), slCell⟩)
    (cCell : PySem.W.codeIn K cdCell "_law_cell" = true)
    (kCell : PySem.W.keepIn K (.ref fCell) = true)
    (aWh : PySem.W.nsIn K mainGlobals "_law_whole" = some (some (.ref fWh)))
    (lWh : K.lookup fWh = some ⟨ocWh, odWh, .func (PySem.W.fnOf "_law_whole" "_law_whole" (defArgs sWhole) (defBody sWhole) (defScope sWhole) .none kVWh dcWh pmWh anWh cdWh ctWh), slWh⟩)
    (cWh : PySem.W.codeIn K cdWh "_law_whole" = true)
    (kWh : PySem.W.keepIn K (.ref fWh) = true)
    (aSm : PySem.W.nsIn K mainGlobals "_law_same" = some (some (.ref fSm)))
    (lSm : K.lookup fSm = some ⟨ocSm, odSm, .func (PySem.W.fnOf "_law_same" "_law_same" (defArgs sSame) (defBody sSame) (defScope sSame) .none kVSm dcSm pmSm anSm cdSm ctSm), slSm⟩)
    (cSm : PySem.W.codeIn K cdSm "_law_same" = true)
    (kSm : PySem.W.keepIn K (.ref fSm) = true)
    (aNum : PySem.W.nsIn K mainGlobals "_law_number" = some (some (.ref fNum)))
    (lNum : K.lookup fNum = some ⟨ocNum, odNum, .func (PySem.W.fnOf "_law_number" "_law_number" (defArgs sNumber) (defBody sNumber) (defScope sNumber) .none kVNum dcNum pmNum anNum cdNum ctNum), slNum⟩)
    (cNum : PySem.W.codeIn K cdNum "_law_number" = true)
    (kNum : PySem.W.keepIn K (.ref fNum) = true)
    (aOdd : PySem.W.nsIn K mainGlobals "_law_odd" = some (some (.ref fOdd)))
    (lOdd : K.lookup fOdd = some ⟨ocOdd, odOdd, .func (PySem.W.fnOf "_law_odd" "_law_odd" (defArgs sOdd) (defBody sOdd) (defScope sOdd) .none kVOdd dcOdd pmOdd anOdd cdOdd ctOdd), slOdd⟩)
    (cOdd : PySem.W.codeIn K cdOdd "_law_odd" = true)
    (kOdd : PySem.W.keepIn K (.ref fOdd) = true)
    (aDue : PySem.W.nsIn K mainGlobals "_law_due" = some (some (.ref fDue)))
    (lDue : K.lookup fDue = some ⟨ocDue, odDue, .func (PySem.W.fnOf "_law_due" "_law_due" (defArgs sDue) (defBody sDue) (defScope sDue) .none kVDue dcDue pmDue anDue cdDue ctDue), slDue⟩)
    (cDue : PySem.W.codeIn K cdDue "_law_due" = true)
    (kDue : PySem.W.keepIn K (.ref fDue) = true)
    (aRef : PySem.W.nsIn K mainGlobals "_law_refused" = some (some (.ref fRef)))
    (lRef : K.lookup fRef = some ⟨ocRef, odRef, .func (PySem.W.fnOf "_law_refused" "_law_refused" (defArgs sRefused) (defBody sRefused) (defScope sRefused) .none kVRef dcRef pmRef anRef cdRef ctRef), slRef⟩)
    (cRef : PySem.W.codeIn K cdRef "_law_refused" = true)
    (kRef : PySem.W.keepIn K (.ref fRef) = true)
    (aLaw : PySem.W.nsIn K mainGlobals "law" = some (some (.ref fLaw)))
    (lLaw : K.lookup fLaw = some ⟨ocLaw, odLaw, .func (PySem.W.fnOf "law" "law" (defArgs sLaw) (defBody sLaw) (defScope sLaw) .none kVLaw dcLaw pmLaw anLaw cdLaw ctLaw), slLaw⟩)
    (cLaw : PySem.W.codeIn K cdLaw "law" = true)
    (kLaw : PySem.W.keepIn K (.ref fLaw) = true)
    (pg : PySem.W.plainGet K C Str.empty = true)
    (hd : PySem.W.hasDictIn K C = true)
    (po : PySem.W.plainOver K C = true)
    (sa : PySem.W.findIn K (.ref C) "__setattr__" = some (some (.builtin "object.__setattr__")))
    (mk : PySem.W.makesIn K C = true)
    (kc : PySem.W.keepIn K (.ref C) = true)
    (nR : PySem.W.findIn K (.ref C) "rounds" = some none)
    (v1 : PySem.W.nsIn K mainGlobals "LEAST_ROUND" = some (some (.int 2 t1)))
    (v2 : PySem.W.nsIn K mainGlobals "MOST_MEMBERS" = some (some (.int 144 t2)))
    (xN0 : PySem.W.excIn K CN bmV "ValueError.__new__" = true)
    (xNk : PySem.W.keepIn K (.ref CN) = true)
    (xN : xcOk K CN = true)
    (xNt : PySem.W.typeIn K (.ref CN) = some (.type "type"))
    (xE : xcOk K CE = true)
    (xEt : PySem.W.typeIn K (.ref CE) = some (.type "type"))
    (xm : PySem.W.mroIn K CN (.ref CE) = some true)
    (q1 : PySem.W.kitOne K (.ref CN) (.ref CN) = some true)
    (q2 : PySem.W.kitOne K (.ref CN) (.type "ValueError") = some true)
    (q3 : PySem.W.kitOne K (.ref CN) (.ref CL) = some false)
    (q4 : PySem.W.kitOne K (.ref CN) (.ref CT) = some false)
    (zisinstance : PySem.W.nsIn K mainGlobals "isinstance" = some none)
    (zint : PySem.W.nsIn K mainGlobals "int" = some none)
    (zbool : PySem.W.nsIn K mainGlobals "bool" = some none)
    (zlist : PySem.W.nsIn K mainGlobals "list" = some none)
    (ztuple : PySem.W.nsIn K mainGlobals "tuple" = some none)
    (zall : PySem.W.nsIn K mainGlobals "all" = some none)
    (zlen : PySem.W.nsIn K mainGlobals "len" = some none)
    (zrange : PySem.W.nsIn K mainGlobals "range" = some none)
    (zsum : PySem.W.nsIn K mainGlobals "sum" = some none)
    (zValueError : PySem.W.nsIn K mainGlobals "ValueError" = some none) :
    ∃ fd : FuncData, (∀ (s : Shared) (v : Value), BindsTo s fd ⟨[v], []⟩ [("_law_script", v)]) ∧ ∀ base : Heap, K.In base → base.Ns mainGlobals mg → FnOk l.prog w K mg base CX0 7 fa fd ["_law_script"] (spD K pLaw) := by
  have e := hfa.symm.trans (PySem.W.mg_of X G aLaw)
  cases e
  have B : Bl mg := ⟨PySem.W.mg_none_of X G zisinstance, PySem.W.mg_none_of X G zint, PySem.W.mg_none_of X G zbool, PySem.W.mg_none_of X G zlist, PySem.W.mg_none_of X G ztuple, PySem.W.mg_none_of X G zall, PySem.W.mg_none_of X G zlen, PySem.W.mg_none_of X G zrange, PySem.W.mg_none_of X G zsum, PySem.W.mg_none_of X G zValueError⟩
  have FIsW := fun_mk (st := sIsWhole) lIsW cIsW kIsW
  have FPrd := fun_mk (st := sProduct) lPrd cPrd kPrd
  have FAre := fun_mk (st := sAre) lAre cAre kAre
  have FInit := fun_mk (st := sInit) lInit cInit kInit
  have FCell := fun_mk (st := sCell) lCell cCell kCell
  have FWh := fun_mk (st := sWhole) lWh cWh kWh
  have FSm := fun_mk (st := sSame) lSm cSm kSm
  have FNum := fun_mk (st := sNumber) lNum cNum kNum
  have FOdd := fun_mk (st := sOdd) lOdd cOdd kOdd
  have FDue := fun_mk (st := sDue) lDue cDue kDue
  have FRef := fun_mk (st := sRefused) lRef cRef kRef
  have FLaw := fun_mk (st := sLaw) lLaw cLaw kLaw
  have T : Txt K mg ⟨C, CE, CN, CL, CT, fIsW, fPrd, fAre, fInit, fCell, fWh, fSm, fNum, fOdd, fDue, fRef, _, _, _, _, _, _, _, _, _, _, _⟩ := ⟨B, ⟨⟨t1, PySem.W.mg_of X G v1⟩, ⟨t2, PySem.W.mg_of X G v2⟩, PySem.W.mg_of X G aIsW, PySem.W.mg_of X G aPrd⟩, ⟨⟨pg, hd, po, sa⟩, nR⟩, ⟨xN0, xNk, PySem.W.mg_of X G aCN, xisi_of xN, xNt⟩, ⟨mk, aInit, iInit, kc⟩, PySem.W.mg_of X G aC, PySem.W.mg_of X G aAre, PySem.W.mg_of X G aCE, PySem.W.mg_of X G aCL, PySem.W.mg_of X G aCT, xtop_of xE xEt, xm, q1, q2, q3, q4, FIsW, (FIsW.binds fun _ _ _ _ _ _ us hl => match us, hl with | [_], _ => rfl), FPrd, (FPrd.binds fun _ _ _ _ _ _ us hl => match us, hl with | [_], _ => rfl), FAre, (FAre.binds fun _ _ _ _ _ _ us hl => match us, hl with | [_], _ => rfl), FInit, (FInit.binds fun _ _ _ _ _ _ us hl => match us, hl with | [_, _], _ => rfl), PySem.W.mg_of X G aCell, FCell, (FCell.binds fun _ _ _ _ _ _ us hl => match us, hl with | [_, _], _ => rfl), PySem.W.mg_of X G aWh, FWh, (FWh.binds fun _ _ _ _ _ _ us hl => match us, hl with | [_], _ => rfl), PySem.W.mg_of X G aSm, FSm, (FSm.binds fun _ _ _ _ _ _ us hl => match us, hl with | [_, _], _ => rfl), PySem.W.mg_of X G aNum, FNum, (FNum.binds fun _ _ _ _ _ _ us hl => match us, hl with | [_], _ => rfl), PySem.W.mg_of X G aOdd, FOdd, (FOdd.binds fun _ _ _ _ _ _ us hl => match us, hl with | [_], _ => rfl), PySem.W.mg_of X G aDue, FDue, (FDue.binds fun _ _ _ _ _ _ us hl => match us, hl with | [_], _ => rfl), PySem.W.mg_of X G aRef, FRef, (FRef.binds fun _ _ _ _ _ _ us hl => match us, hl with | [_], _ => rfl)⟩
  exact ⟨_, fun s v => .of_eq rfl, fun base _ _ => ok_law T FLaw⟩
theorem walk {l : PySem.W.OpenLaw} {q : Program} {loose : List Str} {XP : (Str → Option Value) → Heap → Prop} {YP : World → Heap → Prop} {d : DefRec} {K : Params → PySem.W.Frag} (hn : l.most = some 63) (hdf : d.params.defaults = [])
    (hY : ∀ (w : World) (h : Heap), YP w h → (K w.params).In h)
    (F : ∀ (w : World) (mg : Str → Option Value) (fa : Addr) (h : Heap), (K w.params).In h → h.Ns mainGlobals mg → mg d.name = some (.ref fa) →
      ∃ fd : FuncData, (∀ (s : Shared) (u : Value), BindsTo s fd ⟨[u], []⟩ [("_law_script", u)]) ∧ ∀ base : Heap, (K w.params).In base → base.Ns mainGlobals mg → FnOk l.prog w (K w.params) mg base CX0 7 fa fd ["_law_script"] (spD (K w.params) pLaw)) :
    PySem.W.WalkO q loose XP YP l.row.toRowW d [] (fun f vs => PySem.call f vs) :=
  L2.walk_of (n := 63) (k := 7) (x := "_law_script") (CX := fun _ => CX0) (sp := fun w => spD (K w.params) pLaw) hn (by decide) hdf ⟨rfl, by decide, by decide⟩ hY F (fun _ _ a ns hl _ hS => law_sp hl hS) fun _ _ _ _ _ z => z
end K2
open PySem PySem.W PyProof.Rows
set_option maxRecDepth 100000 in
set_option maxHeartbeats 0 in
theorem PySem.Challenge.cw_carrytower_k02_no_rounds_holds : PySem.Challenge.rw_carrytower_k02_no_rounds.Holds := by
  w_on; o_law; k_head; (case hw => w_witness2)
  k_fill
  refine K2.walk (l := PySem.Challenge.rw_carrytower_k02_no_rounds) rfl rfl (fun w h Y => PySem.W.kIn_of Y) ?F
  case F =>
    intro w mg fa h KX G hmg
    refine' K2.all_mk KX G hmg ?aC ?aCE ?aCN ?aCL ?aCT ?aIsW ?lIsW ?cIsW ?kIsW ?aPrd ?lPrd ?cPrd ?kPrd ?aAre ?lAre ?cAre ?kAre ?aInit ?iInit ?lInit ?cInit ?kInit ?aCell ?lCell ?cCell ?kCell ?aWh ?lWh ?cWh ?kWh ?aSm ?lSm ?cSm ?kSm ?aNum ?lNum ?cNum ?kNum ?aOdd ?lOdd ?cOdd ?kOdd ?aDue ?lDue ?cDue ?kDue ?aRef ?lRef ?cRef ?kRef ?aLaw ?lLaw ?cLaw ?kLaw ?pg ?hd ?po ?sa ?mk ?kc ?nR ?v1 ?v2 ?xN0 ?xNk ?xN ?xNt ?xE ?xEt ?xm ?q1 ?q2 ?q3 ?q4 ?zisinstance ?zint ?zbool ?zlist ?ztuple ?zall ?zlen ?zrange ?zsum ?zValueError
    (case aC => k_is)
    (case aCE => k_is)
    (case aCN => k_is)
    (case aCL => k_is)
    (case aCT => k_is)
    (case aIsW => k_is)
    (case lIsW => k_is)
    (case cIsW => k_is)
    (case kIsW => k_is)
    (case aPrd => k_is)
    (case lPrd => k_is)
    (case cPrd => k_is)
    (case kPrd => k_is)
    (case aAre => k_is)
    (case lAre => k_is)
    (case cAre => k_is)
    (case kAre => k_is)
    (case aInit => k_is)
    (case iInit => k_is)
    (case lInit => k_is)
    (case cInit => k_is)
    (case kInit => k_is)
    (case aCell => k_is)
    (case lCell => k_is)
    (case cCell => k_is)
    (case kCell => k_is)
    (case aWh => k_is)
    (case lWh => k_is)
    (case cWh => k_is)
    (case kWh => k_is)
    (case aSm => k_is)
    (case lSm => k_is)
    (case cSm => k_is)
    (case kSm => k_is)
    (case aNum => k_is)
    (case lNum => k_is)
    (case cNum => k_is)
    (case kNum => k_is)
    (case aOdd => k_is)
    (case lOdd => k_is)
    (case cOdd => k_is)
    (case kOdd => k_is)
    (case aDue => k_is)
    (case lDue => k_is)
    (case cDue => k_is)
    (case kDue => k_is)
    (case aRef => k_is)
    (case lRef => k_is)
    (case cRef => k_is)
    (case kRef => k_is)
    (case aLaw => k_is)
    (case lLaw => k_is)
    (case cLaw => k_is)
    (case kLaw => k_is)
    (case pg => k_is)
    (case hd => k_is)
    (case po => k_is)
    (case sa => k_is)
    (case mk => k_is)
    (case kc => k_is)
    (case nR => k_is)
    (case v1 => k_is)
    (case v2 => k_is)
    (case xN0 => kernel_rfl)
    (case xNk => kernel_rfl)
    (case xN => kernel_rfl)
    (case xNt => kernel_rfl)
    (case xE => kernel_rfl)
    (case xEt => kernel_rfl)
    (case xm => kernel_rfl)
    (case q1 => kernel_rfl)
    (case q2 => kernel_rfl)
    (case q3 => kernel_rfl)
    (case q4 => kernel_rfl)
    (case zisinstance => k_is)
    (case zint => k_is)
    (case zbool => k_is)
    (case zlist => k_is)
    (case ztuple => k_is)
    (case zall => k_is)
    (case zlen => k_is)
    (case zrange => k_is)
    (case zsum => k_is)
    (case zValueError => k_is)

